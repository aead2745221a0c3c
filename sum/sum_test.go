package sum

import (
	"math"
	"slices"
	"testing"

	"rivulet/addr"
	"rivulet/api"
)

// drawer answers numbers that hang on seed alone.
func drawer(seed int) func(below int) int {
	state := uint32(seed)*2654435761 + 1
	return func(below int) int {
		state = state*1664525 + 1013904223
		return int(state>>16) % below
	}
}

func drawnBytes(draw func(below int) int, n int) []byte {
	out := make([]byte, n)
	for i := range out {
		out[i] = byte(draw(256))
	}
	return out
}

func drawnAddr(draw func(below int) int) addr.Addr {
	return addr.Addr(drawnBytes(draw, 16))
}

// filled is n times the same byte.
func filled(n int, b byte) []byte {
	return slices.Repeat([]byte{b}, n)
}

// sumByWords is the chapter's words, one after the other.
func sumByWords(b []byte) int {
	b = slices.Clone(b)
	if len(b)%2 == 1 {
		b = append(b, 0)
	}
	all := 0
	for i := 0; i < len(b); i += 2 {
		all += 256*int(b[i]) + int(b[i+1])
	}
	for all >= 65536 {
		all = all/65536 + all%65536
	}
	return all
}

// pseudoByWords is the pseudo-header's words, byte by byte, and the text.
func pseudoByWords(from, to addr.Addr, next int, text []byte) int {
	var b []byte
	b = append(b, from[:]...)
	b = append(b, to[:]...)
	n := len(text)
	b = append(b, byte(n/16777216), byte(n/65536), byte(n/256), byte(n))
	b = append(b, 0, 0, 0, byte(next))
	return 65535 - sumByWords(append(b, text...))
}

// someTexts answers texts of many lengths, of all kinds of bytes.
func someTexts() [][]byte {
	out := [][]byte{nil, {}, {0}, {1}, {255}, {0, 0}, {255, 255}, {0, 1}, {1, 0}, {255, 255, 0, 1}, {255, 255, 255, 255}}
	draw := drawer(4)
	for n := range 60 {
		out = append(out, drawnBytes(draw, n), filled(n, 0), filled(n, 255))
	}
	for _, n := range []int{255, 256, 257, 1279, 1280, 1281, 70000} {
		out = append(out, drawnBytes(draw, n), filled(n, 0), filled(n, 255))
	}
	return out
}

func wantSum(t *testing.T, s *Sum, value, length int) {
	t.Helper()
	if s.Value() != value || s.Len() != length {
		t.Errorf("value %#x, length %d; want %#x, %d", s.Value(), s.Len(), value, length)
	}
}

// P4.1, example 1.
func TestExample(t *testing.T) {
	b := []byte{0x00, 0x01, 0xf2, 0x03, 0xf4, 0xf5, 0xf6, 0xf7}
	var s Sum
	s.Add(b)
	wantSum(t, &s, 0xddf2, 8)
	if n := Of(b); n != 0x220d {
		t.Errorf("Of: %#x", n)
	}
}

// P4.1: the sum of bytes, and its checksum.
func TestSumByWords(t *testing.T) {
	for _, text := range someTexts() {
		want := sumByWords(text)
		var s Sum
		s.Add(text)
		wantSum(t, &s, want, len(text))
		if n := Of(text); n != 65535-want {
			t.Errorf("Of %d bytes: %#x, want %#x", len(text), n, 65535-want)
		}
	}
}

// P4.1: the edges by hand: nothing at all, one byte alone, what goes over.
func TestSumEdges(t *testing.T) {
	for _, c := range []struct {
		text []byte
		want int
	}{
		{nil, 0},
		{[]byte{0, 0}, 0},
		{[]byte{0x12}, 0x1200},
		{[]byte{0x12, 0x34}, 0x1234},
		{[]byte{0x12, 0x34, 0x56}, 0x6834},
		{[]byte{0xff, 0xff}, 0xffff},
		{[]byte{0xff, 0xff, 0, 1}, 1},
		{[]byte{0xff, 0xfe, 0, 1}, 0xffff},
		{[]byte{0xff, 0xff, 0xff, 0xff}, 0xffff},
		{[]byte{0x80, 0, 0x80, 0}, 1},
		{filled(2*65537, 0xff), 0xffff},
	} {
		var s Sum
		s.Add(c.text)
		wantSum(t, &s, c.want, len(c.text))
		if n := Of(c.text); n != 65535-c.want {
			t.Errorf("Of %d bytes: %#x, want %#x", len(c.text), n, 65535-c.want)
		}
	}
	if n := Of(); n != 65535 {
		t.Errorf("Of nothing: %#x", n)
	}
}

// P4.1: texts are one behind the other, wherever they are cut, and the sum may
// be asked in between.
func TestAddInPieces(t *testing.T) {
	b := drawnBytes(drawer(5), 23)
	for i := range len(b) + 1 {
		for j := i; j <= len(b); j++ {
			var at, one Sum
			at.Add(b[:i], b[i:j], nil, []byte{}, b[j:])
			wantSum(t, &at, sumByWords(b), len(b))
			one.Add(b[:i])
			wantSum(t, &one, sumByWords(b[:i]), i)
			one.Add()
			one.Add(b[i:j])
			wantSum(t, &one, sumByWords(b[:j]), j)
			one.Add(nil)
			one.Add(b[j:])
			wantSum(t, &one, sumByWords(b), len(b))
			if Of(b[:i], b[i:j], b[j:]) != Of(b) {
				t.Errorf("Of, cut at %d and %d", i, j)
			}
		}
	}
}

// P4.1: the zero Sum is empty, and asking changes nothing.
func TestZeroSum(t *testing.T) {
	var s Sum
	wantSum(t, &s, 0, 0)
	s.Add()
	s.Add(nil, []byte{})
	wantSum(t, &s, 0, 0)
	s.Add([]byte{7})
	wantSum(t, &s, 0x700, 1)
	wantSum(t, &s, 0x700, 1)
}

// P4.1: a Sum goes its own way: not that of another one, nor of its copy.
func TestSumsApart(t *testing.T) {
	var a, b Sum
	a.Add([]byte{1})
	copied := a
	a.Add([]byte{2})
	wantSum(t, &a, 0x102, 2)
	wantSum(t, &b, 0, 0)
	wantSum(t, &copied, 0x100, 1)
	copied.Add([]byte{9})
	wantSum(t, &copied, 0x109, 2)
	wantSum(t, &a, 0x102, 2)
}

// P4.3: a nil Sum.
func TestNilSum(t *testing.T) {
	var s *Sum
	wantSum(t, s, 0, 0)
	s.Add()
	s.Add([]byte{1, 2, 3}, nil)
	wantSum(t, s, 0, 0)
}

// P4.2: Pseudo, at texts of all lengths and all next headers.
func TestPseudoByWords(t *testing.T) {
	draw := drawer(6)
	for n := range api.MaxBytes + 1 {
		from, to, text := drawnAddr(draw), drawnAddr(draw), drawnBytes(draw, n)
		want := pseudoByWords(from, to, n%256, text)
		if got, e := Pseudo(from, to, n%256, text); got != want || e != api.OK {
			t.Errorf("%d bytes: %#x, error %d; want %#x", n, got, e, want)
		}
	}
	got, e := Pseudo(addr.Addr{}, addr.Addr{}, 0, nil)
	if got != 65535 || e != api.OK {
		t.Errorf("all 0: %#x, error %d", got, e)
	}
	// fe80 + 1 + 1 and ff02 + 1a of the addresses, 5 bytes, 3a next, and
	// 102 + 304 + 500 are 206e3, which is 6e5.
	from, _ := addr.Link(0)
	got, e = Pseudo(from, addr.All(), 58, []byte{1, 2, 3, 4, 5})
	if got != 0xffff-0x6e5 || e != api.OK {
		t.Errorf("by hand: %#x, error %d", got, e)
	}
}

// wrongCalls are what Pseudo refuses, with the error that is named first.
var wrongCalls = []struct {
	next, length int
	want         api.Errno
}{
	{-1, 4, api.ErrArg},
	{256, 4, api.ErrArg},
	{256 + 58, 4, api.ErrArg},
	{math.MinInt, 4, api.ErrArg},
	{math.MaxInt, 4, api.ErrArg},
	{1 << 32, 4, api.ErrArg},
	{58, api.MaxBytes + 1, api.ErrLong},
	{0, 70000, api.ErrLong},
	{255, 1 << 20, api.ErrLong},
	{-1, api.MaxBytes + 1, api.ErrArg},
	{256, 70000, api.ErrArg},
}

// P4.2, P1: what is wrong, and beside it nothing else.
func TestWrong(t *testing.T) {
	from, to := drawnAddr(drawer(7)), addr.All()
	for _, c := range wrongCalls {
		text := make([]byte, c.length)
		if n, e := Pseudo(from, to, c.next, text); n != 0 || e != c.want {
			t.Errorf("Pseudo, next %d, %d bytes: %d, error %d", c.next, c.length, n, e)
		}
		if Check(from, to, c.next, text) {
			t.Errorf("Check, next %d, %d bytes", c.next, c.length)
		}
		for _, at := range []int{0, 1, -2, c.length, math.MaxInt} {
			if b, e := Set(from, to, c.next, text, at); b != nil || e != c.want {
				t.Errorf("Set at %d, next %d, %d bytes: %v, error %d", at, c.next, c.length, b, e)
			}
		}
	}
}

// P4.2: a text that is too long isn't right, even if its sum is.
func TestCheckTooLong(t *testing.T) {
	from, to := drawnAddr(drawer(8)), addr.All()
	text := make([]byte, api.MaxBytes+2)
	n := pseudoByWords(from, to, 58, text)
	text[0], text[1] = byte(n>>8), byte(n)
	if pseudoByWords(from, to, 58, text) != 0 || Check(from, to, 58, text) {
		t.Error("a text of 1282 bytes")
	}
}

// P4.2: Check is whether Pseudo is 0.
func TestCheck(t *testing.T) {
	from, to := drawnAddr(drawer(9)), addr.All()
	text := []byte{0, 0, 1, 2, 3}
	right := 0
	for n := range 65536 {
		text[0], text[1] = byte(n>>8), byte(n)
		got, e := Pseudo(from, to, 58, text)
		if e != api.OK || Check(from, to, 58, text) != (got == 0) {
			t.Fatalf("%#x: %#x, error %d", n, got, e)
		}
		if got == 0 {
			right++
		}
	}
	if right != 1 {
		t.Errorf("%d are right", right)
	}
	if Check(from, to, 58, nil) {
		t.Error("an empty text")
	}
}

// P4.2: Set, at all lengths and at the first, a middle and the last place.
func TestSet(t *testing.T) {
	draw := drawer(10)
	for n := 2; n <= api.MaxBytes; n++ {
		from, to, text := drawnAddr(draw), drawnAddr(draw), drawnBytes(draw, n)
		for _, at := range []int{0, n / 4 * 2, (n - 2) / 2 * 2} {
			if at+2 > n {
				continue
			}
			got, e := Set(from, to, n%256, text, at)
			if e != api.OK || len(got) != n || !Check(from, to, n%256, got) || pseudoByWords(from, to, n%256, got) != 0 {
				t.Fatalf("%d bytes, at %d: error %d", n, at, e)
			}
			if !slices.Equal(got[:at], text[:at]) || !slices.Equal(got[at+2:], text[at+2:]) {
				t.Fatalf("%d bytes, at %d: others are changed", n, at)
			}
		}
	}
}

// P4.2: what stood at the place doesn't matter, and a text that is set is set
// to the same again.
func TestSetAgain(t *testing.T) {
	from, to := drawnAddr(drawer(11)), addr.All()
	first, _ := Set(from, to, 58, []byte{155, 1, 0, 0, 1, 2, 3}, 2)
	for n := range 65536 {
		got, e := Set(from, to, 58, []byte{155, 1, byte(n >> 8), byte(n), 1, 2, 3}, 2)
		if e != api.OK || !slices.Equal(got, first) {
			t.Fatalf("%#x: %v, error %d", n, got, e)
		}
	}
	// where the others' sum is 65535, the checksum is 0
	got, e := Set(addr.Addr{}, addr.Addr{}, 1, []byte{0xff, 0xfa, 9, 9}, 2)
	if e != api.OK || !slices.Equal(got, []byte{0xff, 0xfa, 0, 0}) {
		t.Errorf("of 65535: %v, error %d", got, e)
	}
}

// P4.2: places that Set refuses.
func TestSetPlaces(t *testing.T) {
	from, to := drawnAddr(drawer(12)), addr.All()
	for n := range 9 {
		text := make([]byte, n)
		for at := -4; at < 14; at++ {
			good := at >= 0 && at+2 <= n && at%2 == 0
			got, e := Set(from, to, 58, text, at)
			if good != (e == api.OK) || !good && (e != api.ErrArg || got != nil) {
				t.Errorf("%d bytes, at %d: %v, error %d", n, at, got, e)
			}
		}
		for _, at := range []int{math.MinInt, math.MinInt + 1, math.MaxInt - 1, math.MaxInt, 1 << 32} {
			if got, e := Set(from, to, 58, text, at); got != nil || e != api.ErrArg {
				t.Errorf("%d bytes, at %d: %v, error %d", n, at, got, e)
			}
		}
	}
}

// P4.3: the order of pairs doesn't matter; that of a pair's bytes does.
func TestOrderOfPairs(t *testing.T) {
	b := drawnBytes(drawer(13), 40)
	want := Of(b)
	for i := 0; i < len(b); i += 2 {
		for j := 0; j < i; j += 2 {
			turned := slices.Clone(b)
			copy(turned[i:i+2], b[j:j+2])
			copy(turned[j:j+2], b[i:i+2])
			if Of(turned) != want {
				t.Errorf("pairs %d and %d", i, j)
			}
		}
	}
	if Of([]byte{1, 2}) == Of([]byte{2, 1}) {
		t.Error("the bytes of a pair")
	}
	from, to := drawnAddr(drawer(14)), addr.All()
	there, _ := Pseudo(from, to, 58, b)
	if back, _ := Pseudo(to, from, 58, b); back != there {
		t.Errorf("there %#x, back %#x", there, back)
	}
}

// P4.3: one pair replaced by another one has another checksum, but for 0 and
// 65535.
func TestPairReplaced(t *testing.T) {
	text := []byte{1, 2, 0, 0, 3}
	by := map[int]int{}
	for n := range 65535 {
		text[2], text[3] = byte(n>>8), byte(n)
		x := Of(text)
		if before, ok := by[x]; ok {
			t.Fatalf("%#x and %#x have both %#x", before, n, x)
		}
		by[x] = n
	}
	text[2], text[3] = 255, 255
	if n, ok := by[Of(text)]; !ok || n != 0 {
		t.Error("0 and 65535")
	}
}

// P4.3: bytes aren't changed or kept, and what is told is new memory.
func TestBytesStay(t *testing.T) {
	from, to := drawnAddr(drawer(15)), addr.All()
	room := []byte{1, 2, 3, 4, 5, 6, 7, 8}
	text := room[:5]
	var s Sum
	s.Add(text, text)
	Of(text, text)
	Pseudo(from, to, 58, text)
	Check(from, to, 58, text)
	got, e := Set(from, to, 58, text, 2)
	if e != api.OK || !slices.Equal(room, []byte{1, 2, 3, 4, 5, 6, 7, 8}) {
		t.Errorf("changed: %v, error %d", room, e)
	}
	kept := slices.Clone(got)
	value := s.Value()
	clear(room)
	if !slices.Equal(got, kept) || s.Value() != value {
		t.Error("kept")
	}
	got[0] = 77
	if room[0] != 0 {
		t.Error("shared")
	}
	right, _ := Set(from, to, 58, []byte{0, 0, 1}, 0)
	again, _ := Set(from, to, 58, right, 0)
	again[2] = 50
	if right[2] != 1 {
		t.Error("shared though nothing was to be changed")
	}
}

// P2: the same calls have the same answers.
func TestSameAgain(t *testing.T) {
	for _, text := range someTexts() {
		from, to := drawnAddr(drawer(len(text))), addr.All()
		a, x := Pseudo(from, to, 58, text)
		b, y := Pseudo(from, to, 58, text)
		if a != b || x != y || Of(text) != Of(text) {
			t.Errorf("%d bytes", len(text))
		}
	}
}
