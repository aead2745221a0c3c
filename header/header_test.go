package header

import (
	"bytes"
	"math"
	"slices"
	"testing"

	"rivulet/addr"
	"rivulet/api"
)

// drawer answers numbers that hang on seed alone.
func drawer(seed int) func(below int) int {
	state := uint64(seed)*2654435761 + 1
	return func(below int) int {
		state = state*6364136223846793005 + 1442695040888963407
		return int(state>>33) % below
	}
}

func drawnBytes(draw func(below int) int, n int) []byte {
	out := make([]byte, n)
	for i := range out {
		out[i] = byte(draw(256))
	}
	return out
}

// drawn is a header that is right, with its numbers often at their ends.
func drawn(draw func(below int) int) Header {
	number := func(last int) int {
		switch draw(4) {
		case 0:
			return 0
		case 1:
			return last
		}
		return draw(last + 1)
	}
	return Header{
		Class: number(255), Flow: number(1<<20 - 1), Length: number(65535), Next: number(255), Hops: number(255),
		From: addr.Addr(drawnBytes(draw, 16)), To: addr.Addr(drawnBytes(draw, 16)),
	}
}

// bytesByWords is the chapter's words, bit by bit.
func bytesByWords(h Header) []byte {
	var bits []byte
	put := func(n, size int) {
		for i := size - 1; i >= 0; i-- {
			bits = append(bits, byte(n>>i&1))
		}
	}
	put(6, 4)
	put(h.Class, 8)
	put(h.Flow, 20)
	put(h.Length, 16)
	put(h.Next, 8)
	put(h.Hops, 8)
	for _, a := range []addr.Addr{h.From, h.To} {
		for _, b := range a {
			put(int(b), 8)
		}
	}
	out := make([]byte, len(bits)/8)
	for i, bit := range bits {
		out[i/8] = out[i/8]<<1 | bit
	}
	return out
}

// sample is a header with each field different from the others.
func sample() Header {
	h := Header{Class: 0xab, Flow: 0x12345, Length: 5, Next: Control, Hops: 64}
	for i := range h.From {
		h.From[i], h.To[i] = byte(0x10+i), byte(0xe0+i)
	}
	return h
}

// datagram is the bytes of a header with the length of a text, and the text.
func datagram(h Header, text []byte) []byte {
	h.Length = len(text)
	return append(bytesByWords(h), text...)
}

// wrongHeaders are headers with one number that isn't as it must be.
func wrongHeaders() []Header {
	var out []Header
	for _, field := range []struct {
		of   func(h *Header) *int
		last int
	}{
		{func(h *Header) *int { return &h.Class }, 255},
		{func(h *Header) *int { return &h.Flow }, 1<<20 - 1},
		{func(h *Header) *int { return &h.Length }, 65535},
		{func(h *Header) *int { return &h.Next }, 255},
		{func(h *Header) *int { return &h.Hops }, 255},
	} {
		for _, bad := range []int{-1, field.last + 1, -field.last - 1, 2*field.last + 1, 1 << 32, math.MinInt, math.MaxInt} {
			h := sample()
			*field.of(&h) = bad
			out = append(out, h)
		}
	}
	return out
}

// P5.1: the names of the size and of next headers.
func TestConstants(t *testing.T) {
	if got := [...]int{Size, Options, Control, Data, None}; got != [...]int{40, 0, 58, 17, 59} {
		t.Errorf("got %v", got)
	}
}

// P5.1: Check at both ends of each number.
func TestCheck(t *testing.T) {
	for _, h := range []Header{
		{}, sample(),
		{Class: 255}, {Flow: 1<<20 - 1}, {Length: 65535}, {Next: 255}, {Hops: 255},
		{Class: 255, Flow: 1<<20 - 1, Length: 65535, Next: 255, Hops: 255, From: addr.All(), To: addr.All()},
	} {
		if e := Check(h); e != api.OK {
			t.Errorf("%v: error %d", h, e)
		}
	}
	for _, h := range wrongHeaders() {
		if e := Check(h); e != api.ErrArg {
			t.Errorf("%v: error %d", h, e)
		}
	}
}

// P5.1, example 1, and a header written out.
func TestEncodeByHand(t *testing.T) {
	b, e := Encode(Header{Class: 1, Flow: 2})
	if e != api.OK || len(b) != 40 || !bytes.Equal(b[:4], []byte{0x60, 0x10, 0x00, 0x02}) {
		t.Errorf("%x, error %d", b, e)
	}
	b, e = Encode(sample())
	want := []byte{
		0x6a, 0xb1, 0x23, 0x45, 0x00, 0x05, 58, 64,
		0x10, 0x11, 0x12, 0x13, 0x14, 0x15, 0x16, 0x17, 0x18, 0x19, 0x1a, 0x1b, 0x1c, 0x1d, 0x1e, 0x1f,
		0xe0, 0xe1, 0xe2, 0xe3, 0xe4, 0xe5, 0xe6, 0xe7, 0xe8, 0xe9, 0xea, 0xeb, 0xec, 0xed, 0xee, 0xef,
	}
	if e != api.OK || !bytes.Equal(b, want) {
		t.Errorf("%x, error %d", b, e)
	}
	b, e = Encode(Header{})
	if e != api.OK || !bytes.Equal(b, append([]byte{0x60}, make([]byte, 39)...)) {
		t.Errorf("all 0: %x, error %d", b, e)
	}
	// A length is its own number here: 65535 bytes need not be there.
	b, e = Encode(Header{Class: 255, Flow: 1<<20 - 1, Length: 65535, Next: 255, Hops: 255})
	if e != api.OK || !bytes.Equal(b, append([]byte{0x6f, 255, 255, 255, 255, 255, 255, 255}, make([]byte, 32)...)) {
		t.Errorf("the last ones: %x, error %d", b, e)
	}
}

// P5.1: Encode, at many headers.
func TestEncodeByWords(t *testing.T) {
	draw := drawer(1)
	for range 2000 {
		h := drawn(draw)
		if b, e := Encode(h); e != api.OK || !bytes.Equal(b, bytesByWords(h)) {
			t.Errorf("%v: %x, error %d", h, b, e)
		}
	}
}

// P5.1, P1: what Encode refuses, and beside it nothing.
func TestEncodeRefuses(t *testing.T) {
	for _, h := range wrongHeaders() {
		if b, e := Encode(h); e != api.ErrArg || b != nil {
			t.Errorf("%v: %x, error %d", h, b, e)
		}
	}
}

// P5.1, P5.3: what is encoded is decoded as it was, with texts of all lengths.
func TestDecode(t *testing.T) {
	draw := drawer(2)
	for n := range api.MaxBytes - Size + 1 {
		h, text := drawn(draw), drawnBytes(draw, n)
		h.Length = n
		b, e := Encode(h)
		if e != api.OK {
			t.Fatalf("%v: error %d", h, e)
		}
		got, behind, e := Decode(append(b, text...))
		if e != api.OK || got != h || !bytes.Equal(behind, text) {
			t.Errorf("%d bytes: %v, %x, error %d; want %v, %x", n, got, behind, e, h, text)
		}
	}
}

// P5.1, P5.3: any bytes are refused, or are those of the header that is told.
func TestDecodeAnyBytes(t *testing.T) {
	draw := drawer(3)
	good := 0
	for range 20000 {
		n := draw(90)
		b := drawnBytes(draw, n)
		if n >= Size && draw(3) > 0 {
			b[0], b[4], b[5] = 0x60|b[0]&15, 0, byte(n-Size+draw(3)-1)
		}
		h, behind, e := Decode(b)
		if e != api.OK {
			if h != (Header{}) || behind != nil {
				t.Errorf("%x: %v, %x, error %d", b, h, behind, e)
			}
			continue
		}
		good++
		if Check(h) != api.OK || !bytes.Equal(b, datagram(h, behind)) || h.Length != len(behind) {
			t.Errorf("%x: %v, %x", b, h, behind)
		}
	}
	if good == 0 {
		t.Error("none was right")
	}
}

func wantRefused(t *testing.T, what string, b []byte, want api.Errno) {
	t.Helper()
	h, behind, e := Decode(b)
	if e != want || h != (Header{}) || behind != nil {
		t.Errorf("%s: %v, %d bytes, error %d; want error %d", what, h, len(behind), e, want)
	}
}

// withLength is bytes that say they have so many behind the header.
func withLength(b []byte, n int) []byte {
	out := slices.Clone(b)
	out[4], out[5] = byte(n>>8), byte(n)
	return out
}

// P5.1: Decode of fewer bytes than a header has, whatever they are.
func TestDecodeShort(t *testing.T) {
	whole := datagram(sample(), nil)
	for n := range Size {
		wantRefused(t, "cut", whole[:n], api.ErrEnd)
		wantRefused(t, "all 0", make([]byte, n), api.ErrEnd)
		wantRefused(t, "all 255", bytes.Repeat([]byte{255}, n), api.ErrEnd)
	}
	wantRefused(t, "nil", nil, api.ErrEnd)
}

// P5.1: only 6 in the first four bits; told ahead of what is too long, and of
// lengths that aren't right.
func TestDecodeVersion(t *testing.T) {
	for _, n := range []int{Size, Size + 5, api.MaxBytes, api.MaxBytes + 1, 5000} {
		for first := range 256 {
			b := datagram(sample(), make([]byte, n-Size))
			b[0] = byte(first)
			if first>>4 != 6 {
				wantRefused(t, "another version", b, api.ErrForm)
				wantRefused(t, "another version, too short", withLength(b, n-Size+1), api.ErrForm)
			} else if h, _, e := Decode(b); n <= api.MaxBytes && (e != api.OK || h.Class>>4 != first&15) {
				t.Errorf("first byte %x: %v, error %d", first, h, e)
			}
		}
	}
}

// P5.1: more than the most bytes, told ahead of lengths that aren't right.
func TestDecodeLong(t *testing.T) {
	most := datagram(sample(), make([]byte, api.MaxBytes-Size))
	if h, behind, e := Decode(most); e != api.OK || h.Length != 1240 || len(behind) != 1240 {
		t.Errorf("%v, %d bytes, error %d", h, len(behind), e)
	}
	for _, n := range []int{api.MaxBytes + 1, api.MaxBytes + 2, 5000, Size + 65535, 1 << 20} {
		b := datagram(sample(), make([]byte, n-Size))
		for _, length := range []int{0, 1, 1240, 1241, n - Size - 1, n - Size, n - Size + 1, 65535} {
			wantRefused(t, "long", withLength(b, length), api.ErrLong)
		}
	}
}

// P5.1: fewer bytes behind the header than its length, and more.
func TestDecodeLengths(t *testing.T) {
	for _, n := range []int{0, 1, 2, 5, 254, 255, 256, 257, 1239, 1240} {
		b := datagram(sample(), make([]byte, n))
		for _, more := range []int{n + 1, n + 2, n + 256, 32768, 65535} {
			wantRefused(t, "fewer", withLength(b, more), api.ErrEnd)
		}
		for less := range n {
			wantRefused(t, "more", withLength(b, less), api.ErrForm)
		}
	}
}

// P5.2, P5.3, example 1: a datagram passes one time less than its hop limit.
func TestPassed(t *testing.T) {
	for hops := range 256 {
		h := sample()
		h.Hops = hops
		times := 0
		for {
			want := h
			want.Hops--
			next, e := Passed(h)
			if e != api.OK {
				if e != api.ErrHop || next != (Header{}) || h.Hops > 1 {
					t.Errorf("hop limit %d: %v, error %d", h.Hops, next, e)
				}
				break
			}
			if next != want {
				t.Errorf("hop limit %d: %v", h.Hops, next)
			}
			h = next
			times++
			if times > 256 {
				t.Fatalf("hop limit %d: it passes without an end", hops)
			}
		}
		if times != max(hops-1, 0) {
			t.Errorf("hop limit %d: it passed %d times", hops, times)
		}
	}
}

// P5.2, P1: what Passed refuses, told ahead of the hop limit.
func TestPassedRefuses(t *testing.T) {
	for _, h := range wrongHeaders() {
		if got, e := Passed(h); e != api.ErrArg || got != (Header{}) {
			t.Errorf("%v: %v, error %d", h, got, e)
		}
		if h.Hops != sample().Hops {
			continue
		}
		for h.Hops = range 2 {
			if got, e := Passed(h); e != api.ErrArg || got != (Header{}) {
				t.Errorf("%v: %v, error %d", h, got, e)
			}
		}
	}
}

// P5.2: With has the texts one behind the other, and their length, whatever
// length the header came with.
func TestWith(t *testing.T) {
	draw := drawer(4)
	for range 1000 {
		h := drawn(draw)
		var text [][]byte
		for range draw(6) {
			text = append(text, drawnBytes(draw, draw(3)*draw(60)))
		}
		whole := bytes.Join(text, nil)
		b, e := With(h, text...)
		if e != api.OK || !bytes.Equal(b, datagram(h, whole)) {
			t.Errorf("%v, %x: %x, error %d", h, text, b, e)
		}
		h.Length = len(whole)
		if got, behind, e := Decode(b); e != api.OK || got != h || !bytes.Equal(behind, whole) {
			t.Errorf("decoded: %v, %x, error %d", got, behind, e)
		}
	}
}

// P5.2: With without a text, and with empty ones.
func TestWithNothing(t *testing.T) {
	want := datagram(sample(), nil)
	for i, text := range [][][]byte{nil, {}, {nil}, {{}}, {nil, {}, nil}, make([][]byte, 1<<16)} {
		if b, e := With(sample(), text...); e != api.OK || !bytes.Equal(b, want) {
			t.Errorf("%d: %x, error %d", i, b, e)
		}
	}
	if b, e := With(sample()); e != api.OK || !bytes.Equal(b, want) {
		t.Errorf("%x, error %d", b, e)
	}
}

// P5.2: With up to the most bytes, and one beyond it, in one text or several.
func TestWithLong(t *testing.T) {
	const most = api.MaxBytes - Size
	full := drawnBytes(drawer(5), most)
	for _, cut := range []int{0, 1, 620, most - 1, most} {
		b, e := With(sample(), full[:cut], full[cut:])
		if e != api.OK || len(b) != api.MaxBytes || !bytes.Equal(b, datagram(sample(), full)) {
			t.Errorf("cut at %d: %d bytes, error %d", cut, len(b), e)
		}
	}
	one := []byte{1}
	huge := make([]byte, 1<<20)
	for i, text := range [][][]byte{
		{full, one}, {one, full}, {full, nil, one}, {append(slices.Clone(full), 1)}, {full, full},
		{huge}, {huge, one}, {one, huge}, slices.Repeat([][]byte{one}, most+1), slices.Repeat([][]byte{huge}, 1<<13),
		{make([]byte, api.MaxBytes)}, {make([]byte, 65535)}, {make([]byte, 65536)}, {make([]byte, 65536), one},
	} {
		if b, e := With(sample(), text...); e != api.ErrLong || b != nil {
			t.Errorf("%d: %d bytes, error %d", i, len(b), e)
		}
	}
}

// P5.2, P1: With refuses a header that isn't right, whatever the texts are; but
// its length isn't looked at.
func TestWithRefuses(t *testing.T) {
	for _, h := range wrongHeaders() {
		for _, text := range [][]byte{nil, {1, 2, 3}, make([]byte, api.MaxBytes)} {
			b, e := With(h, text)
			if h.Length == sample().Length {
				if e != api.ErrArg || b != nil {
					t.Errorf("%v, %d bytes: %x, error %d", h, len(text), b, e)
				}
			} else if len(text) < api.MaxBytes && (e != api.OK || !bytes.Equal(b, datagram(h, text))) {
				t.Errorf("%v, %d bytes: %x, error %d", h, len(text), b, e)
			} else if len(text) == api.MaxBytes && (e != api.ErrLong || b != nil) {
				t.Errorf("%v, %d bytes: %x, error %d", h, len(text), b, e)
			}
		}
	}
}

// spoil overwrites all memory of an answer.
func spoil(b []byte) {
	for i := range b[:cap(b)] {
		b[:cap(b)][i] = 200
	}
}

// P5.3: bytes that are handed in stay as they were, also those behind them.
func TestBytesStay(t *testing.T) {
	room := drawnBytes(drawer(6), 60)
	copy(room, datagram(sample(), room[Size:50]))
	was := slices.Clone(room)
	text := room[50:53]
	h, behind, e := Decode(room[:50])
	made, e2 := With(sample(), text, behind, text)
	if e != api.OK || e2 != api.OK || !bytes.Equal(room, was) {
		t.Fatalf("errors %d, %d; %x, it was %x", e, e2, room, was)
	}
	spoil(behind)
	spoil(made)
	if !bytes.Equal(room, was) {
		t.Errorf("%x, it was %x", room, was)
	}
	if again, _, _ := Decode(room[:50]); again != h {
		t.Errorf("%v, then %v", h, again)
	}
}

// P5.3: bytes aren't kept, and answers are new memory.
func TestNewMemory(t *testing.T) {
	b := datagram(sample(), []byte("hello"))
	h, behind, _ := Decode(b)
	made, _ := With(sample(), b[Size:], behind)
	encoded, _ := Encode(h)
	twin, _ := Encode(h)
	clear(b)
	if h != sample() || string(behind) != "hello" {
		t.Errorf("%v, %q", h, behind)
	}
	spoil(behind)
	spoil(twin)
	if string(made[Size:]) != "hellohello" || !bytes.Equal(encoded, bytesByWords(sample())) {
		t.Errorf("%x, %x", made, encoded)
	}
	if again, e := Encode(h); e != api.OK || !bytes.Equal(again, encoded) {
		t.Errorf("%x, then %x", encoded, again)
	}
}

// P2: the same calls have the same answers.
func TestSameAgain(t *testing.T) {
	draw := drawer(7)
	for range 200 {
		h, text := drawn(draw), drawnBytes(draw, draw(50))
		a, x := With(h, text)
		b, y := With(h, text)
		if x != y || !bytes.Equal(a, b) {
			t.Errorf("With: %x, error %d; then %x, error %d", a, x, b, y)
		}
		first, behind, x := Decode(a)
		second, same, y := Decode(a)
		if x != y || first != second || !bytes.Equal(behind, same) {
			t.Errorf("Decode: %v, error %d; then %v, error %d", first, x, second, y)
		}
		p, x := Passed(h)
		q, y := Passed(h)
		if p != q || x != y || Check(h) != Check(h) {
			t.Errorf("Passed: %v, error %d; then %v, error %d", p, x, q, y)
		}
	}
}
