package pack

import (
	"bytes"
	"math"
	"slices"
	"testing"

	"rivulet/api"
)

// What is no size, from beside the edges to the ends of the numbers.
func noSizes() []int {
	return []int{0, 3, 5, 8, -1, -2, -4, 16, math.MinInt, math.MaxInt}
}

func counted(n int) []byte {
	b := make([]byte, n)
	for i := range b {
		b[i] = byte(i + 1)
	}
	return b
}

// wantCursor looks at all that a cursor tells without reading.
func wantCursor(t *testing.T, what string, c *Cursor, at, left int, e api.Errno) {
	t.Helper()
	if c.At() != at || c.Left() != left || c.Err() != e {
		t.Errorf("%s: at %d, left %d, error %d; want at %d, left %d, error %d",
			what, c.At(), c.Left(), c.Err(), at, left, e)
	}
	closed := e
	if e == api.OK && left > 0 {
		closed = api.ErrForm
	}
	if got := c.Close(); got != closed {
		t.Errorf("%s: Close answers %d, want %d", what, got, closed)
	}
	if c.Err() != e {
		t.Errorf("%s: Close left the error %d, want %d", what, c.Err(), e)
	}
}

// wantSpoiled looks whether nothing is read any more, whatever is asked for.
func wantSpoiled(t *testing.T, what string, c *Cursor, at, left int, e api.Errno) {
	t.Helper()
	wantCursor(t, what, c, at, left, e)
	for _, n := range []int{math.MinInt, -1, 0, 1, 2, 3, 4, math.MaxInt} {
		if c.Take(n) != 0 || len(c.Many(n, n)) != 0 || len(c.Many(1, n)) != 0 || len(c.Many(n, 1)) != 0 {
			t.Errorf("%s: a number was read at %d", what, n)
		}
		if len(c.Bytes(n)) != 0 || len(c.Peek(n)) != 0 {
			t.Errorf("%s: bytes were read at %d", what, n)
		}
		w := c.Within(n)
		if w == nil {
			t.Fatalf("%s: no cursor within at %d", what, n)
		}
		wantCursor(t, what+", within", w, 0, 0, e)
	}
	for _, other := range []api.Errno{api.OK, api.ErrSum, api.ErrOver, -5} {
		c.Spoil(other)
	}
	wantCursor(t, what+", once more", c, at, left, e)
}

// P2.1: Fits at the ends of each size.
func TestFits(t *testing.T) {
	for size, last := range map[int]int{1: 1<<8 - 1, 2: 1<<16 - 1, 4: 1<<32 - 1} {
		if !Fits(size) || !Fits(size, nil...) || !Fits(size, []int{}...) {
			t.Errorf("size %d: none of them were refused", size)
		}
		if !Fits(size, 0) || !Fits(size, 1) || !Fits(size, last) || !Fits(size, 0, last, 1, last-1) {
			t.Errorf("size %d: its numbers were refused", size)
		}
		for _, bad := range []int{-1, last + 1, -last, -last - 1, math.MinInt, math.MaxInt, 1 << 33, 1 << 62} {
			for _, l := range [][]int{{bad}, {bad, 1, 2}, {1, bad, 2}, {1, 2, bad}} {
				if Fits(size, l...) {
					t.Errorf("Fits(%d, %v) holds", size, l)
				}
			}
		}
	}
	for _, size := range noSizes() {
		if Fits(size) || Fits(size, 0) || Fits(size, 1, 2) {
			t.Errorf("size %d fits", size)
		}
	}
}

// P2.1: Put writes the highest byte first, behind what there is.
func TestPut(t *testing.T) {
	for i, y := range []struct {
		b    []byte
		size int
		l    []int
		want []byte
	}{
		{nil, 2, []int{258}, []byte{1, 2}},
		{nil, 1, []int{0, 255, 7}, []byte{0, 255, 7}},
		{nil, 2, []int{0, 65535, 255, 256}, []byte{0, 0, 255, 255, 0, 255, 1, 0}},
		{nil, 4, []int{0x01020304, 1<<32 - 1, 256}, []byte{1, 2, 3, 4, 255, 255, 255, 255, 0, 0, 1, 0}},
		{nil, 4, []int{1 << 31}, []byte{128, 0, 0, 0}},
		{[]byte{9}, 4, []int{1}, []byte{9, 0, 0, 0, 1}},
		{[]byte{9, 8}, 2, nil, []byte{9, 8}},
		{nil, 1, nil, nil},
		{[]byte{}, 4, []int{}, nil},
	} {
		got, e := Put(y.b, y.size, y.l...)
		if e != api.OK || !bytes.Equal(got, y.want) {
			t.Errorf("%d: got %v, error %d; want %v", i, got, e, y.want)
		}
	}
}

// P2.1: Put up to the most bytes, and one beyond it.
func TestPutLong(t *testing.T) {
	for _, size := range []int{1, 2, 4} {
		full := make([]int, api.MaxBytes/size)
		full[len(full)-1] = 77
		got, e := Put(nil, size, full...)
		if e != api.OK || len(got) != api.MaxBytes || got[api.MaxBytes-1] != 77 {
			t.Errorf("size %d: %d bytes, error %d", size, len(got), e)
		}
		got, e = Put(make([]byte, api.MaxBytes-size), size, 77)
		if e != api.OK || len(got) != api.MaxBytes {
			t.Errorf("size %d: %d bytes, error %d", size, len(got), e)
		}
		for i, y := range []struct {
			b []byte
			l []int
		}{
			{nil, append(full, 1)}, {[]byte{1}, full}, {make([]byte, api.MaxBytes-size+1), []int{1}},
			{make([]byte, api.MaxBytes), []int{0}}, {make([]byte, api.MaxBytes+1), nil}, {make([]byte, 5000), []int{1, 2}},
			{nil, make([]int, 1<<20)},
		} {
			if got, e := Put(y.b, size, y.l...); e != api.ErrLong || got != nil {
				t.Errorf("size %d, %d: %d bytes, error %d", size, i, len(got), e)
			}
		}
		if got, e := Put(make([]byte, api.MaxBytes), size); e != api.OK || len(got) != api.MaxBytes {
			t.Errorf("size %d: %d bytes, error %d", size, len(got), e)
		}
	}
}

// P2.1: Put with wrong inputs, which are told ahead of too many bytes.
func TestPutRefuses(t *testing.T) {
	for _, b := range [][]byte{nil, {1, 2}, make([]byte, api.MaxBytes), make([]byte, 5000)} {
		for _, size := range noSizes() {
			for _, l := range [][]int{nil, {0}, {1, 2}} {
				if got, e := Put(b, size, l...); e != api.ErrArg || got != nil {
					t.Errorf("size %d: got %v, error %d", size, got, e)
				}
			}
		}
		for size, bad := range map[int]int{1: 256, 2: 65536, 4: 1 << 32} {
			for _, l := range [][]int{{bad}, {1, bad}, {-1}, {1, 2, math.MinInt}, {math.MaxInt, 1}} {
				if got, e := Put(b, size, l...); e != api.ErrArg || got != nil {
					t.Errorf("Put of %v in size %d: got %v, error %d", l, size, got, e)
				}
			}
		}
	}
}

// P2.1: what Put answers is new memory, and what it was handed stays.
func TestPutNewMemory(t *testing.T) {
	room := []byte{1, 2, 3, 4, 5, 6}
	l := []int{7, 8}
	got, _ := Put(room[:2], 1, l...)
	if !bytes.Equal(room, []byte{1, 2, 3, 4, 5, 6}) || !slices.Equal(l, []int{7, 8}) {
		t.Errorf("Put changed what it was handed: %v, %v", room, l)
	}
	got[0] = 99
	same, _ := Put(room, 4)
	same[5] = 99
	if room[0] != 1 || room[5] != 6 {
		t.Error("the answer shares what was handed in")
	}
}

// P2.2: Take reads what Put wrote, size by size.
func TestTake(t *testing.T) {
	for size, last := range map[int]int{1: 1<<8 - 1, 2: 1<<16 - 1, 4: 1<<32 - 1} {
		l := []int{0, 1, 127, 128, 255, last / 3, last/2 + 1, last - 1, last}
		b, _ := Put(nil, size, l...)
		c := Over(b)
		for i, want := range l {
			if got := c.Take(size); got != want {
				t.Errorf("size %d: got %d, want %d", size, got, want)
			}
			wantCursor(t, "Take", c, size*(i+1), len(b)-size*(i+1), api.OK)
		}
		if many := Over(b).Many(size, len(l)); !slices.Equal(many, l) {
			t.Errorf("size %d: Many answers %v", size, many)
		}
	}
	if got := Over([]byte{0, 0, 1, 0}).Take(4); got != 256 {
		t.Errorf("got %d, want 256", got)
	}
}

// P2.2: Take with fewer bytes, and with no size, which is told first.
func TestTakeRefuses(t *testing.T) {
	for _, size := range []int{1, 2, 4} {
		for left := range size {
			c := Over(counted(3 + left))
			c.Take(2)
			c.Take(1)
			if got := c.Take(size); got != 0 {
				t.Errorf("Take(%d) of %d bytes: %d", size, left, got)
			}
			wantSpoiled(t, "Take", c, 3, left, api.ErrEnd)
		}
	}
	for _, size := range noSizes() {
		for _, n := range []int{0, 1, 8} {
			c := Over(counted(n))
			if got := c.Take(size); got != 0 {
				t.Errorf("Take(%d): %d", size, got)
			}
			wantSpoiled(t, "Take of no size", c, 0, n, api.ErrArg)
		}
	}
}

// P2.2: Many reads so many, and none.
func TestMany(t *testing.T) {
	c := Over(counted(11))
	if got := c.Many(1, 3); !slices.Equal(got, []int{1, 2, 3}) {
		t.Errorf("got %v", got)
	}
	for _, size := range []int{1, 2, 4} {
		if got := c.Many(size, 0); len(got) != 0 {
			t.Errorf("got %v", got)
		}
	}
	wantCursor(t, "Many", c, 3, 8, api.OK)
	if got := c.Many(2, 2); !slices.Equal(got, []int{0x0405, 0x0607}) {
		t.Errorf("got %v", got)
	}
	if got := c.Many(4, 1); !slices.Equal(got, []int{0x08090a0b}) {
		t.Errorf("got %v", got)
	}
	if got := c.Many(4, 0); len(got) != 0 {
		t.Errorf("got %v", got)
	}
	wantCursor(t, "Many", c, 11, 0, api.OK)
}

// P2.2: Many with fewer bytes than all need reads none of them.
func TestManyRefuses(t *testing.T) {
	for _, y := range [][2]int{
		{1, 9}, {2, 5}, {4, 3}, {1, math.MaxInt}, {2, math.MaxInt}, {4, math.MaxInt},
		// So many that all their bytes, cut to a number's width, would be few.
		{2, 1 << 62}, {4, 1 << 61}, {4, 1 << 62}, {4, 1<<62 + 1}, {2, 1<<62 + 1},
	} {
		c := Over(counted(8))
		if got := c.Many(y[0], y[1]); got != nil {
			t.Errorf("Many(%d, %d): %v", y[0], y[1], got)
		}
		wantSpoiled(t, "Many", c, 0, 8, api.ErrEnd)
	}
	for _, y := range [][2]int{{1, -1}, {2, -1}, {4, math.MinInt}, {3, 0}, {0, 0}, {0, 1}, {3, 1000}, {-1, -1}, {-1, 1}, {math.MinInt, math.MaxInt}, {math.MaxInt, 1}} {
		c := Over(counted(8))
		if got := c.Many(y[0], y[1]); got != nil {
			t.Errorf("Many(%d, %d): %v", y[0], y[1], got)
		}
		wantSpoiled(t, "Many", c, 0, 8, api.ErrArg)
	}
}

// P2.2: Bytes reads so many, and none.
func TestBytes(t *testing.T) {
	c := Over(counted(5))
	if got := c.Bytes(2); !bytes.Equal(got, []byte{1, 2}) {
		t.Errorf("got %v", got)
	}
	if got := c.Bytes(0); len(got) != 0 {
		t.Errorf("got %v", got)
	}
	wantCursor(t, "Bytes", c, 2, 3, api.OK)
	if got := c.Bytes(3); !bytes.Equal(got, []byte{3, 4, 5}) {
		t.Errorf("got %v", got)
	}
	if got := c.Bytes(0); len(got) != 0 {
		t.Errorf("got %v", got)
	}
	wantCursor(t, "Bytes", c, 5, 0, api.OK)
	for n, e := range map[int]api.Errno{4: api.ErrEnd, math.MaxInt: api.ErrEnd, -1: api.ErrArg, math.MinInt: api.ErrArg} {
		c := Over(counted(5))
		c.Take(2)
		if got := c.Bytes(n); got != nil {
			t.Errorf("Bytes(%d): %v", n, got)
		}
		wantSpoiled(t, "Bytes", c, 2, 3, e)
	}
}

// P2.2: a cursor within counts for itself, and is spoiled by itself.
func TestWithin(t *testing.T) {
	c := Over(counted(6))
	c.Take(1)
	w := c.Within(3)
	wantCursor(t, "outside", c, 4, 2, api.OK)
	wantCursor(t, "within", w, 0, 3, api.OK)
	if got := w.Peek(9); !bytes.Equal(got, []byte{2, 3, 4}) {
		t.Errorf("within there are %v", got)
	}
	deep := w.Within(2)
	if deep.Take(2) != 0x0203 || deep.Close() != api.OK {
		t.Error("within the one within")
	}
	if w.Take(1) != 4 {
		t.Error("within, behind")
	}
	wantCursor(t, "within", w, 3, 0, api.OK)
	w.Take(1)
	wantSpoiled(t, "within", w, 3, 0, api.ErrEnd)
	if c.Take(2) != 0x0506 {
		t.Error("outside, behind")
	}
	wantCursor(t, "outside", c, 6, 0, api.OK)
	wantCursor(t, "within nothing", c.Within(0), 0, 0, api.OK)
	wantCursor(t, "outside", c, 6, 0, api.OK)
}

// P2.2: of an error a cursor within is over nothing, with that error.
func TestWithinRefuses(t *testing.T) {
	for n, e := range map[int]api.Errno{4: api.ErrEnd, math.MaxInt: api.ErrEnd, -1: api.ErrArg, math.MinInt: api.ErrArg} {
		c := Over(counted(5))
		c.Take(2)
		wantSpoiled(t, "within", c.Within(n), 0, 0, e)
		wantSpoiled(t, "outside", c, 2, 3, e)
	}
	c := Over(counted(5))
	w := c.Within(2)
	c.Spoil(api.ErrKind)
	wantCursor(t, "made ahead of the error", w, 0, 2, api.OK)
	wantSpoiled(t, "made behind it", c.Within(-1), 0, 0, api.ErrKind)
}

// P2.2: Peek tells what comes, and doesn't go on.
func TestPeek(t *testing.T) {
	c := Over(counted(4))
	c.Take(1)
	for _, y := range []struct {
		n    int
		want []byte
	}{
		{1, []byte{2}}, {2, []byte{2, 3}}, {3, []byte{2, 3, 4}}, {4, []byte{2, 3, 4}}, {math.MaxInt, []byte{2, 3, 4}},
		{0, nil}, {-1, nil}, {math.MinInt, nil},
	} {
		if got := c.Peek(y.n); !bytes.Equal(got, y.want) {
			t.Errorf("Peek(%d): %v, want %v", y.n, got, y.want)
		}
		wantCursor(t, "Peek", c, 1, 3, api.OK)
	}
	c.Bytes(3)
	if got := c.Peek(1); len(got) != 0 {
		t.Errorf("at the end: %v", got)
	}
	wantCursor(t, "Peek at the end", c, 4, 0, api.OK)
	c = Over(counted(4))
	c.Spoil(api.ErrForm)
	if got := c.Peek(2); len(got) != 0 {
		t.Errorf("behind an error: %v", got)
	}
}

// P2.3: what was wrong first stays, and OK spoils nothing.
func TestSpoil(t *testing.T) {
	c := Over(counted(3))
	c.Take(1)
	c.Spoil(api.OK)
	wantCursor(t, "OK", c, 1, 2, api.OK)
	if c.Take(1) != 2 {
		t.Error("OK spoilt it")
	}
	c.Spoil(api.ErrKind)
	wantSpoiled(t, "Spoil", c, 2, 1, api.ErrKind)
	c = Over(nil)
	c.Take(3)
	c.Spoil(api.ErrKind)
	wantSpoiled(t, "Spoil behind a wrong size", c, 0, 0, api.ErrArg)
	for _, e := range []api.Errno{api.ErrArg, api.ErrOver, 99, -1} {
		c := Over(counted(2))
		c.Spoil(e)
		wantSpoiled(t, "Spoil", c, 0, 2, e)
	}
}

// P2.3: Close tells what was wrong, then what is left, and spoils nothing.
func TestClose(t *testing.T) {
	if e := Over(nil).Close(); e != api.OK {
		t.Errorf("of none: %d", e)
	}
	if e := Over([]byte{}).Close(); e != api.OK {
		t.Errorf("of an empty list: %d", e)
	}
	c := Over(counted(2))
	if e := c.Close(); e != api.ErrForm {
		t.Errorf("with all left: %d", e)
	}
	if c.Take(1) != 1 || c.Close() != api.ErrForm || c.Err() != api.OK {
		t.Error("with one left")
	}
	if c.Take(1) != 2 || c.Close() != api.OK {
		t.Error("with none left")
	}
	if c.Take(1) != 0 || c.Close() != api.ErrEnd {
		t.Error("behind an error")
	}
	c = Over(counted(2))
	c.Take(4)
	if e := c.Close(); e != api.ErrEnd {
		t.Errorf("with an error and bytes left: %d", e)
	}
}

// P2.4: a nil cursor, and one that nobody made.
func TestNilCursor(t *testing.T) {
	var none *Cursor
	wantSpoiled(t, "nil", none, 0, 0, api.ErrState)
	var empty Cursor
	wantCursor(t, "empty", &empty, 0, 0, api.OK)
	if empty.Take(1) != 0 {
		t.Error("a number out of nothing")
	}
	wantSpoiled(t, "empty", &empty, 0, 0, api.ErrEnd)
}

// P2.4: a cursor neither changes nor keeps what it was handed.
func TestCursorKeepsNothing(t *testing.T) {
	b := counted(6)
	c := Over(b)
	for i := range b {
		b[i] = 200
	}
	if got := c.Many(1, 6); !slices.Equal(got, []int{1, 2, 3, 4, 5, 6}) {
		t.Errorf("it reads %v", got)
	}
	room := counted(6)
	c = Over(room[:3])
	c.Take(1)
	_ = append(c.Peek(1), 99)
	_ = append(c.Bytes(1), 99)
	_ = append(c.Within(1).Bytes(1), 99)
	if !bytes.Equal(room, counted(6)) {
		t.Errorf("it changed %v", room)
	}
}

// P2.4: what a cursor answers is new memory.
func TestCursorNewMemory(t *testing.T) {
	b := counted(8)
	c := Over(b)
	spoil := func(l []byte) {
		for i := range l[:cap(l)] {
			l[:cap(l)][i] = 200
		}
	}
	spoil(c.Peek(8))
	twin := *c // stands behind c soon, in the same bytes
	spoil(c.Bytes(2))
	w := c.Within(3)
	spoil(w.Peek(3))
	spoil(w.Bytes(1))
	if got := w.Bytes(2); !bytes.Equal(got, []byte{4, 5}) {
		t.Errorf("within: %v", got)
	}
	if got := c.Bytes(3); !bytes.Equal(got, []byte{6, 7, 8}) {
		t.Errorf("outside: %v", got)
	}
	if got := twin.Bytes(8); !bytes.Equal(got, counted(8)) {
		t.Errorf("read a second time: %v", got)
	}
	if !bytes.Equal(b, counted(8)) {
		t.Errorf("what was handed in: %v", b)
	}
}

// P1, P2: any calls in any order end, and the same ones have the same answers.
func TestSameAnswers(t *testing.T) {
	for seed := range 400 {
		first, again := walk(t, seed), walk(t, seed)
		if !slices.Equal(first, again) {
			t.Errorf("walk %d: %v, then %v", seed, first, again)
		}
	}
}

// walk makes some calls that hang on seed alone, and gathers what they answer.
func walk(t *testing.T, seed int) []int {
	t.Helper()
	state := uint32(seed)*2654435761 + 1
	draw := func(below int) int {
		state = state*1664525 + 1013904223
		return int(state>>16) % below
	}
	all := counted(draw(40))
	c := Over(all)
	var out []int
	for range 12 {
		size, n := draw(5), draw(6)-1
		switch draw(5) {
		case 0:
			out = append(out, c.Take(size))
		case 1:
			out = append(out, c.Many(size, n)...)
		case 2:
			out = append(out, len(c.Bytes(n)))
		case 3:
			out = append(out, c.Within(n).Take(1))
		default:
			out = append(out, len(c.Peek(n)))
		}
		out = append(out, c.At(), c.Left(), int(c.Err()), int(c.Close()))
		if c.At()+c.Left() != len(all) {
			t.Errorf("walk %d: %d read and %d left of %d", seed, c.At(), c.Left(), len(all))
		}
	}
	return out
}
