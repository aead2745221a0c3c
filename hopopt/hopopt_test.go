package hopopt

import (
	"bytes"
	"math"
	"slices"
	"testing"

	"rivulet/api"
)

// drawer answers numbers that hang on seed alone.
func drawer(seed int) func(below int) int {
	state := uint64(seed)*2654435761 + 1
	return func(below int) int {
		state = state*6364136223846793005 + 1442695040888963407
		return int(state>>33) % below
	}
}

func drawnBytes(draw func(below int) int, n int) []byte {
	out := make([]byte, n)
	for i := range out {
		out[i] = byte(draw(256))
	}
	return out
}

// drawnNumber is a number from first to last, often at an end.
func drawnNumber(draw func(below int) int, first, last int) int {
	switch draw(5) {
	case 0:
		return first
	case 1:
		return last
	}
	return first + draw(last-first+1)
}

func drawnOption(draw func(below int) int) Option {
	return Option{
		Down: draw(2) == 0, Wrong: draw(2) == 0, Failed: draw(2) == 0,
		Instance: drawnNumber(draw, 0, 255), Rank: drawnNumber(draw, 0, 65535),
	}
}

// withFlags is an option once with each choice of its flags.
func withFlags(o Option) []Option {
	var out []Option
	for i := range 8 {
		o.Down, o.Wrong, o.Failed = i&1 != 0, i&2 != 0, i&4 != 0
		out = append(out, o)
	}
	return out
}

// bytesByWords is the chapter's words, byte by byte.
func bytesByWords(next int, o Option) []byte {
	flags := byte(0)
	if o.Down {
		flags += 128
	}
	if o.Wrong {
		flags += 64
	}
	if o.Failed {
		flags += 32
	}
	return []byte{byte(next), 0, 0x63, 4, flags, byte(o.Instance), byte(o.Rank / 256), byte(o.Rank % 256)}
}

// sample is an option with each field different from the others.
func sample() Option {
	return Option{Down: true, Failed: true, Instance: 7, Rank: 0x1234}
}

// beyond are numbers that aren't from first to last, among them such that a
// narrower number would be within.
func beyond(first, last int) []int {
	return []int{
		first - 1, last + 1, -last, -last - 1, 2*last + 1, last + 2 + last/2,
		1 << 32, 1<<32 + first, 1<<32 + 1, -1 << 32, 1<<63 - 1 - 1<<40, math.MinInt, math.MinInt + 1, math.MaxInt,
	}
}

// wrongOptions are options with one number that isn't as it must be.
func wrongOptions() []Option {
	var out []Option
	for _, o := range withFlags(sample()) {
		for _, bad := range beyond(0, 255) {
			x := o
			x.Instance = bad
			out = append(out, x)
		}
		for _, bad := range beyond(0, 65535) {
			x := o
			x.Rank = bad
			out = append(out, x)
		}
	}
	return out
}

// P6.1: Check at both ends of each number, with all flags.
func TestCheck(t *testing.T) {
	for _, instance := range []int{0, 1, 127, 128, 254, 255} {
		for _, rank := range []int{0, 1, 255, 256, 32767, 32768, 65534, 65535} {
			for _, o := range withFlags(Option{Instance: instance, Rank: rank}) {
				if e := Check(o); e != api.OK {
					t.Errorf("%v: error %d", o, e)
				}
			}
		}
	}
	for _, o := range wrongOptions() {
		if e := Check(o); e != api.ErrArg {
			t.Errorf("%v: error %d", o, e)
		}
	}
}

// P6.1: bytes written out.
func TestEncodeByHand(t *testing.T) {
	for i, y := range []struct {
		next int
		o    Option
		want []byte
	}{
		{0, Option{}, []byte{0, 0, 0x63, 4, 0, 0, 0, 0}},
		{58, sample(), []byte{58, 0, 0x63, 4, 0xa0, 7, 0x12, 0x34}},
		{17, Option{Down: true}, []byte{17, 0, 0x63, 4, 128, 0, 0, 0}},
		{17, Option{Wrong: true}, []byte{17, 0, 0x63, 4, 64, 0, 0, 0}},
		{17, Option{Failed: true}, []byte{17, 0, 0x63, 4, 32, 0, 0, 0}},
		{17, Option{Rank: 256}, []byte{17, 0, 0x63, 4, 0, 0, 1, 0}},
		{17, Option{Rank: 255}, []byte{17, 0, 0x63, 4, 0, 0, 0, 255}},
		{17, Option{Instance: 255}, []byte{17, 0, 0x63, 4, 0, 255, 0, 0}},
		{255, Option{true, true, true, 255, 65535}, []byte{255, 0, 0x63, 4, 0xe0, 255, 255, 255}},
	} {
		if b, e := Encode(y.next, y.o); e != api.OK || !bytes.Equal(b, y.want) {
			t.Errorf("%d: %x, error %d; want %x", i, b, e, y.want)
		}
	}
}

// P6.1: what is encoded is as the words say, and is decoded as it was, with any
// bytes behind it.
func TestEncodeDecode(t *testing.T) {
	draw := drawer(1)
	for next := range 256 {
		for range 20 {
			o, text := drawnOption(draw), drawnBytes(draw, draw(3)*draw(80))
			b, e := Encode(next, o)
			if e != api.OK || !bytes.Equal(b, bytesByWords(next, o)) {
				t.Fatalf("%d, %v: %x, error %d", next, o, b, e)
			}
			n, x, rest, e := Decode(append(b, text...))
			if e != api.OK || n != next || x != o || !bytes.Equal(rest, text) {
				t.Errorf("%d, %v, %x: %d, %v, %x, error %d", next, o, text, n, x, rest, e)
			}
		}
	}
}

// P6.1: each rank and each instance, there and back.
func TestEachNumber(t *testing.T) {
	for rank := range 65536 {
		o := Option{Wrong: rank%3 == 0, Instance: rank % 256, Rank: rank}
		b, e := Encode(17, o)
		if e != api.OK {
			t.Fatalf("%v: error %d", o, e)
		}
		if n, x, rest, e := Decode(b); e != api.OK || n != 17 || x != o || len(rest) != 0 {
			t.Fatalf("%v: %d, %v, %x, error %d", o, n, x, rest, e)
		}
	}
}

// P6.1, P1: what Encode refuses, and beside it nothing.
func TestEncodeRefuses(t *testing.T) {
	for _, o := range append(wrongOptions(), withFlags(sample())...) {
		nexts := beyond(0, 255)
		if Check(o) != api.OK {
			nexts = append(nexts, 0, 17, 58, 255)
		}
		for _, next := range nexts {
			if b, e := Encode(next, o); e != api.ErrArg || b != nil {
				t.Errorf("%d, %v: %x, error %d", next, o, b, e)
			}
		}
	}
}

func wantRefused(t *testing.T, what string, b []byte, want api.Errno) {
	t.Helper()
	n, o, rest, e := Decode(b)
	if e != want || n != 0 || o != (Option{}) || rest != nil {
		t.Errorf("%s, %x: %d, %v, %x, error %d; want error %d", what, b[:min(len(b), 20)], n, o, rest, e, want)
	}
}

// P6.1: fewer than eight bytes, whatever they are.
func TestDecodeShort(t *testing.T) {
	whole := bytesByWords(17, sample())
	for n := range 8 {
		wantRefused(t, "cut", whole[:n], api.ErrEnd)
		wantRefused(t, "all 0", make([]byte, n), api.ErrEnd)
		wantRefused(t, "all 255", bytes.Repeat([]byte{255}, n), api.ErrEnd)
	}
	wantRefused(t, "nil", nil, api.ErrEnd)
}

// P6.1: another second, third or fourth byte, told ahead of another flag.
func TestDecodeKind(t *testing.T) {
	for at, right := range map[int]int{1: 0, 2: 0x63, 3: 4} {
		for x := range 256 {
			for _, flags := range []byte{0, 0xa0, 1, 16, 255} {
				for _, more := range [][]byte{nil, {1, 2, 3}} {
					b := append(bytesByWords(17, sample()), more...)
					b[at], b[4] = byte(x), flags
					if x != right {
						wantRefused(t, "another kind", b, api.ErrKind)
					} else if flags&31 != 0 {
						wantRefused(t, "another flag", b, api.ErrForm)
					} else if _, _, rest, e := Decode(b); e != api.OK || !bytes.Equal(rest, more) {
						t.Errorf("%x: %x, error %d", b, rest, e)
					}
				}
			}
		}
	}
}

// P6.1: each byte of flags: those that are known, or another one.
func TestDecodeFlags(t *testing.T) {
	for flags := range 256 {
		b := bytesByWords(17, sample())
		b[4] = byte(flags)
		if flags%32 != 0 {
			wantRefused(t, "another flag", b, api.ErrForm)
			continue
		}
		want := Option{flags&128 != 0, flags&64 != 0, flags&32 != 0, 7, 0x1234}
		if n, o, rest, e := Decode(b); e != api.OK || n != 17 || o != want || len(rest) != 0 {
			t.Errorf("flags %x: %d, %v, %x, error %d", flags, n, o, rest, e)
		}
	}
}

// P6.1: what is behind the option may be long: no bound is named here.
func TestDecodeLong(t *testing.T) {
	text := drawnBytes(drawer(2), 5000)
	n, o, rest, e := Decode(append(bytesByWords(17, sample()), text...))
	if e != api.OK || n != 17 || o != sample() || !bytes.Equal(rest, text) {
		t.Errorf("%d, %v, %d bytes, error %d", n, o, len(rest), e)
	}
}

// P6.1: any bytes are refused, or are those of what is told.
func TestDecodeAnyBytes(t *testing.T) {
	draw := drawer(3)
	good := 0
	for range 20000 {
		b := drawnBytes(draw, draw(20))
		if len(b) >= 8 && draw(4) > 0 {
			copy(b[1:], []byte{0, 0x63, 4, b[4] & 0xf0})
		}
		n, o, rest, e := Decode(b)
		if e != api.OK {
			if n != 0 || o != (Option{}) || rest != nil {
				t.Errorf("%x: %d, %v, %x, error %d", b, n, o, rest, e)
			}
			continue
		}
		good++
		if Check(o) != api.OK || !bytes.Equal(b, append(bytesByWords(n, o), rest...)) {
			t.Errorf("%x: %d, %v, %x", b, n, o, rest)
		}
	}
	if good == 0 {
		t.Error("none was right")
	}
}

// consistentByWords is the chapter's words; steps are counted, not divided.
func consistentByWords(o Option, own, least int) bool {
	step := func(rank int) int {
		n := 0
		for ; rank >= least; rank -= least {
			n++
		}
		return n
	}
	sender, here := step(o.Rank), step(own)
	inconsistent := o.Down && !(sender < here) || !o.Down && !(sender > here)
	return !inconsistent
}

// wantHop looks at Consistent and Hop of what is right.
func wantHop(t *testing.T, o Option, own, least int, is bool) {
	t.Helper()
	if got, e := Consistent(o, own, least); e != api.OK || got != is {
		t.Errorf("Consistent(%v, %d, %d): %v, error %d", o, own, least, got, e)
	}
	want, wantErr, told := o, api.OK, is
	want.Rank = own
	switch {
	case !is && o.Wrong:
		want, wantErr, told = Option{}, api.ErrLoop, false
	case !is:
		want.Wrong = true
	}
	if got, was, e := Hop(o, own, least); got != want || was != told || e != wantErr {
		t.Errorf("Hop(%v, %d, %d): %v, %v, error %d; want %v, %v, error %d", o, own, least, got, was, e, want, told, wantErr)
	}
}

// P6.2, example 1.
func TestHopExample(t *testing.T) {
	wantHop(t, Option{Down: true, Rank: 256}, 512, 256, true)
	wantHop(t, Option{Rank: 256}, 512, 256, false)
	o, _, e := Hop(Option{Rank: 256}, 512, 256)
	if e != api.OK || o != (Option{Wrong: true, Rank: 512}) {
		t.Errorf("%v, error %d", o, e)
	}
	wantHop(t, o, 512, 256, false)
	if o, is, e := Hop(o, 512, 256); e != api.ErrLoop || o != (Option{}) || is {
		t.Errorf("%v, %v, error %d", o, is, e)
	}
}

// P6.2: ranks are held against one another by their steps alone.
func TestHopSteps(t *testing.T) {
	for _, y := range []struct {
		rank, own, least int
		down, up         bool
	}{
		{256, 512, 256, true, false},
		{512, 256, 256, false, true},
		{512, 512, 256, false, false},
		{512, 767, 256, false, false}, // one step, though the ranks differ
		{767, 512, 256, false, false},
		{511, 512, 256, true, false}, // another step, though they are near
		{512, 511, 256, false, true},
		{0, 65535, 65535, true, false},
		{65535, 0, 65535, false, true},
		{0, 65534, 65535, false, false},
		{65534, 65535, 65535, true, false},
		{65535, 65535, 65535, false, false},
		{0, 0, 1, false, false},
		{0, 1, 1, true, false},
		{65535, 65534, 1, false, true},
		{65534, 65535, 256, false, false}, // an infinite rank is a rank like others
		{65279, 65535, 256, true, false},
		{65535, 0, 256, false, true},
	} {
		for _, o := range withFlags(Option{Instance: 9, Rank: y.rank}) {
			is := y.up
			if o.Down {
				is = y.down
			}
			wantHop(t, o, y.own, y.least, is)
		}
	}
}

// P6.2: Consistent and Hop at many numbers.
func TestHopByWords(t *testing.T) {
	draw := drawer(4)
	for range 5000 {
		o := drawnOption(draw)
		least := drawnNumber(draw, 1, []int{3, 256, 1000, 65535}[draw(4)])
		own := drawnNumber(draw, 0, 65535)
		if draw(2) == 0 { // near the sender's
			own = min(max(o.Rank+draw(2*least+1)-least, 0), 65535)
		}
		wantHop(t, o, own, least, consistentByWords(o, own, least))
	}
}

func wantHopRefused(t *testing.T, o Option, own, least int) {
	t.Helper()
	if is, e := Consistent(o, own, least); e != api.ErrArg || is {
		t.Errorf("Consistent(%v, %d, %d): %v, error %d", o, own, least, is, e)
	}
	if x, is, e := Hop(o, own, least); e != api.ErrArg || x != (Option{}) || is {
		t.Errorf("Hop(%v, %d, %d): %v, %v, error %d", o, own, least, x, is, e)
	}
}

// P6.2, P1: what Consistent and Hop refuse, ahead of a loop, and beside it
// nothing.
func TestHopRefuses(t *testing.T) {
	for _, o := range withFlags(sample()) {
		for _, own := range beyond(0, 65535) {
			for _, least := range []int{1, 256, 65535, 0, -1} {
				wantHopRefused(t, o, own, least)
			}
		}
		for _, least := range append(beyond(1, 65535), 0, -1) {
			for _, own := range []int{0, 512, 65535} {
				wantHopRefused(t, o, own, least)
			}
		}
	}
	for _, o := range wrongOptions() {
		for _, own := range []int{0, 512, 65535, -1} {
			for _, least := range []int{1, 256, 65535, 0} {
				wantHopRefused(t, o, own, least)
			}
		}
	}
}

// P6.3: Mark sets the rank and the direction, and leaves all else.
func TestMark(t *testing.T) {
	for _, rank := range []int{0, 700, 65535} {
		for _, instance := range []int{0, 7, 255} {
			for _, o := range withFlags(Option{Instance: instance, Rank: rank}) {
				for _, own := range []int{0, 1, 256, 65534, 65535} {
					for _, down := range []bool{false, true} {
						want := Option{down, o.Wrong, o.Failed, instance, own}
						if got, e := Mark(o, own, down); e != api.OK || got != want {
							t.Errorf("Mark(%v, %d, %v): %v, error %d", o, own, down, got, e)
						}
					}
				}
			}
		}
	}
}

// P6.3, P1: what Mark refuses; a wrong rank is wrong, though another one takes
// its place.
func TestMarkRefuses(t *testing.T) {
	refused := func(o Option, own int) {
		for _, down := range []bool{false, true} {
			if got, e := Mark(o, own, down); e != api.ErrArg || got != (Option{}) {
				t.Errorf("Mark(%v, %d, %v): %v, error %d", o, own, down, got, e)
			}
		}
	}
	for _, own := range beyond(0, 65535) {
		for _, o := range withFlags(sample()) {
			refused(o, own)
		}
	}
	for _, o := range wrongOptions() {
		for _, own := range []int{0, 512, 65535, -1} {
			refused(o, own)
		}
	}
}

// P6.3: on any way, marked or not, an option goes through one inconsistent hop at
// most; R stays once it is set.
func TestOneInconsistentHop(t *testing.T) {
	draw := drawer(5)
	loops := 0
	for range 2000 {
		o := drawnOption(draw)
		o.Wrong = false
		inconsistent := 0
	way:
		for range 30 {
			if draw(3) == 0 {
				marked, e := Mark(o, draw(65536), draw(2) == 0)
				if e != api.OK || marked.Wrong != o.Wrong {
					t.Fatalf("%v: %v, error %d", o, marked, e)
				}
				o = marked
			}
			on, is, e := Hop(o, draw(65536), 1+draw(5000))
			switch {
			case e == api.ErrLoop && inconsistent == 1:
				loops++
				break way
			case e != api.OK:
				t.Fatalf("%v behind %d inconsistent hops: error %d", o, inconsistent, e)
			case !is:
				inconsistent++
			}
			o = on
			if inconsistent > 1 || o.Wrong != (inconsistent == 1) {
				t.Fatalf("%v behind %d inconsistent hops", o, inconsistent)
			}
		}
	}
	if loops == 0 {
		t.Error("no way ended by a loop")
	}
}

// spoil overwrites all memory of an answer.
func spoil(b []byte) {
	for i := range b[:cap(b)] {
		b[:cap(b)][i] = 200
	}
}

// Bytes that are handed in stay, aren't kept, and answers are new memory.
func TestNewMemory(t *testing.T) {
	room := append(bytesByWords(17, sample()), "hello, and more"...)
	was := slices.Clone(room)
	_, _, rest, _ := Decode(room[:13])
	_, _, twin, _ := Decode(room[:13])
	spoil(twin)
	if !bytes.Equal(room, was) || string(rest) != "hello" {
		t.Errorf("%q, %q", room, rest)
	}
	clear(room)
	if string(rest) != "hello" {
		t.Errorf("%q", rest)
	}
	a, _ := Encode(17, sample())
	b, _ := Encode(17, sample())
	spoil(a)
	if c, _ := Encode(17, sample()); !bytes.Equal(b, was[:8]) || !bytes.Equal(c, was[:8]) {
		t.Errorf("%x, %x", b, c)
	}
}

// P2: the same calls have the same answers.
func TestSameAgain(t *testing.T) {
	draw := drawer(6)
	for range 500 {
		o, own, least := drawnOption(draw), draw(65536), draw(3)*draw(700)
		a, x := Encode(17, o)
		b, y := Encode(17, o)
		if x != y || !bytes.Equal(a, b) {
			t.Errorf("Encode: %x, error %d; then %x, error %d", a, x, b, y)
		}
		p, is, x := Hop(o, own, least)
		q, too, y := Hop(o, own, least)
		if p != q || is != too || x != y {
			t.Errorf("Hop: %v, %v, error %d; then %v, %v, error %d", p, is, x, q, too, y)
		}
		p, x = Mark(o, own, is)
		q, y = Mark(o, own, is)
		if p != q || x != y || Check(o) != Check(o) {
			t.Errorf("Mark: %v, error %d; then %v, error %d", p, x, q, y)
		}
	}
}
