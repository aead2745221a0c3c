package option

import (
	"bytes"
	"math"
	"slices"
	"strings"
	"testing"

	"rivulet/addr"
	"rivulet/api"
)

// drawer answers numbers that hang on seed alone.
func drawer(seed int) func(below int) int {
	state := uint64(seed)*2654435761 + 1
	return func(below int) int {
		state = state*6364136223846793005 + 1442695040888963407
		return int(state>>33) % below
	}
}

func drawnBytes(draw func(below int) int, n int) []byte {
	out := make([]byte, n)
	for i := range out {
		out[i] = byte(draw(256))
	}
	return out
}

// here is an address with each byte different from the others.
func here() addr.Addr {
	var a addr.Addr
	for i := range a {
		a[i] = byte(0xa0 + i)
	}
	return a
}

// row is the chapter's table: of each kind the numbers by letters (b, w, q: 1, 2, 4
// bytes; p: a length; 0, z: what is 0, of 1 and 4 bytes), and @ where the address is.
type row struct {
	kind   int
	word   string
	layout string
}

func rows() []row {
	return []row{
		{0, "pad", ""},
		{1, "pads", "b"},
		{2, "metric", ""},
		{3, "route", "pbq@"},
		{4, "config", "bbbbwww0bw"},
		{5, "target", "bp@"},
		{6, "transit", "bbbb"},
		{7, "solicited", "bb@b"},
		{8, "prefix", "pbqqz@"},
		{9, "descriptor", "q"},
	}
}

func sizeOf(letter byte) int {
	return map[byte]int{'b': 1, 'p': 1, '0': 1, 'w': 2, 'q': 4, 'z': 4, '@': 16}[letter]
}

func lastOf(letter byte) int {
	return map[byte]int{'b': 255, 'p': 128, 'w': 65535, 'q': 1<<32 - 1}[letter]
}

func (r row) numbers() string { return strings.ReplaceAll(r.layout, "@", "") }

func (r row) hasAddr() bool { return strings.Contains(r.layout, "@") }

// content is the bytes behind the length, by the chapter's words.
func (r row) content(o Option) []byte {
	if r.kind == 1 {
		return bytes.Repeat([]byte{0}, o.N[0])
	}
	var out []byte
	at := 0
	for i := range len(r.layout) {
		if r.layout[i] == '@' {
			out = append(out, o.Addr[:]...)
			continue
		}
		for shift := sizeOf(r.layout[i]) - 1; shift >= 0; shift-- {
			out = append(out, byte(o.N[at]>>(8*shift)))
		}
		at++
	}
	return append(out, o.Text...)
}

// bytesByWords is the bytes of an option, by the chapter's words.
func bytesByWords(o Option) []byte {
	if o.Kind == 0 {
		return []byte{0}
	}
	behind := rows()[o.Kind].content(o)
	return append([]byte{byte(o.Kind), byte(len(behind))}, behind...)
}

func bytesOfAll(l []Option) []byte {
	var out []byte
	for _, o := range l {
		out = append(out, bytesByWords(o)...)
	}
	return out
}

// drawnOption is a right option, often with numbers at their ends.
func drawnOption(draw func(below int) int) Option {
	r := rows()[draw(10)]
	o := Option{Kind: r.kind}
	for i := range len(r.numbers()) {
		last := lastOf(r.numbers()[i])
		o.N = append(o.N, []int{0, last, draw(last + 1), draw(min(last, 40) + 1)}[draw(4)])
	}
	if r.hasAddr() && draw(5) > 0 {
		copy(o.Addr[:], drawnBytes(draw, 16))
	}
	if r.kind == Metric {
		o.Text = drawnBytes(draw, []int{0, 1, 64, draw(65)}[draw(4)])
	}
	return o
}

func drawnOptions(draw func(below int) int, most int) []Option {
	out := make([]Option, draw(most+1))
	for i := range out {
		out[i] = drawnOption(draw)
	}
	return out
}

// widenPads puts pads of 255 in the place of small options, so that some lists come
// to be too long.
func widenPads(l []Option) {
	for i, o := range l {
		if o.Kind < Route {
			l[i] = Option{Kind: Pads, N: []int{255}}
		}
	}
}

// samples are one right option of each kind, each number another one.
func samples() []Option {
	return []Option{
		{Kind: Pad},
		{Kind: Pads, N: []int{3}},
		{Kind: Metric, Text: []byte("etx")},
		{Kind: Route, N: []int{64, 24, 0x01020304}, Addr: here()},
		{Kind: Config, N: []int{1, 8, 3, 10, 1792, 256, 2, 0, 254, 65534}},
		{Kind: Target, N: []int{5, 128}, Addr: here()},
		{Kind: Transit, N: []int{1, 2, 3, 4}},
		{Kind: Solicited, N: []int{9, 224, 241}, Addr: here()},
		{Kind: Prefix, N: []int{65, 192, 1<<32 - 1, 0x0a0b0c0d, 0}, Addr: here()},
		{Kind: Descriptor, N: []int{0x00010203}},
	}
}

// noKinds are kinds that there aren't, among them such that a narrower number
// would be one.
func noKinds() []int {
	return []int{-1, 10, 11, 99, 255, 256, 257, 1 << 16, 1 << 32, 1<<32 + 5, -256, -251, math.MinInt, math.MinInt + 4, math.MaxInt}
}

// beyond are numbers that aren't from 0 to last.
func beyond(last int) []int {
	out := []int{-1, last + 1, -last - 1, math.MinInt, math.MaxInt, math.MinInt + 1}
	for shift := 8; shift < 63; shift += 8 {
		if n := 1 << shift; n > last {
			out = append(out, n, n+1, -n, n+last)
		}
	}
	return out
}

func same(a, b Option) bool {
	return a.Kind == b.Kind && a.Addr == b.Addr && slices.Equal(a.N, b.N) && bytes.Equal(a.Text, b.Text)
}

func sameAll(a, b []Option) bool { return slices.EqualFunc(a, b, same) }

func wantCheck(t *testing.T, o Option, want api.Errno) {
	t.Helper()
	if e := Check(o); e != want {
		t.Errorf("%v: error %d; want %d", o, e, want)
	}
	if n := Size(o); want != api.OK && n != 0 {
		t.Errorf("%v: size %d", o, n)
	}
	if want == api.OK {
		return
	}
	if b, e := Encode(o); e != want || b != nil {
		t.Errorf("Encode(%v): %x, error %d; want error %d", o, b, e, want)
	}
}

// P7.1: the constants and the words.
func TestKindsAndWords(t *testing.T) {
	kinds := []int{Pad, Pads, Metric, Route, Config, Target, Transit, Solicited, Prefix, Descriptor}
	for i, r := range rows() {
		if kinds[i] != r.kind || Word(kinds[i]) != r.word {
			t.Errorf("%d: kind %d, word %q", i, kinds[i], Word(kinds[i]))
		}
	}
	for _, kind := range noKinds() {
		if s := Word(kind); s != "" {
			t.Errorf("%d: %q", kind, s)
		}
	}
}

// P7.1: what is right, with each number at both ends.
func TestCheckRight(t *testing.T) {
	for _, o := range samples() {
		wantCheck(t, o, api.OK)
		letters := rows()[o.Kind].numbers()
		for i := range len(letters) {
			last := lastOf(letters[i])
			for _, n := range []int{0, min(1, last), last / 2, max(0, last-1), last} {
				x := copied(o)
				x.N[i] = n
				wantCheck(t, x, api.OK)
			}
		}
	}
}

// P7.1: no such kind, whatever else is there.
func TestCheckKind(t *testing.T) {
	for _, kind := range noKinds() {
		for _, o := range samples() {
			o.Kind = kind
			wantCheck(t, o, api.ErrKind)
		}
		wantCheck(t, Option{Kind: kind, Text: make([]byte, 65)}, api.ErrKind)
	}
}

// P7.1: too few numbers, or too many, told ahead of what is wrong with one, or of
// too long a metric.
func TestCheckCount(t *testing.T) {
	for _, o := range samples() {
		for n := range 13 {
			x := copied(o)
			x.N = make([]int, n)
			want := api.OK
			if n != len(o.N) {
				want = api.ErrForm
			}
			wantCheck(t, x, want)
			if n == len(o.N) {
				continue
			}
			for _, bad := range []int{-1, 1 << 40} {
				for i := range x.N {
					x.N[i] = bad
				}
				wantCheck(t, x, api.ErrForm)
			}
		}
	}
	wantCheck(t, Option{Kind: Metric, N: []int{1}, Text: make([]byte, 65)}, api.ErrForm)
}

// P7.1: an address or bytes where there are none, ahead of a wrong number.
func TestCheckAddressAndBytes(t *testing.T) {
	for _, o := range samples() {
		wrong := copied(o)
		for i := range wrong.N {
			wrong.N[i] = -1
		}
		for _, x := range []Option{o, wrong} {
			if !rows()[o.Kind].hasAddr() {
				for i := range 16 {
					bent := copied(x)
					bent.Addr = addr.Addr{}
					bent.Addr[i] = 1
					wantCheck(t, bent, api.ErrForm)
				}
			}
			if o.Kind != Metric {
				for _, n := range []int{1, 3, 64, 65, 2000} { // 3: as many as the pads have
					bent := copied(x)
					bent.Text = make([]byte, n)
					wantCheck(t, bent, api.ErrForm)
				}
			}
		}
	}
}

// P7.1: an address that is all 0 may be where one is; no bytes may be a metric's.
func TestCheckEmpty(t *testing.T) {
	for _, o := range samples() {
		o.Addr = addr.Addr{}
		wantCheck(t, o, api.OK)
		o.Text = []byte{}
		wantCheck(t, o, api.OK)
		if len(o.N) == 0 {
			o.N = []int{}
			wantCheck(t, o, api.OK)
		}
	}
}

// P7.1: each number, one by one, when it isn't as it must be.
func TestCheckNumbers(t *testing.T) {
	for _, o := range samples() {
		letters := rows()[o.Kind].numbers()
		for i := range len(letters) {
			for _, bad := range beyond(lastOf(letters[i])) {
				x := copied(o)
				x.N[i] = bad
				wantCheck(t, x, api.ErrArg)
			}
		}
	}
	for _, y := range []struct {
		kind, at int
	}{{Route, 0}, {Target, 1}, {Prefix, 0}} {
		for bits := range 256 {
			o := copied(samples()[y.kind])
			o.N[y.at] = bits
			want := api.OK
			if bits > 128 {
				want = api.ErrArg
			}
			wantCheck(t, o, want)
		}
	}
}

// P7.1: how long a metric is.
func TestCheckMetric(t *testing.T) {
	for n := range 300 {
		want := api.OK
		if n > 64 {
			want = api.ErrLong
		}
		wantCheck(t, Option{Kind: Metric, Text: make([]byte, n)}, want)
	}
	wantCheck(t, Option{Kind: Metric, Text: make([]byte, 1<<20)}, api.ErrLong)
}

// P7.1: sizes, told by hand.
func TestSize(t *testing.T) {
	for i, want := range []int{1, 5, 5, 24, 16, 20, 6, 21, 32, 6} {
		if n := Size(samples()[i]); n != want {
			t.Errorf("%d: %d; want %d", i, n, want)
		}
	}
	for n := range 256 {
		if got := Size(Option{Kind: Pads, N: []int{n}}); got != n+2 {
			t.Errorf("pads %d: %d", n, got)
		}
	}
	for n := range 65 {
		if got := Size(Option{Kind: Metric, Text: make([]byte, n)}); got != n+2 {
			t.Errorf("metric of %d: %d", n, got)
		}
	}
}

// P7.2: bytes written out.
func TestBytesByHand(t *testing.T) {
	a := here()
	with := func(ahead []byte, behind ...byte) []byte {
		return append(append(ahead, a[:]...), behind...)
	}
	l := samples()
	for i, want := range [][]byte{
		{0},
		{1, 3, 0, 0, 0},
		{2, 3, 'e', 't', 'x'},
		with([]byte{3, 22, 64, 24, 1, 2, 3, 4}),
		{4, 14, 1, 8, 3, 10, 7, 0, 1, 0, 0, 2, 0, 254, 255, 254},
		with([]byte{5, 18, 5, 128}),
		{6, 4, 1, 2, 3, 4},
		with([]byte{7, 19, 9, 224}, 241),
		with([]byte{8, 30, 65, 192, 255, 255, 255, 255, 10, 11, 12, 13, 0, 0, 0, 0}),
		{9, 4, 0, 1, 2, 3},
	} {
		if b, e := Encode(l[i]); e != api.OK || !bytes.Equal(b, want) {
			t.Errorf("%v: %x, error %d; want %x", l[i], b, e, want)
		}
		if got, e := Decode(want); e != api.OK || !sameAll(got, l[i:i+1]) {
			t.Errorf("%x: %v, error %d; want %v", want, got, e, l[i])
		}
	}
}

// P7.2, example 1, and pads and metrics without anything in them.
func TestExamples(t *testing.T) {
	for _, y := range []struct {
		o    Option
		want []byte
	}{
		{Option{Kind: Transit, N: []int{0, 0, 5, 255}}, []byte{6, 4, 0, 0, 5, 255}},
		{Option{Kind: Pads, N: []int{2}}, []byte{1, 2, 0, 0}},
		{Option{Kind: Pads, N: []int{0}}, []byte{1, 0}},
		{Option{Kind: Metric}, []byte{2, 0}},
		{Option{Kind: Pads, N: []int{255}}, append([]byte{1, 255}, make([]byte, 255)...)},
	} {
		if b, e := Encode(y.o); e != api.OK || !bytes.Equal(b, y.want) {
			t.Errorf("%v: %x, error %d", y.o, b, e)
		}
		if got, e := Decode(y.want); e != api.OK || !sameAll(got, []Option{y.o}) {
			t.Errorf("%x: %v, error %d", y.want, got, e)
		}
	}
	if b, e := Encode(); e != api.OK || len(b) != 0 {
		t.Errorf("of none: %x, error %d", b, e)
	}
	for _, b := range [][]byte{nil, {}} {
		if l, e := Decode(b); e != api.OK || len(l) != 0 {
			t.Errorf("of nothing: %v, error %d", l, e)
		}
	}
}

// P7.2, P7.4: what is encoded is as the words say, and is decoded as it was.
func TestEncodeDecode(t *testing.T) {
	draw := drawer(1)
	long := 0
	for range 5000 {
		l := drawnOptions(draw, api.MaxOptions)
		if draw(4) == 0 {
			widenPads(l)
		}
		want := bytesOfAll(l)
		b, e := Encode(l...)
		if len(want) > api.MaxBytes {
			long++
			if e != api.ErrLong || b != nil {
				t.Fatalf("%v: %d bytes, error %d", l, len(b), e)
			}
			continue
		}
		if e != api.OK || !bytes.Equal(b, want) {
			t.Fatalf("%v: %x, error %d; want %x", l, b, e, want)
		}
		if got, e := Decode(b); e != api.OK || !sameAll(got, l) {
			t.Fatalf("%v: %v, error %d", l, got, e)
		}
		sum := 0
		for _, o := range l {
			sum += Size(o)
		}
		if sum != len(b) {
			t.Fatalf("%v: sizes %d, %d bytes", l, sum, len(b))
		}
	}
	if long == 0 {
		t.Error("none was too long")
	}
}

func repeated(o Option, n int) []Option {
	var out []Option
	for range n {
		out = append(out, o)
	}
	return out
}

func wantEncode(t *testing.T, l []Option, want api.Errno) {
	t.Helper()
	if b, e := Encode(l...); e != want || b != nil {
		t.Errorf("%d options: %d bytes, error %d; want error %d", len(l), len(b), e, want)
	}
}

// P7.2: more than MaxOptions, ahead of what is wrong with one.
func TestEncodeTooMany(t *testing.T) {
	for _, o := range samples() {
		b, e := Encode(repeated(o, 16)...)
		if e != api.OK || len(b) != 16*Size(o) {
			t.Errorf("%v: %d bytes, error %d", o, len(b), e)
		}
		wantEncode(t, repeated(o, 17), api.ErrLong)
		wantEncode(t, repeated(o, 100), api.ErrLong)
	}
	wantEncode(t, repeated(Option{Kind: 10}, 16), api.ErrKind)
	wantEncode(t, repeated(Option{Kind: 10}, 17), api.ErrLong)
}

// P7.2: the first error of Check, ahead of too many bytes.
func TestEncodeFirstError(t *testing.T) {
	wrong := []struct {
		o    Option
		want api.Errno
	}{
		{Option{Kind: -1}, api.ErrKind},
		{Option{Kind: Transit}, api.ErrForm},
		{Option{Kind: Pads, N: []int{256}}, api.ErrArg},
		{Option{Kind: Metric, Text: make([]byte, 65)}, api.ErrLong},
	}
	full := Option{Kind: Pads, N: []int{255}}
	for _, x := range wrong {
		for _, y := range wrong {
			wantEncode(t, []Option{{Kind: Pad}, x.o, y.o}, x.want)
			wantEncode(t, []Option{x.o, {Kind: Pad}, y.o}, x.want)
		}
		wantEncode(t, append(repeated(full, 15), x.o), x.want)
	}
}

// P7.2: 1280 bytes may be, 1281 may not.
func TestEncodeTooLong(t *testing.T) {
	full := Option{Kind: Pads, N: []int{255}} // 257 bytes
	for _, y := range []struct {
		last int
		want api.Errno
	}{{249, api.OK}, {250, api.OK}, {251, api.ErrLong}, {255, api.ErrLong}} {
		l := append(repeated(full, 4), Option{Kind: Pads, N: []int{y.last}})
		b, e := Encode(l...)
		if e != y.want || e == api.OK && len(b) != 4*257+2+y.last || e != api.OK && b != nil {
			t.Errorf("%d: %d bytes, error %d", y.last, len(b), e)
		}
	}
	exact := append(repeated(full, 4), Option{Kind: Pads, N: []int{250}})
	if b, e := Encode(exact...); e != api.OK || len(b) != api.MaxBytes {
		t.Errorf("%d bytes, error %d", len(b), e)
	}
	wantEncode(t, append(exact, Option{Kind: Pad}), api.ErrLong)
}

func wantRefused(t *testing.T, b []byte, want api.Errno) {
	t.Helper()
	if l, e := Decode(b); e != want || l != nil {
		t.Errorf("%x: %v, error %d; want error %d", b[:min(len(b), 40)], l, e, want)
	}
}

// P7.2: no such kind, ahead of bytes that are missing.
func TestDecodeKind(t *testing.T) {
	for kind := 10; kind < 256; kind++ {
		wantRefused(t, []byte{byte(kind)}, api.ErrKind)
		wantRefused(t, []byte{byte(kind), 0}, api.ErrKind)
		wantRefused(t, []byte{byte(kind), 4, 0}, api.ErrKind)
		wantRefused(t, []byte{0, 6, 4, 0, 0, 0, 0, byte(kind)}, api.ErrKind)
	}
}

// P7.2: bytes that are missing, ahead of a length that its kind hasn't.
func TestDecodeEnd(t *testing.T) {
	for _, o := range samples()[1:] {
		whole := bytesByWords(o)
		for n := 1; n < len(whole); n++ {
			wantRefused(t, whole[:n], api.ErrEnd)
			wantRefused(t, append([]byte{0, 1, 1, 0}, whole[:n]...), api.ErrEnd)
		}
		for length := range 256 {
			for _, there := range []int{0, length / 2, length - 1} {
				if there >= 0 && there < length {
					b := append([]byte{byte(o.Kind), byte(length)}, bytes.Repeat([]byte{255}, there)...)
					wantRefused(t, b, api.ErrEnd)
				}
			}
		}
	}
}

// P7.2: each length of each kind, with bytes that would be wrong numbers too.
func TestDecodeLength(t *testing.T) {
	for _, o := range samples()[3:] {
		right := len(bytesByWords(o)) - 2
		for length := range 256 {
			if length == right {
				continue
			}
			for _, fill := range []byte{0, 255} {
				b := append([]byte{byte(o.Kind), byte(length)}, bytes.Repeat([]byte{fill}, length)...)
				wantRefused(t, b, api.ErrForm)
				wantRefused(t, append(b, 0, 99), api.ErrForm)
			}
		}
	}
}

// P7.2: a pad that isn't 0, at each place.
func TestDecodePads(t *testing.T) {
	for _, n := range []int{1, 2, 3, 100, 255} {
		for at := range n {
			for _, x := range []byte{1, 128, 255} {
				b := append([]byte{1, byte(n)}, make([]byte, n)...)
				b[2+at] = x
				wantRefused(t, b, api.ErrForm)
			}
		}
	}
	for n := range 256 {
		b := append([]byte{1, byte(n)}, make([]byte, n)...)
		if l, e := Decode(b); e != api.OK || !sameAll(l, []Option{{Kind: Pads, N: []int{n}}}) {
			t.Errorf("%d: %v, error %d", n, l, e)
		}
	}
}

// P7.2: numbers as Check tells them: lengths, and what must be 0.
func TestDecodeNumbers(t *testing.T) {
	for _, y := range []struct{ kind, at int }{{Route, 0}, {Target, 1}, {Prefix, 0}} {
		for bits := range 256 {
			b := bytesByWords(samples()[y.kind])
			b[2+y.at] = byte(bits)
			if bits > 128 {
				wantRefused(t, b, api.ErrArg)
			} else if l, e := Decode(b); e != api.OK || l[0].N[y.at] != bits {
				t.Errorf("%x: %v, error %d", b, l, e)
			}
		}
	}
	for _, y := range []struct{ kind, at int }{{Config, 10}, {Prefix, 10}, {Prefix, 11}, {Prefix, 12}, {Prefix, 13}} {
		for x := 1; x < 256; x++ {
			b := bytesByWords(samples()[y.kind])
			b[2+y.at] = byte(x)
			wantRefused(t, b, api.ErrArg)
		}
	}
}

// P7.2: how long a metric is.
func TestDecodeMetric(t *testing.T) {
	draw := drawer(2)
	for n := range 256 {
		text := drawnBytes(draw, n)
		b := append([]byte{2, byte(n)}, text...)
		if n > 64 {
			wantRefused(t, b, api.ErrLong)
			wantRefused(t, b[:n], api.ErrEnd)
		} else if l, e := Decode(b); e != api.OK || !sameAll(l, []Option{{Kind: Metric, Text: text}}) {
			t.Errorf("%x: %v, error %d", b, l, e)
		}
	}
}

// P7.2: a seventeenth option, whatever it is, ahead of what is wrong with it; and
// what is wrong with one of the sixteen, ahead of the seventeenth.
func TestDecodeTooMany(t *testing.T) {
	for _, o := range samples() {
		b := bytesByWords(o)
		whole := bytes.Repeat(b, 16)
		if l, e := Decode(whole); e != api.OK || !sameAll(l, repeated(o, 16)) {
			t.Errorf("%v: %d options, error %d", o, len(l), e)
		}
		for _, more := range [][]byte{{0}, {10}, {6}, {6, 3, 0, 0, 0}, {1, 1, 9}, b} {
			wantRefused(t, append(slices.Clone(whole), more...), api.ErrLong)
		}
		first := bytes.Repeat(b, 15)
		wantRefused(t, append(slices.Clone(first), 10, 0), api.ErrKind)
		wantRefused(t, append(slices.Clone(first), 1, 1, 9, 0, 0), api.ErrForm)
		wantRefused(t, append(slices.Clone(first), 6), api.ErrEnd)
	}
	wantRefused(t, make([]byte, 5000), api.ErrLong)
}

// P7.2: the first option that is wrong tells.
func TestDecodeFirstError(t *testing.T) {
	wrong := []struct {
		b    []byte
		want api.Errno
	}{
		{[]byte{77, 0}, api.ErrKind},
		{[]byte{6, 3, 0, 0, 0}, api.ErrForm},
		{[]byte{1, 1, 9}, api.ErrForm},
		{append([]byte{5, 18, 0, 129}, make([]byte, 16)...), api.ErrArg},
		{append([]byte{2, 65}, make([]byte, 65)...), api.ErrLong},
	}
	for _, x := range wrong {
		for _, y := range wrong {
			for _, ahead := range [][]byte{nil, {0}, {1, 1, 0, 6, 4, 0, 0, 0, 0}} {
				wantRefused(t, slices.Concat(ahead, x.b, y.b), x.want)
			}
		}
	}
}

// P7.2: Decode names no bound on the bytes in all: sixteen pads of 255 may be read,
// though Encode has no room for them.
func TestDecodeManyBytes(t *testing.T) {
	full := Option{Kind: Pads, N: []int{255}}
	l, e := Decode(bytes.Repeat(bytesByWords(full), 16))
	if e != api.OK || !sameAll(l, repeated(full, 16)) {
		t.Errorf("%d options, error %d", len(l), e)
	}
	wantEncode(t, l, api.ErrLong)
}

// decodedByWords is the chapter's words, told over the bytes that are left.
func decodedByWords(b []byte) ([]Option, api.Errno) {
	var out []Option
	for ; len(b) > 0; b = b[Size(out[len(out)-1]):] {
		switch {
		case len(out) == 16:
			return nil, api.ErrLong
		case b[0] > 9:
			return nil, api.ErrKind
		case b[0] == 0:
			out = append(out, Option{})
			continue
		case len(b) < 2 || len(b) < 2+int(b[1]):
			return nil, api.ErrEnd
		}
		o, e := contentByWords(rows()[b[0]], b[2:2+int(b[1])])
		if e != api.OK {
			return nil, e
		}
		out = append(out, o)
	}
	return out, api.OK
}

func contentByWords(r row, b []byte) (Option, api.Errno) {
	o := Option{Kind: r.kind}
	switch r.kind {
	case 1:
		o.N = []int{len(b)}
		if len(bytes.Trim(b, "\x00")) > 0 {
			return o, api.ErrForm
		}
		return o, api.OK
	case 2:
		o.Text = b
		if len(b) > 64 {
			return o, api.ErrLong
		}
		return o, api.OK
	}
	wrong := api.OK
	for i := range len(r.layout) {
		size := sizeOf(r.layout[i])
		if len(b) < size {
			return o, api.ErrForm
		}
		n := 0
		for _, x := range b[:size] {
			n = n<<8 | int(x)
		}
		if r.layout[i] == '@' {
			copy(o.Addr[:], b)
		} else if o.N = append(o.N, n); n > lastOf(r.layout[i]) {
			wrong = api.ErrArg
		}
		b = b[size:]
	}
	if len(b) > 0 {
		return o, api.ErrForm
	}
	return o, wrong
}

// P7.2, P7.4: any bytes are refused as the words say, or what is decoded is encoded
// as it was.
func TestDecodeAnyBytes(t *testing.T) {
	draw := drawer(3)
	told := map[api.Errno]int{}
	for range 30000 {
		b := bytesOfAll(drawnOptions(draw, 1+draw(17)))
		for range draw(3) {
			if len(b) > 0 {
				b[draw(len(b))] = byte(draw([]int{3, 12, 256}[draw(3)]))
			}
		}
		if draw(4) == 0 {
			b = b[:draw(len(b)+1)]
		}
		want, wantErr := decodedByWords(b)
		l, e := Decode(b)
		told[e]++
		if e != wantErr || e != api.OK && l != nil || !sameAll(l, want) {
			t.Fatalf("%x: %v, error %d; want %v, error %d", b, l, e, want, wantErr)
		}
		if e != api.OK || len(b) > api.MaxBytes {
			continue
		}
		if back, e := Encode(l...); e != api.OK || !bytes.Equal(back, b) {
			t.Fatalf("%x: back %x, error %d", b, back, e)
		}
	}
	for _, e := range []api.Errno{api.OK, api.ErrLong, api.ErrKind, api.ErrEnd, api.ErrForm, api.ErrArg} {
		if told[e] == 0 {
			t.Errorf("error %d was never told", e)
		}
	}
}

// P7.3: Same, where nothing, or one thing alone, differs.
func TestSame(t *testing.T) {
	l := samples()
	if !Same(l, samples()) || !Same(nil, nil) || !Same(nil, []Option{}) {
		t.Error("the same aren't")
	}
	for i := range l {
		l[i].N, l[i].Text = append([]int{}, l[i].N...), append([]byte{}, l[i].Text...)
	}
	if !Same(l, samples()) || !Same(samples(), l) {
		t.Error("empty isn't nil")
	}
	for _, m := range differing() {
		if Same(l, m) || Same(m, l) {
			t.Errorf("%v is the same as %v", l, m)
		}
	}
}

// differing are lists with one thing other than in samples.
func differing() [][]Option {
	var out [][]Option
	with := func(i int, change func(o *Option)) {
		l := samples()
		change(&l[i])
		out = append(out, l)
	}
	for i, o := range samples() {
		with(i, func(o *Option) { o.Kind += 10 })
		with(i, func(o *Option) { o.Addr[15]++ })
		with(i, func(o *Option) { o.Addr[0]++ })
		with(i, func(o *Option) { o.N = append(o.N, 0) })
		with(i, func(o *Option) { o.Text = append(o.Text, 0) })
		for j := range o.N {
			with(i, func(o *Option) { o.N[j]++ })
			with(i, func(o *Option) { o.N = o.N[:j] })
		}
		for j := range o.Text {
			with(i, func(o *Option) { o.Text[j]++ })
			with(i, func(o *Option) { o.Text = o.Text[:j] })
		}
		out = append(out, slices.Delete(samples(), i, i+1), samples()[:i])
	}
	swapped := samples()
	swapped[3], swapped[5] = swapped[5], swapped[3]
	return append(out, swapped, append(samples(), Option{}))
}

// P7.3: the first one of some kinds, in the order of the list.
func TestFind(t *testing.T) {
	l := append(samples(), samples()...)
	for i := range l[10:] {
		l[10+i].Text = append(l[10+i].Text, 'x') // so that the second ones are told apart
	}
	for a := range 10 {
		if o, ok := Find(l, a); !ok || !same(o, l[a]) {
			t.Errorf("%d: %v, %v", a, o, ok)
		}
		for b := range 10 {
			if o, ok := Find(l, a, b); !ok || !same(o, l[min(a, b)]) {
				t.Errorf("%d, %d: %v, %v", a, b, o, ok)
			}
			if o, ok := Find(l[a:], 99, b, 98); !ok || !same(o, l[a:][(b-a+10)%10]) {
				t.Errorf("%d behind %d: %v, %v", b, a, o, ok)
			}
		}
	}
}

// P7.3: nothing, and false.
func TestFindNothing(t *testing.T) {
	nothing := func(o Option, ok bool) {
		t.Helper()
		if ok || o.Kind != 0 || o.N != nil || o.Addr != (addr.Addr{}) || o.Text != nil {
			t.Errorf("%v, %v", o, ok)
		}
	}
	nothing(Find(nil))
	nothing(Find(nil, 0, 1))
	nothing(Find(samples()))
	nothing(Find(samples(), noKinds()...))
	for kind := range 10 {
		nothing(Find(slices.Delete(samples(), kind, kind+1), kind))
	}
}

// P7.3: all that are of none of some kinds, in order.
func TestWithout(t *testing.T) {
	if l := Without(samples()); !sameAll(l, samples()) {
		t.Errorf("%v", l)
	}
	if l := Without(samples(), noKinds()...); !sameAll(l, samples()) {
		t.Errorf("%v", l)
	}
	if l := Without(samples(), 9, 8, 7, 6, 5, 4, 3, 2, 1, 0); len(l) != 0 {
		t.Errorf("%v", l)
	}
	if l := Without(nil, 1, 2); len(l) != 0 {
		t.Errorf("%v", l)
	}
	draw := drawer(4)
	for range 500 {
		l, some := drawnOptions(draw, 20), draw(1024)
		var kinds []int
		for kind := range 10 {
			if some>>kind&1 != 0 {
				kinds = append([]int{kind}, kinds...)
			}
		}
		var want []Option
		for _, o := range l {
			if some>>o.Kind&1 == 0 {
				want = append(want, o)
			}
		}
		if got := Without(l, kinds...); !sameAll(got, want) {
			t.Errorf("%v without %v: %v", l, kinds, got)
		}
	}
}

// P7.3: options that aren't right are held against kinds by their numbers too.
func TestKindsThatArent(t *testing.T) {
	l := []Option{{Kind: Pads}, {Kind: -7, N: []int{1}}, {Kind: 300}}
	if o, ok := Find(l, 300, -7); !ok || !same(o, l[1]) {
		t.Errorf("%v, %v", o, ok)
	}
	if got := Without(l, -7); !sameAll(got, []Option{l[0], l[2]}) {
		t.Errorf("%v", got)
	}
	if !Same(l, slices.Clone(l)) {
		t.Error("the same aren't")
	}
}

// spoil overwrites all memory of options.
func spoil(l []Option) {
	for _, o := range l[:cap(l)] {
		for i := range o.N[:cap(o.N)] {
			o.N[:cap(o.N)][i] = -99
		}
		spoilBytes(o.Text)
	}
	clear(l[:cap(l)])
}

func spoilBytes(b []byte) {
	for i := range b[:cap(b)] {
		b[:cap(b)][i] = 200
	}
}

// P7.4: what is handed in stays, isn't kept, and answers are new memory.
func TestBytesNewMemory(t *testing.T) {
	room := append(bytesOfAll(samples()), "and more"...)
	was := slices.Clone(room)
	b := room[:len(room)-8]
	l, _ := Decode(b)
	twin, _ := Decode(b)
	spoil(twin)
	if !bytes.Equal(room, was) || !sameAll(l, samples()) {
		t.Error("a twin is shared")
	}
	spoilBytes(room)
	if !sameAll(l, samples()) {
		t.Error("bytes are kept")
	}
	for i := range l { // no list of an answer is shared with another one
		mine, _ := Decode(was[:len(was)-8])
		spoil(mine[i : i+1 : i+1])
		if !sameAll(mine[:i], samples()[:i]) || !sameAll(mine[i+1:], samples()[i+1:]) {
			t.Errorf("%d is shared", i)
		}
	}
	first, _ := Encode(l...)
	second, _ := Encode(l...)
	spoilBytes(second)
	if !sameAll(l, samples()) || !bytes.Equal(first, bytesOfAll(samples())) {
		t.Error("an answer is shared")
	}
	spoil(l)
	if !bytes.Equal(first, bytesOfAll(samples())) {
		t.Error("options are kept")
	}
}

// P7.4: the same of Find, Without and their kinds.
func TestListsNewMemory(t *testing.T) {
	l, kinds := samples(), []int{4, 2}
	for kind := range 10 {
		o, _ := Find(l, kind)
		spoil([]Option{o})
	}
	Find(l, kinds...)
	spoil(Without(l))
	spoil(Without(l, kinds...))
	spoil(Without(l, 0))
	if !sameAll(l, samples()) || !slices.Equal(kinds, []int{4, 2}) {
		t.Errorf("%v, %v", l, kinds)
	}
	got := Without(l)
	o, _ := Find(l, 4)
	spoil(l)
	if !sameAll(got, samples()) || !same(o, samples()[4]) {
		t.Errorf("%v, %v", got, o)
	}
}

// P7.4: a look at options changes none of them, nor what lies behind their lists.
func TestArgumentsStay(t *testing.T) {
	numbers, text := []int{1, 2, 3, 4, 5, 6}, []byte("metric and more")
	l := []Option{{Kind: Transit, N: numbers[:4]}, {Kind: Metric, Text: text[:6]}}
	for _, o := range l {
		Check(o)
		Size(o)
	}
	Encode(l...)
	Same(l, l)
	Find(l, Metric)
	Without(l, Transit)
	if !slices.Equal(numbers, []int{1, 2, 3, 4, 5, 6}) || string(text) != "metric and more" || len(l) != 2 {
		t.Errorf("%v, %q, %v", numbers, text, l)
	}
}

// P2: the same calls have the same answers.
func TestSameAgain(t *testing.T) {
	draw := drawer(5)
	for range 500 {
		l := drawnOptions(draw, 18)
		a, x := Encode(l...)
		b, y := Encode(l...)
		if x != y || !bytes.Equal(a, b) {
			t.Errorf("Encode: %x, error %d; then %x, error %d", a, x, b, y)
		}
		bent := drawnBytes(draw, draw(30))
		for i := range bent {
			bent[i] %= 11
		}
		p, x := Decode(bent)
		q, y := Decode(bent)
		if x != y || !sameAll(p, q) {
			t.Errorf("Decode: %v, error %d; then %v, error %d", p, x, q, y)
		}
		kinds := []int{draw(11), draw(11)}
		o, is := Find(l, kinds...)
		u, too := Find(l, kinds...)
		if is != too || !same(o, u) || !sameAll(Without(l, kinds...), Without(l, kinds...)) {
			t.Errorf("%v of %v: %v, %v; then %v, %v", kinds, l, o, is, u, too)
		}
	}
}
