package addr

import (
	"fmt"
	"math"
	"net/netip"
	"slices"
	"strings"
	"testing"

	"rivulet/api"
)

// of is the address of eight groups.
func of(t *testing.T, groups ...int) Addr {
	t.Helper()
	a, e := Of(groups...)
	if e != api.OK {
		t.Fatalf("Of(%v): error %d", groups, e)
	}
	return a
}

// drawer answers numbers that hang on seed alone.
func drawer(seed int) func(below int) int {
	state := uint32(seed)*2654435761 + 1
	return func(below int) int {
		state = state*1664525 + 1013904223
		return int(state>>16) % below
	}
}

// someGroups answers lists of eight groups: each pattern of groups that are 0,
// with others of one to four signs between.
func someGroups() [][]int {
	others := []int{1, 0xf, 0x10, 0xff, 0x100, 0xabc, 0x1000, 0xffff}
	var out [][]int
	for pattern := range 256 {
		for turn := range len(others) {
			l := make([]int, 8)
			for i := range l {
				if pattern>>i&1 == 1 {
					l[i] = others[(i+turn)%len(others)]
				}
			}
			out = append(out, l)
		}
	}
	return out
}

// textByWords is the chapter's words, one after the other.
func textByWords(groups []int) string {
	begin, length := -1, 1
	for i := range groups {
		n := 0
		for i+n < len(groups) && groups[i+n] == 0 {
			n++
		}
		if n > length {
			begin, length = i, n
		}
	}
	s := ""
	for i := 0; i < len(groups); i++ {
		switch {
		case i == begin:
			s += "::"
			i += length - 1
		case s == "" || strings.HasSuffix(s, ":"):
			s += fmt.Sprintf("%x", groups[i])
		default:
			s += fmt.Sprintf(":%x", groups[i])
		}
	}
	return s
}

// P3.1: the groups of an address are two bytes each, the higher one first.
func TestGroups(t *testing.T) {
	a := Addr{0xfe, 0x80, 1, 2, 0, 255, 255, 0, 255, 255, 0, 0, 0x7f, 0xff, 0x80, 0}
	want := [8]int{0xfe80, 0x102, 255, 0xff00, 65535, 0, 0x7fff, 0x8000}
	if got := Groups(a); got != want {
		t.Errorf("got %v, want %v", got, want)
	}
	if got := of(t, want[:]...); got != a {
		t.Errorf("got %v, want %v", got, a)
	}
	if got := Groups(Addr{}); got != [8]int{} {
		t.Errorf("of nothing: %v", got)
	}
	for i := range 8 {
		for _, n := range []int{0, 1, 255, 256, 32767, 32768, 65534, 65535} {
			l := make([]int, 8)
			l[i] = n
			a := of(t, l...)
			if a[2*i] != byte(n/256) || a[2*i+1] != byte(n%256) || Groups(a) != [8]int(l) {
				t.Errorf("group %d of %d: %v", i, n, a)
			}
		}
	}
}

// P3.1: Of with too few, too many, and what is no group.
func TestOfRefuses(t *testing.T) {
	for n := range 20 {
		a, e := Of(make([]int, n)...)
		if want := map[bool]api.Errno{true: api.OK, false: api.ErrArg}[n == 8]; e != want || a != (Addr{}) {
			t.Errorf("%d groups: %v, error %d", n, a, e)
		}
	}
	if _, e := Of(nil...); e != api.ErrArg {
		t.Errorf("none: error %d", e)
	}
	for i := range 8 {
		for _, bad := range []int{-1, 65536, -65535, 1 << 32, math.MinInt, math.MaxInt} {
			l := []int{1, 2, 3, 4, 5, 6, 7, 8}
			l[i] = bad
			if a, e := Of(l...); e != api.ErrArg || a != (Addr{}) {
				t.Errorf("Of(%v): %v, error %d", l, a, e)
			}
		}
	}
}

// P3.1: Of changes nothing of what it is handed.
func TestOfKeepsNothing(t *testing.T) {
	l := []int{1, 2, 3, 4, 5, 6, 7, 8}
	a := of(t, l...)
	if !slices.Equal(l, []int{1, 2, 3, 4, 5, 6, 7, 8}) {
		t.Errorf("it changed %v", l)
	}
	l[0] = 9
	if Groups(a)[0] != 1 {
		t.Error("it keeps what it was handed")
	}
}

// P3.1: texts, written out.
func TestText(t *testing.T) {
	for want, l := range map[string][]int{
		"::":                      {0, 0, 0, 0, 0, 0, 0, 0},
		"::1":                     {0, 0, 0, 0, 0, 0, 0, 1},
		"1::":                     {1, 0, 0, 0, 0, 0, 0, 0},
		"1:0:0:2::3":              {1, 0, 0, 2, 0, 0, 0, 3},
		"1::2:0:0:3":              {1, 0, 0, 0, 2, 0, 0, 3},
		"1::2:0:0:3:4":            {1, 0, 0, 2, 0, 0, 3, 4},
		"1:0:2:3:4:5:6:7":         {1, 0, 2, 3, 4, 5, 6, 7},
		"0:1:2:3:4:5:6:0":         {0, 1, 2, 3, 4, 5, 6, 0},
		"0:1::2:0":                {0, 1, 0, 0, 0, 0, 2, 0},
		"::1:0:0:1:0:0":           {0, 0, 1, 0, 0, 1, 0, 0},
		"0:0:1::":                 {0, 0, 1, 0, 0, 0, 0, 0},
		"0:1::":                   {0, 1, 0, 0, 0, 0, 0, 0},
		"::1:0":                   {0, 0, 0, 0, 0, 0, 1, 0},
		"1:2:3:4:5:6::":           {1, 2, 3, 4, 5, 6, 0, 0},
		"::1:2:3:4:5:6":           {0, 0, 1, 2, 3, 4, 5, 6},
		"fe80::1:3":               {0xfe80, 0, 0, 0, 0, 0, 1, 3},
		"::ffff:102:304":          {0, 0, 0, 0, 0, 0xffff, 0x102, 0x304},
		"a:b:c:d:e:f:10:100":      {10, 11, 12, 13, 14, 15, 16, 256},
		"1000:200:30:4:9:8:7:abc": {0x1000, 0x200, 0x30, 4, 9, 8, 7, 0xabc},
		"ffff:ffff:ffff:ffff:ffff:ffff:ffff:ffff": {65535, 65535, 65535, 65535, 65535, 65535, 65535, 65535},
	} {
		a := of(t, l...)
		if got := Text(a); got != want {
			t.Errorf("%v: %q, want %q", l, got, want)
		}
		if got, e := Parse(want); got != a || e != api.OK {
			t.Errorf("Parse(%q): %v, error %d", want, Groups(got), e)
		}
	}
}

// P3.1, P3.4: each pattern of zeros is told as the words say, and parsed.
func TestTextByWords(t *testing.T) {
	for _, l := range someGroups() {
		a := of(t, l...)
		text := Text(a)
		if want := textByWords(l); text != want {
			t.Errorf("%v: %q, want %q", l, text, want)
		}
		// The library tells the same, but for those that have an older form.
		if other := netip.AddrFrom16(a); !other.Is4In6() && other.String() != text {
			t.Errorf("%v: %q, elsewhere %q", l, text, other.String())
		}
		if got, e := Parse(text); got != a || e != api.OK {
			t.Errorf("Parse(%q): %v, error %d", text, Groups(got), e)
		}
	}
}

// P3.1: what isn't a text, one fault each.
func TestParseRefuses(t *testing.T) {
	for _, s := range []string{
		"", ":", ":::", "::::", "1", "1:", ":1", "1:2", "0", " ", "::\x00", "::\xff", "é::", "１::",
		"1:2:3:4:5:6:7", "1:2:3:4:5:6:7:8:9", "1:2:3:4:5:6:7:8:", ":1:2:3:4:5:6:7:8", "1:2:3:4:5:6:7:",
		"1::2::3", "::1::", ":::1", "1:::", "1:::2", "::1:", ":1::",
		"01::", "1::01", "0001::", "::00", "::0", "0::", "0::1", "1::0", "0:0:0:0:0:0:0:0", "00::1",
		"1:0:0:2:0:0:0:3", "1::2:0:0:0:3", "1:0:0:2:0:0:3:4", "1:0:0:2::3:4", "1:0:0:2:3:4:5:6",
		"1:2:3:4:5:6:7::", "::2:3:4:5:6:7:8", "1:2:3::5:6:7:8", "1:2:3:4::5:6:7:8", "1:2:3:4:5:6:7:8::", "::1:2:3:4:5:6:7:8",
		"G::", "g::", "FE80::1", "A::", "::aB", "12345::", "10000::", "::ffff1", "ffffffffffffffffff::",
		"-1::", "+1::", "::-0", "0x1::", "::0x1", "1_0::", "::1_1", "1.2.3.4", "::1.2.3.4", "::ffff:1.2.3.4",
		" ::", ":: ", ":: 1", "1 ::", "::1\n", "[::1]", "::1/64", "fe80::1%1", "1;2;3;4;5;6;7;8",
		strings.Repeat("1:", 8), strings.Repeat(":", 8), strings.Repeat("0", 40), strings.Repeat("1:", 1<<20), strings.Repeat(":", 1<<20),
		"ffff:ffff:ffff:ffff:ffff:ffff:ffff:ffff0", "0ffff:ffff:ffff:ffff:ffff:ffff:ffff:ffff",
		"ffff:ffff:ffff:ffff:ffff:ffff:ffff:ffff:", "ffff:ffff:ffff:ffff:ffff:ffff:ffff:ffff:ffff",
	} {
		if a, e := Parse(s); e != api.ErrForm || a != (Addr{}) {
			t.Errorf("Parse(%.40q): %v, error %d", s, Groups(a), e)
		}
	}
}

// P3.1, P3.4: a text that is bent in one place is refused, or is another
// address's.
func TestParseBent(t *testing.T) {
	const signs = "0123456789abcdefABCDEFgx:.-+_% \x00\xff"
	look := func(s string) {
		a, e := Parse(s)
		switch {
		case e == api.OK && Text(a) != s:
			t.Errorf("Parse(%q): the text is %q", s, Text(a))
		case e != api.OK && (e != api.ErrForm || a != Addr{}):
			t.Errorf("Parse(%q): %v, error %d", s, Groups(a), e)
		case e == api.OK:
			return
		}
		// What the library reads, and would write the same, must not be refused.
		if other, err := netip.ParseAddr(s); err == nil && other.Is6() && !strings.Contains(s, "%") && textByWords(ints(other.As16())) == s {
			t.Errorf("Parse(%q): error %d", s, e)
		}
	}
	for _, l := range someGroups() {
		text := textByWords(l)
		draw := drawer(l[0] + l[3]*7 + l[7]*31)
		for range 6 {
			i := draw(len(text))
			sign := string(signs[draw(len(signs))])
			look(text[:i] + sign + text[i:])
			look(text[:i] + sign + text[i+1:])
			look(text[:i] + text[i+1:])
		}
	}
}

func ints(a Addr) []int {
	groups := Groups(a)
	return groups[:]
}

// P3.2: each node's link-local address, and no other node's.
func TestLink(t *testing.T) {
	for n := range 64 {
		a, e := Link(n)
		if want := of(t, 0xfe80, 0, 0, 0, 0, 0, 1, n+1); e != api.OK || a != want {
			t.Errorf("node %d: %s, error %d", n, Text(a), e)
		}
		if got, e := Node(a); got != n || e != api.OK {
			t.Errorf("%s: node %d, error %d", Text(a), got, e)
		}
	}
	if a, _ := Link(2); Text(a) != "fe80::1:3" {
		t.Errorf("node 2: %s", Text(a))
	}
	for _, n := range []int{-1, 64, 65, 255, 256, -256, 65536, math.MinInt, math.MaxInt} {
		if a, e := Link(n); e != api.ErrArg || a != (Addr{}) {
			t.Errorf("node %d: %s, error %d", n, Text(a), e)
		}
	}
}

// P3.2: each node's global address by several prefixes.
func TestGlobal(t *testing.T) {
	for _, front := range [][4]int{{0x2001, 0xdb8, 0, 7}, {0, 0, 0, 1}, {0, 0, 0, 0}, {0xfe80, 0, 0, 0}, {0xff02, 1, 1, 1}, {65535, 65535, 65535, 65535}} {
		p := Prefix{Addr: of(t, front[0], front[1], front[2], front[3], 0, 0, 0, 0), Bits: 64}
		for n := range 64 {
			a, e := Global(p, n)
			if want := of(t, front[0], front[1], front[2], front[3], 0, 0, 1, n+1); e != api.OK || a != want {
				t.Errorf("node %d: %s, error %d", n, Text(a), e)
			}
			if !Has(p, a) {
				t.Errorf("%s isn't by its prefix", Text(a))
			}
			got, e := Node(a)
			if front == [4]int{} {
				if got != 0 || e != api.ErrNone {
					t.Errorf("%s: node %d, error %d", Text(a), got, e)
				}
			} else if got != n || e != api.OK {
				t.Errorf("%s: node %d, error %d", Text(a), got, e)
			}
		}
		for _, n := range []int{-1, 64, 255, -255, 65536, math.MinInt, math.MaxInt} {
			if a, e := Global(p, n); e != api.ErrArg || a != (Addr{}) {
				t.Errorf("node %d: %s, error %d", n, Text(a), e)
			}
		}
	}
}

// P3.2: Global by what is no prefix of 64 bits.
func TestGlobalRefuses(t *testing.T) {
	front := Addr{0x20, 1, 0xd, 0xb8}
	for _, bits := range []int{-64, -1, 0, 1, 32, 63, 65, 128, 129, 64 + 256, math.MinInt, math.MaxInt} {
		if a, e := Global(Prefix{Addr: front, Bits: bits}, 3); e != api.ErrArg || a != (Addr{}) {
			t.Errorf("%d bits: %s, error %d", bits, Text(a), e)
		}
	}
	for i := 64; i < 128; i++ {
		p := Prefix{Addr: front, Bits: 64}
		p.Addr[i/8] |= 128 >> (i % 8)
		if a, e := Global(p, 3); e != api.ErrArg || a != (Addr{}) {
			t.Errorf("bit %d: %s, error %d", i, Text(a), e)
		}
	}
	if a, e := Global(Prefix{}, 0); e != api.ErrArg || a != (Addr{}) {
		t.Errorf("by no bits: %s, error %d", Text(a), e)
	}
}

// P3.2: what is no node's: its groups may be off in one place each.
func TestNodeRefuses(t *testing.T) {
	for _, y := range [][4]int{
		{0, 0, 1, 0}, {0, 0, 1, 65}, {0, 0, 1, 0x101}, {0, 0, 1, 0x100}, {0, 0, 1, 65535}, {0, 0, 1, 0x8001},
		{0, 0, 0, 1}, {0, 0, 2, 1}, {0, 0, 0x101, 1}, {0, 0, 0x100, 1}, {0, 0, 65535, 1},
		{0, 1, 1, 1}, {0, 0x100, 1, 1}, {1, 0, 1, 1}, {0x8000, 0, 1, 1}, {0, 0, 0, 0},
	} {
		for _, front := range []int{0xfe80, 0x2001} {
			a := of(t, front, 0, 0, 0, y[0], y[1], y[2], y[3])
			if n, e := Node(a); n != 0 || e != api.ErrNone {
				t.Errorf("%s: node %d, error %d", Text(a), n, e)
			}
		}
	}
	for _, a := range []Addr{{}, All(), {15: 1}, {13: 1, 15: 1}, {13: 1, 15: 64}} {
		if n, e := Node(a); n != 0 || e != api.ErrNone {
			t.Errorf("%s: node %d, error %d", Text(a), n, e)
		}
	}
	for i := range 64 {
		a := Addr{13: 1, 15: 64}
		a[i/8] |= 128 >> (i % 8)
		if n, e := Node(a); n != 63 || e != api.OK {
			t.Errorf("%s: node %d, error %d", Text(a), n, e)
		}
	}
}

// P3.2: all routers, and what is multicast.
func TestMulticast(t *testing.T) {
	if Text(All()) != "ff02::1a" || !Multicast(All()) {
		t.Errorf("all routers: %s", Text(All()))
	}
	for first := range 256 {
		if got := Multicast(Addr{byte(first), 255, 255}); got != (first == 255) {
			t.Errorf("first byte %d: %v", first, got)
		}
	}
	if Multicast(Addr{}) {
		t.Error("nothing is multicast")
	}
}

// bit tells one bit of an address, the highest one first.
func bit(a Addr, i int) bool { return a[i/8]&(128>>(i%8)) != 0 }

// P3.3: Cut keeps the first so many bits, and no other one.
func TestCut(t *testing.T) {
	draw := drawer(3)
	var full, mixed Addr
	for i := range full {
		full[i], mixed[i] = 255, byte(draw(256))
	}
	for _, a := range []Addr{full, mixed, {}, All()} {
		for bits := 0; bits <= 128; bits++ {
			p, e := Cut(a, bits)
			if e != api.OK || p.Bits != bits || !Right(p) || !Has(p, a) {
				t.Errorf("%s cut to %d: %v, error %d", Text(a), bits, p, e)
			}
			for i := range 128 {
				if bit(p.Addr, i) != (i < bits && bit(a, i)) {
					t.Errorf("%s cut to %d: bit %d", Text(a), bits, i)
				}
			}
		}
	}
	for _, bits := range []int{-1, 129, -128, 256, 1 << 32, math.MinInt, math.MaxInt} {
		if p, e := Cut(full, bits); e != api.ErrArg || p != (Prefix{}) {
			t.Errorf("cut to %d: %v, error %d", bits, p, e)
		}
	}
}

// P3.3: Right at each number of bits with each one bit.
func TestRight(t *testing.T) {
	for i := range 128 {
		var one Addr
		one[i/8] = 128 >> (i % 8)
		for bits := -3; bits <= 131; bits++ {
			inside := bits >= 0 && bits <= 128
			if got := Right(Prefix{Addr: one, Bits: bits}); got != (inside && i < bits) {
				t.Errorf("bit %d of %d: %v", i, bits, got)
			}
			if got := Right(Prefix{Bits: bits}); got != inside {
				t.Errorf("nothing, %d bits: %v", bits, got)
			}
		}
	}
	for _, bits := range []int{math.MinInt, math.MaxInt, 1 << 32, 256} {
		if Right(Prefix{Bits: bits}) {
			t.Errorf("%d bits are right", bits)
		}
	}
}

// P3.3: Has looks at the bits that count, and at no other one.
func TestHas(t *testing.T) {
	draw := drawer(9)
	var a Addr
	for i := range a {
		a[i] = byte(draw(256))
	}
	for bits := 0; bits <= 128; bits++ {
		p, _ := Cut(a, bits)
		for i := range 128 {
			b := a
			b[i/8] ^= 128 >> (i % 8)
			if got := Has(p, b); got != (i >= bits) {
				t.Errorf("%d bits, bit %d turned: %v", bits, i, got)
			}
			// A bit too many makes the prefix wrong, even for its own address.
			bent := p
			bent.Addr[i/8] |= 128 >> (i % 8)
			if i >= bits && (Has(bent, a) || Has(bent, bent.Addr)) {
				t.Errorf("%d bits with bit %d has an address", bits, i)
			}
		}
	}
	for _, bits := range []int{-1, 129, math.MinInt, math.MaxInt} {
		if Has(Prefix{Bits: bits}, Addr{}) || Has(Prefix{Addr: a, Bits: bits}, a) {
			t.Errorf("%d bits have an address", bits)
		}
	}
}

// P3.3: Longest tells the first one of those with the most bits.
func TestLongest(t *testing.T) {
	a := of(t, 0x2001, 0xdb8, 0, 7, 0, 0, 1, 10)
	cutTo := func(bits int) Prefix {
		p, _ := Cut(a, bits)
		return p
	}
	other := Prefix{Addr: Addr{0x30}, Bits: 64}
	wrong := Prefix{Addr: a, Bits: 100}
	for i, y := range []struct {
		l     []Prefix
		place int
		e     api.Errno
	}{
		{nil, 0, api.ErrNone},
		{[]Prefix{}, 0, api.ErrNone},
		{[]Prefix{other}, 0, api.ErrNone},
		{[]Prefix{wrong, {Addr: a, Bits: 129}, {Bits: -1}, {Addr: a, Bits: math.MaxInt}, {Bits: math.MinInt}}, 0, api.ErrNone},
		{[]Prefix{{}}, 0, api.OK},
		{[]Prefix{other, {}}, 1, api.OK},
		{[]Prefix{{}, cutTo(20), cutTo(64), cutTo(64)}, 2, api.OK},
		{[]Prefix{cutTo(64), cutTo(20), cutTo(64), {}}, 0, api.OK},
		{[]Prefix{cutTo(127), cutTo(128), cutTo(128), cutTo(1)}, 1, api.OK},
		{[]Prefix{wrong, other, cutTo(3), wrong, cutTo(2)}, 2, api.OK},
		{[]Prefix{cutTo(3), {Addr: a, Bits: 1000}, cutTo(4), {Bits: -7}}, 2, api.OK},
	} {
		place, e := Longest(a, y.l...)
		if place != y.place || e != y.e {
			t.Errorf("%d: place %d, error %d; want %d, %d", i, place, e, y.place, y.e)
		}
	}
	l := []Prefix{wrong, cutTo(9), other}
	kept := slices.Clone(l)
	if _, e := Longest(a, l...); e != api.OK || !slices.Equal(l, kept) {
		t.Errorf("it changed %v, error %d", l, e)
	}
}

// P3.4: a prefix that has an address has it cut to any bits that it doesn't
// reach behind, and is itself the address cut.
func TestHasCut(t *testing.T) {
	for seed := range 200 {
		draw := drawer(seed)
		a, b := Addr{byte(draw(2)), byte(draw(2))}, Addr{byte(draw(2)), byte(draw(2))}
		a[15], b[15] = byte(draw(256)), byte(draw(256))
		for bits := 0; bits <= 128; bits += 1 + draw(3) {
			p, _ := Cut(a, bits)
			if !Has(p, b) {
				continue
			}
			if own, e := Cut(b, bits); e != api.OK || own != p || !Has(p, own.Addr) {
				t.Errorf("%v has %s, which is cut to %v", p, Text(b), own)
			}
			for more := bits; more <= 128; more++ {
				if longer, _ := Cut(b, more); !Has(p, longer.Addr) {
					t.Errorf("%v doesn't have %v", p, longer)
				}
			}
		}
	}
}

// P2: the same calls have the same answers.
func TestSameAnswers(t *testing.T) {
	for _, l := range someGroups() {
		a := of(t, l...)
		p, _ := Cut(a, l[0]%129)
		first, e := Longest(a, Prefix{}, p, p)
		again, f := Longest(a, Prefix{}, p, p)
		n, g := Node(a)
		m, h := Node(a)
		if Text(a) != Text(a) || first != again || e != f || n != m || g != h || All() != All() {
			t.Errorf("%s: other answers", Text(a))
		}
	}
}
