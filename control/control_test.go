package control

import (
	"bytes"
	"math"
	"slices"
	"testing"

	"rivulet/addr"
	"rivulet/api"
	"rivulet/option"
)

// drawer answers numbers that hang on seed alone.
func drawer(seed int) func(below int) int {
	state := uint64(seed)*2654435761 + 1
	return func(below int) int {
		state = state*6364136223846793005 + 1442695040888963407
		return int(state>>33) % below
	}
}

// here is an address with each byte different from the others.
func here() addr.Addr {
	var a addr.Addr
	for i := range a {
		a[i] = byte(0xa0 + i)
	}
	return a
}

// kindOptions are one right option of each kind.
func kindOptions() []option.Option {
	return []option.Option{
		{Kind: option.Pad},
		{Kind: option.Pads, N: []int{3}},
		{Kind: option.Metric, Text: []byte("etx")},
		{Kind: option.Route, N: []int{64, 24, 0x01020304}, Addr: here()},
		{Kind: option.Config, N: []int{1, 8, 3, 10, 1792, 256, 2, 0, 254, 65534}},
		{Kind: option.Target, N: []int{5, 128}, Addr: here()},
		{Kind: option.Transit, N: []int{1, 2, 3, 4}},
		{Kind: option.Solicited, N: []int{9, 224, 241}, Addr: here()},
		{Kind: option.Prefix, N: []int{65, 192, 1<<32 - 1, 0x0a0b0c0d, 0}, Addr: here()},
		{Kind: option.Descriptor, N: []int{0x00010203}},
	}
}

func words() []string { return []string{"dis", "dio", "dao", "ack"} }

// mayBe is the chapter's list: of each code the kinds that may be.
func mayBe(code int) []int {
	return [][]int{{0, 1, 7}, {0, 1, 2, 3, 4, 8}, {0, 1, 5, 6, 9}, {0, 1}}[code]
}

// allOptions are one option of each kind that a code may have.
func allOptions(code int) []option.Option {
	var out []option.Option
	for _, kind := range mayBe(code) {
		out = append(out, kindOptions()[kind])
	}
	return out
}

// samples are one right message of each code that has all that the code has, each
// number another one.
func samples() []Message {
	return []Message{
		{Code: DIS, Options: allOptions(DIS)},
		{Code: DIO, Instance: 3, Version: 240, Rank: 0x0201, Mode: 2, Preference: 5, DTSN: 7, Grounded: true, Root: here(), Options: allOptions(DIO)},
		{Code: DAO, Instance: 11, Ask: true, Sequence: 12, Root: here(), Options: allOptions(DAO)},
		{Code: Ack, Instance: 13, Sequence: 14, Status: 15, Root: here(), Options: allOptions(Ack)},
	}
}

// member is a number of a message: where it is, and its greatest value by code, -1
// where the code doesn't have it.
type member struct {
	name string
	at   func(m *Message) *int
	last [4]int
}

func members() []member {
	return []member{
		{"instance", func(m *Message) *int { return &m.Instance }, [4]int{-1, 255, 255, 255}},
		{"version", func(m *Message) *int { return &m.Version }, [4]int{-1, 255, -1, -1}},
		{"rank", func(m *Message) *int { return &m.Rank }, [4]int{-1, 65535, -1, -1}},
		{"mode", func(m *Message) *int { return &m.Mode }, [4]int{-1, 7, -1, -1}},
		{"preference", func(m *Message) *int { return &m.Preference }, [4]int{-1, 7, -1, -1}},
		{"dtsn", func(m *Message) *int { return &m.DTSN }, [4]int{-1, 255, -1, -1}},
		{"sequence", func(m *Message) *int { return &m.Sequence }, [4]int{-1, -1, 255, 255}},
		{"status", func(m *Message) *int { return &m.Status }, [4]int{-1, -1, -1, 255}},
	}
}

// noCodes are codes that there aren't, among them such that a narrower number
// would be one.
func noCodes() []int {
	return []int{-1, 4, 5, 99, 128, 255, 256, 257, 1 << 16, 1 << 32, 1<<32 + 1, -256, -255, math.MinInt, math.MinInt + 1, math.MaxInt}
}

// beyond are numbers that aren't from 0 to last.
func beyond(last int) []int {
	out := []int{-1, last + 1, -last - 1, math.MinInt, math.MaxInt, math.MinInt + 1}
	for shift := 3; shift < 63; shift++ {
		if n := 1 << shift; n > last {
			out = append(out, n, n+1, -n, n+last)
		}
	}
	return out
}

// copied is a message with options of its own.
func copied(m Message) Message {
	m.Options = option.Without(m.Options)
	return m
}

func bare(m Message) Message {
	m.Options = nil
	return m
}

// headByWords is the bytes ahead of the options, by the chapter's words.
func headByWords(m Message) []byte {
	flags := 0
	is := func(bit int, holds bool) {
		if holds {
			flags += bit
		}
	}
	root := m.Root != addr.Addr{}
	var out []byte
	switch m.Code {
	case DIS:
		return []byte{0, 0}
	case DIO:
		is(128, m.Grounded)
		flags += 8*m.Mode + m.Preference
		out = []byte{byte(m.Instance), byte(m.Version), byte(m.Rank / 256), byte(m.Rank % 256), byte(flags), byte(m.DTSN), 0, 0}
	case DAO:
		is(128, m.Ask)
		is(64, root)
		out = []byte{byte(m.Instance), byte(flags), 0, byte(m.Sequence)}
	case Ack:
		is(128, root)
		out = []byte{byte(m.Instance), byte(flags), byte(m.Sequence), byte(m.Status)}
	}
	if root {
		out = append(out, m.Root[:]...)
	}
	return out
}

func bytesByWords(m Message) []byte {
	behind, _ := option.Encode(m.Options...)
	return append(headByWords(m), behind...)
}

// decodedByWords is the chapter's words, told place by place from the front.
func decodedByWords(code int, b []byte) (Message, api.Errno) {
	m := Message{Code: code}
	size := []int{2, 8, 4, 4}[code]
	if code == DIO && len(b) > 4 && b[4]&64 != 0 {
		return Message{}, api.ErrForm
	}
	if code == DAO && (len(b) > 1 && b[1]&63 != 0 || len(b) > 2 && b[2] != 0) {
		return Message{}, api.ErrForm
	}
	if code == Ack && len(b) > 1 && b[1]&127 != 0 {
		return Message{}, api.ErrForm
	}
	if len(b) < size {
		return Message{}, api.ErrEnd
	}
	if code == DIS && (b[0] != 0 || b[1] != 0) || code == DIO && (b[6] != 0 || b[7] != 0) {
		return Message{}, api.ErrForm
	}
	root := false
	switch code {
	case DIO:
		m.Instance, m.Version, m.Rank, m.DTSN = int(b[0]), int(b[1]), int(b[2])*256+int(b[3]), int(b[5])
		m.Grounded, m.Mode, m.Preference = b[4] >= 128, int(b[4]%128/8), int(b[4]%8)
		root = true
	case DAO:
		m.Instance, m.Ask, m.Sequence = int(b[0]), b[1] >= 128, int(b[3])
		root = b[1]%128 >= 64
	case Ack:
		m.Instance, m.Sequence, m.Status = int(b[0]), int(b[2]), int(b[3])
		root = b[1] >= 128
	}
	b = b[size:]
	if root {
		if len(b) < 16 {
			return Message{}, api.ErrEnd
		}
		m.Root = addr.Addr(b[:16])
		b = b[16:]
		if m.Root == (addr.Addr{}) {
			return Message{}, api.ErrArg
		}
	}
	l, e := option.Decode(b)
	for _, o := range l {
		if !slices.Contains(mayBe(code), o.Kind) {
			e = api.ErrKind
		}
	}
	if m.Options = l; e != api.OK {
		return Message{}, e
	}
	return m, api.OK
}

// drawnOptions are options that a code may have, and, if loose, others too.
func drawnOptions(draw func(below int) int, code, most int, loose bool) []option.Option {
	var out []option.Option
	for range draw(most + 1) {
		kinds := mayBe(code)
		kind := kinds[draw(len(kinds))]
		if loose && draw(12) == 0 {
			kind = draw(10)
		}
		o := kindOptions()[kind]
		switch kind {
		case option.Pads:
			o.N[0] = []int{0, draw(4), draw(256)}[draw(3)]
		case option.Metric:
			o.Text = make([]byte, draw(65))
		case option.Target, option.Route, option.Solicited, option.Prefix:
			o.Addr[draw(16)] = byte(draw(256))
			o.N[0] = draw(129)
		default:
			if len(o.N) > 0 {
				o.N[0] = draw(256)
			}
		}
		out = append(out, o)
	}
	return out
}

// drawnMessage is a right message but for its options, if loose; its numbers are
// often at their ends.
func drawnMessage(draw func(below int) int, most int, loose bool) Message {
	m := Message{Code: draw(4)}
	for _, x := range members() {
		if last := x.last[m.Code]; last > 0 {
			*x.at(&m) = []int{0, last, draw(last + 1)}[draw(3)]
		}
	}
	m.Grounded = m.Code == DIO && draw(2) == 0
	m.Ask = m.Code == DAO && draw(2) == 0
	if m.Code == DIO || m.Code != DIS && draw(2) == 0 {
		m.Root[draw(16)] = byte(1 + draw(255))
	}
	m.Options = drawnOptions(draw, m.Code, most, loose)
	return m
}

func same(a, b Message) bool {
	for _, x := range members() {
		if *x.at(&a) != *x.at(&b) {
			return false
		}
	}
	return a.Code == b.Code && a.Grounded == b.Grounded && a.Ask == b.Ask && a.Root == b.Root &&
		slices.EqualFunc(a.Options, b.Options, func(x, y option.Option) bool {
			return x.Kind == y.Kind && x.Addr == y.Addr && slices.Equal(x.N, y.N) && bytes.Equal(x.Text, y.Text)
		})
}

func isNothing(m Message) bool { return same(m, Message{}) && m.Options == nil }

// wantCheck looks at Check, and at Encode, which tells Check's error.
func wantCheck(t *testing.T, m Message, want api.Errno) {
	t.Helper()
	if e := Check(m); e != want {
		t.Errorf("%+v: error %d; want %d", m, e, want)
	}
	b, e := Encode(m)
	if e != want || want != api.OK && b != nil {
		t.Errorf("Encode(%+v): %x, error %d; want error %d", m, b, e, want)
	}
	if want == api.OK && !bytes.Equal(b, bytesByWords(m)) {
		t.Errorf("Encode(%+v): %x; want %x", m, b, bytesByWords(m))
	}
}

func wantDecoded(t *testing.T, b []byte, want Message) {
	t.Helper()
	if m, e := Decode(want.Code, b); e != api.OK || !same(m, want) {
		t.Errorf("%x: %+v, error %d; want %+v", b, m, e, want)
	}
}

func wantRefused(t *testing.T, code int, b []byte, want api.Errno) {
	t.Helper()
	if m, e := Decode(code, b); e != want || !isNothing(m) {
		t.Errorf("code %d, %x: %+v, error %d; want error %d", code, b[:min(len(b), 60)], m, e, want)
	}
}

// P8.1: the constants and the words.
func TestCodesAndWords(t *testing.T) {
	for i, code := range []int{DIS, DIO, DAO, Ack} {
		if code != i || Word(code) != words()[i] {
			t.Errorf("%d: code %d, word %q", i, code, Word(code))
		}
	}
	for _, code := range noCodes() {
		if s := Word(code); s != "" {
			t.Errorf("%d: %q", code, s)
		}
	}
}

// P8.1: which options may be, of each code and kind, and of none that there isn't.
func TestMay(t *testing.T) {
	kinds := []int{-1, 10, 11, 255, 256, 257, 1 << 32, math.MinInt, math.MaxInt}
	for kind := range 10 {
		kinds = append(kinds, kind)
	}
	for _, kind := range kinds {
		for code := range 4 {
			if got := May(code, kind); got != slices.Contains(mayBe(code), kind) {
				t.Errorf("May(%d, %d) is %v", code, kind, got)
			}
		}
		for _, code := range noCodes() {
			if May(code, kind) {
				t.Errorf("May(%d, %d)", code, kind)
			}
		}
	}
}

// P8.1: what is right, with each number at both ends.
func TestCheckRight(t *testing.T) {
	for _, m := range samples() {
		wantCheck(t, m, api.OK)
		wantCheck(t, bare(m), api.OK)
		empty := m
		empty.Options = []option.Option{}
		wantCheck(t, empty, api.OK)
		for _, x := range members() {
			last := x.last[m.Code]
			for _, n := range []int{0, 1, last / 2, last - 1, last} {
				if n >= 0 && last >= 0 {
					with := m
					*x.at(&with) = n
					wantCheck(t, with, api.OK)
				}
			}
		}
	}
}

// P8.1: flags may be or not, and a dao and an ack may be without an address.
func TestCheckFlags(t *testing.T) {
	for _, is := range []bool{false, true} {
		m := samples()[DIO]
		m.Grounded = is
		wantCheck(t, m, api.OK)
		m = samples()[DAO]
		m.Ask = is
		wantCheck(t, m, api.OK)
		m.Root = addr.Addr{}
		wantCheck(t, m, api.OK)
	}
	m := samples()[Ack]
	m.Root = addr.Addr{}
	wantCheck(t, m, api.OK)
	wantCheck(t, Message{}, api.OK)
	wantCheck(t, Message{Code: DAO}, api.OK)
	wantCheck(t, Message{Code: Ack}, api.OK)
	for i := range 16 {
		for code := DIO; code <= Ack; code++ {
			m := Message{Code: code}
			m.Root[i] = 1
			wantCheck(t, m, api.OK)
		}
	}
}

// P8.1: no such code, whatever else is there.
func TestCheckCode(t *testing.T) {
	for _, code := range noCodes() {
		for _, m := range samples() {
			m.Code = code
			wantCheck(t, m, api.ErrKind)
			wantCheck(t, bare(m), api.ErrKind)
		}
		wantCheck(t, Message{Code: code, Rank: -1, Status: 256, Options: make([]option.Option, 17)}, api.ErrKind)
	}
}

// wrongElsewhere are a message, and it with what is told behind ErrForm.
func wrongElsewhere(m Message) []Message {
	out := []Message{m}
	for _, x := range members() {
		if x.last[m.Code] >= 0 {
			with := m
			*x.at(&with) = x.last[m.Code] + 1
			out = append(out, with)
		}
	}
	with := m
	with.Options = make([]option.Option, 17)
	out = append(out, with)
	with.Options = []option.Option{{Kind: 77}}
	return append(out, with)
}

// P8.1: something that the code doesn't have, ahead of a number that isn't right,
// and of options.
func TestCheckForm(t *testing.T) {
	for _, right := range samples() {
		for _, m := range wrongElsewhere(right) {
			for _, x := range members() {
				if x.last[m.Code] >= 0 {
					continue
				}
				for _, n := range []int{1, -1, 2, 255, 256, 1 << 32, math.MinInt, math.MaxInt} {
					with := m
					*x.at(&with) = n
					wantCheck(t, with, api.ErrForm)
				}
			}
			if m.Code != DIO {
				with := m
				with.Grounded = true
				wantCheck(t, with, api.ErrForm)
			}
			if m.Code != DAO {
				with := m
				with.Ask = true
				wantCheck(t, with, api.ErrForm)
			}
		}
	}
	for _, m := range wrongElsewhere(samples()[DIS]) {
		for i := range 16 {
			with := m
			with.Root[i] = 1
			wantCheck(t, with, api.ErrForm)
		}
	}
	wantCheck(t, Message{Code: DIO, Status: 1}, api.ErrForm) // and its address is missing
}

// P8.1: each number, one by one, when it isn't as it must be, ahead of options that
// aren't right.
func TestCheckNumbers(t *testing.T) {
	for _, m := range samples() {
		for _, x := range members() {
			last := x.last[m.Code]
			if last < 0 {
				continue
			}
			for _, n := range beyond(last) {
				with := m
				*x.at(&with) = n
				wantCheck(t, with, api.ErrArg)
				with.Options = []option.Option{{Kind: 77}}
				wantCheck(t, with, api.ErrArg)
				with.Options = make([]option.Option, 17)
				wantCheck(t, with, api.ErrArg)
			}
		}
	}
}

// P8.1: a dio's address isn't all 0.
func TestCheckRoot(t *testing.T) {
	for _, l := range [][]option.Option{nil, allOptions(DIO), allOptions(DAO), {{Kind: 77}}, make([]option.Option, 17)} {
		wantCheck(t, Message{Code: DIO, Options: l}, api.ErrArg)
	}
}

// P8.1: an option that may not be, ahead of all that is wrong with the options.
func TestCheckOptionKinds(t *testing.T) {
	for _, m := range samples() {
		for kind, o := range kindOptions() {
			want := api.OK
			if !slices.Contains(mayBe(m.Code), kind) {
				want = api.ErrKind
			}
			for at := range len(m.Options) + 1 {
				with := m
				with.Options = slices.Insert(allOptions(m.Code), at, o)
				wantCheck(t, with, want)
			}
			if want == api.OK {
				continue
			}
			for _, ahead := range [][]option.Option{make([]option.Option, 16), {{Kind: option.Pads}}, {{Kind: option.Pads, N: []int{256}}}, wide(5)} {
				with := m
				with.Options = append(slices.Clone(ahead), o)
				wantCheck(t, with, api.ErrKind)
				with.Options = append([]option.Option{o}, ahead...)
				wantCheck(t, with, api.ErrKind)
			}
		}
		for _, kind := range []int{-1, 10, 256, 257, 1 << 32, math.MinInt, math.MaxInt} {
			with := m
			with.Options = append(allOptions(m.Code), option.Option{Kind: kind})
			wantCheck(t, with, api.ErrKind)
		}
	}
}

// wide are n pads of 257 bytes each.
func wide(n int) []option.Option {
	var out []option.Option
	for range n {
		out = append(out, option.Option{Kind: option.Pads, N: []int{255}})
	}
	return out
}

// P8.1: what Encode of the options tells: too many, the first error, too many bytes.
func TestCheckOptions(t *testing.T) {
	pads := func(n int) option.Option { return option.Option{Kind: option.Pads, N: []int{n}} }
	wrong := option.Option{Kind: option.Pads}
	for _, m := range samples() {
		for _, y := range []struct {
			l    []option.Option
			want api.Errno
		}{
			{make([]option.Option, 16), api.OK},
			{make([]option.Option, 17), api.ErrLong},
			{make([]option.Option, 1000), api.ErrLong},
			{append(make([]option.Option, 16), wrong), api.ErrLong},
			{[]option.Option{wrong}, api.ErrForm},
			{[]option.Option{pads(256)}, api.ErrArg},
			{[]option.Option{wrong, pads(256)}, api.ErrForm},
			{[]option.Option{pads(256), wrong}, api.ErrArg},
			{append(wide(5), wrong), api.ErrForm},
			{append(wide(5), pads(-1)), api.ErrArg},
			{wide(5), api.ErrLong},
		} {
			m.Options = y.l
			wantCheck(t, m, y.want)
		}
	}
	for _, y := range []struct {
		code int
		o    option.Option
		want api.Errno
	}{
		{DIO, option.Option{Kind: option.Metric, Text: make([]byte, 65)}, api.ErrLong},
		{DIO, option.Option{Kind: option.Route, N: []int{129, 0, 0}}, api.ErrArg},
		{DAO, option.Option{Kind: option.Target, N: []int{0, 129}}, api.ErrArg},
		{DAO, option.Option{Kind: option.Transit, N: []int{0}}, api.ErrForm},
		{DIS, option.Option{Kind: option.Solicited, N: []int{0, 0, 0}, Text: []byte{1}}, api.ErrForm},
	} {
		m := samples()[y.code]
		m.Options = append(m.Options, y.o)
		wantCheck(t, m, y.want)
	}
}

// P8.2: 1280 bytes in all may be, 1281 may not, though the options' own bytes
// would do.
func TestEncodeTooLong(t *testing.T) {
	for _, m := range samples() {
		ahead := len(headByWords(m))
		last := api.MaxBytes - ahead - 4*257 - 2
		for n := last - 1; n <= last+ahead; n++ {
			m.Options = append(wide(4), option.Option{Kind: option.Pads, N: []int{n}})
			b, e := Encode(m)
			switch {
			case Check(m) != api.OK:
				t.Errorf("code %d, %d: error %d", m.Code, n, Check(m))
			case n <= last && (e != api.OK || !bytes.Equal(b, bytesByWords(m))):
				t.Errorf("code %d, %d: %d bytes, error %d", m.Code, n, len(b), e)
			case n > last && (e != api.ErrLong || b != nil):
				t.Errorf("code %d, %d: %d bytes, error %d", m.Code, n, len(b), e)
			}
			if n == last && len(b) != api.MaxBytes {
				t.Errorf("code %d: %d bytes", m.Code, len(b))
			}
			if n <= last {
				wantDecoded(t, b, m)
			}
		}
	}
}

// P8.2: bytes written out, example 1 among them.
func TestBytesByHand(t *testing.T) {
	a := here()
	with := func(ahead []byte, behind ...byte) []byte {
		return append(append(ahead, a[:]...), behind...)
	}
	for _, y := range []struct {
		m    Message
		want []byte
	}{
		{Message{}, []byte{0, 0}},
		{Message{Options: []option.Option{{Kind: option.Pads, N: []int{1}}, {}}}, []byte{0, 0, 1, 1, 0, 0}},
		{Message{Code: DIO, Root: a}, with([]byte{0, 0, 0, 0, 0, 0, 0, 0})},
		{bare(samples()[DIO]), with([]byte{3, 240, 2, 1, 128 + 16 + 5, 7, 0, 0})},
		{Message{Code: DIO, Instance: 255, Version: 254, Rank: 65535, Mode: 7, DTSN: 253, Root: a}, with([]byte{255, 254, 255, 255, 56, 253, 0, 0})},
		{Message{Code: DIO, Preference: 7, Root: a, Options: []option.Option{{Kind: option.Metric, Text: []byte{9}}}}, with([]byte{0, 0, 0, 0, 7, 0, 0, 0}, 2, 1, 9)},
		{Message{Code: DIO, Grounded: true, Root: a}, with([]byte{0, 0, 0, 0, 128, 0, 0, 0})},
		{Message{Code: DAO, Instance: 1, Ask: true, Sequence: 9}, []byte{1, 128, 0, 9}},
		{Message{Code: DAO}, []byte{0, 0, 0, 0}},
		{Message{Code: DAO, Sequence: 255, Root: a}, with([]byte{0, 64, 0, 255})},
		{Message{Code: DAO, Instance: 2, Ask: true, Root: a, Options: []option.Option{{Kind: option.Transit, N: []int{0, 0, 5, 255}}}}, with([]byte{2, 192, 0, 0}, 6, 4, 0, 0, 5, 255)},
		{Message{Code: Ack, Instance: 4, Sequence: 5, Status: 6}, []byte{4, 0, 5, 6}},
		{Message{Code: Ack, Instance: 7, Sequence: 8, Status: 255, Root: a}, with([]byte{7, 128, 8, 255})},
		{Message{Code: Ack, Options: []option.Option{{}}}, []byte{0, 0, 0, 0, 0}},
	} {
		if b, e := Encode(y.m); e != api.OK || !bytes.Equal(b, y.want) {
			t.Errorf("%+v: %x, error %d; want %x", y.m, b, e, y.want)
		}
		wantDecoded(t, y.want, y.m)
	}
}

// P8.2: no such code, whatever the bytes are.
func TestDecodeCode(t *testing.T) {
	for _, code := range noCodes() {
		for _, b := range [][]byte{nil, {}, {0}, {0, 0}, {9, 9, 9}, make([]byte, 5000)} {
			wantRefused(t, code, b, api.ErrKind)
		}
		for _, m := range samples() {
			wantRefused(t, code, bytesByWords(m), api.ErrKind)
		}
	}
}

// P8.2: bytes that are missing, at each place ahead of the options and in them.
func TestDecodeEnd(t *testing.T) {
	for _, m := range samples() {
		whole := headByWords(m)
		for n := range whole {
			wantRefused(t, m.Code, whole[:n], api.ErrEnd)
		}
		wantDecoded(t, whole, bare(m))
		for n := 1; n < 7; n++ {
			wantRefused(t, m.Code, append(slices.Clone(whole), []byte{1, 5, 0, 0, 0, 0}[:n]...), api.ErrEnd)
		}
	}
	for code := range 4 {
		wantRefused(t, code, nil, api.ErrEnd)
		wantRefused(t, code, []byte{}, api.ErrEnd)
	}
}

// ahead is the bytes of a code, ahead of its address or of its options.
type ahead struct {
	code int
	b    []byte
}

func aheadOfRoot() []ahead {
	return []ahead{{DIO, make([]byte, 8)}, {DAO, []byte{1, 64, 0, 2}}, {Ack, []byte{1, 128, 2, 3}}}
}

// P8.2: what is missing is told of all that belongs together, ahead of what is
// wrong with the part that is there.
func TestDecodeEndTogether(t *testing.T) {
	wantRefused(t, DIS, []byte{1}, api.ErrEnd)
	wantRefused(t, DIO, []byte{0, 0, 0, 0, 0, 0, 1}, api.ErrEnd)
	for _, y := range aheadOfRoot() {
		for n := range 16 {
			wantRefused(t, y.code, append(slices.Clone(y.b), make([]byte, n)...), api.ErrEnd)
		}
	}
}

// P8.2: what is 0 isn't, with each byte of it.
func TestDecodeZeros(t *testing.T) {
	for _, y := range []struct{ code, at, end int }{{DIS, 0, 2}, {DIS, 1, 2}, {DIO, 6, 8}, {DIO, 7, 8}, {DAO, 2, 3}} {
		for x := 1; x < 256; x++ {
			b := bytesByWords(samples()[y.code])
			b[y.at] = byte(x)
			wantRefused(t, y.code, b, api.ErrForm)
			wantRefused(t, y.code, b[:y.end], api.ErrForm) // ahead of what is missing behind it
		}
	}
	for code := range 3 {
		b := bytesByWords(samples()[code])
		for i := range b[:[]int{2, 8, 4}[code]] {
			b[i] = 255
		}
		wantRefused(t, code, b, api.ErrForm)
	}
}

// P8.2: each byte of flags of each code.
func TestDecodeFlags(t *testing.T) {
	for _, y := range []struct{ code, at, known int }{{DIO, 4, 128 + 63}, {DAO, 1, 128 + 64}, {Ack, 1, 128}} {
		for flags := range 256 {
			b := bytesByWords(samples()[y.code])
			b[y.at] = byte(flags)
			if flags&^y.known != 0 {
				wantRefused(t, y.code, b, api.ErrForm)
				wantRefused(t, y.code, b[:y.at+1], api.ErrForm)
				continue
			}
			wantRefused(t, y.code, b[:y.at+1], api.ErrEnd)
			want, e := decodedByWords(y.code, b)
			m, f := Decode(y.code, b)
			if e != f || !same(m, want) {
				t.Errorf("code %d, flags %d: %+v, error %d; want %+v, error %d", y.code, flags, m, f, want, e)
			}
		}
	}
	for flags := range 256 {
		m, e := Decode(DIO, append([]byte{0, 0, 0, 0, byte(flags), 0, 0}, make([]byte, 17)...))
		want := api.ErrArg
		if flags&64 != 0 {
			want = api.ErrForm
		}
		if e != want || !isNothing(m) {
			t.Errorf("flags %d: %+v, error %d", flags, m, e)
		}
	}
}

// P8.2: an address that is there, and is all 0, ahead of what is behind it.
func TestDecodeRoot(t *testing.T) {
	for _, y := range aheadOfRoot() {
		for _, behind := range [][]byte{nil, {0}, {77}, {1}, {1, 1, 9}, {9, 4, 0, 0, 0, 0}, make([]byte, 17)} {
			wantRefused(t, y.code, slices.Concat(y.b, make([]byte, 16), behind), api.ErrArg)
		}
		for i := range 16 {
			root := make([]byte, 16)
			root[i] = 1
			m, e := Decode(y.code, append(slices.Clone(y.b), root...))
			if e != api.OK || m.Root != addr.Addr(root) || len(m.Options) != 0 {
				t.Errorf("code %d, %d: %+v, error %d", y.code, i, m, e)
			}
		}
	}
}

// P8.2: without the flag no address is read, so that bytes behind are options.
func TestDecodeNoRoot(t *testing.T) {
	a := here()
	for _, code := range []int{DAO, Ack} {
		b := []byte{1, 0, 0, 2}
		wantRefused(t, code, append(slices.Clone(b), a[:]...), api.ErrKind)
		m, e := Decode(code, append(slices.Clone(b), make([]byte, 16)...))
		if e != api.OK || m.Root != (addr.Addr{}) || len(m.Options) != 16 {
			t.Errorf("code %d: %+v, error %d", code, m, e)
		}
		wantRefused(t, code, append(slices.Clone(b), make([]byte, 17)...), api.ErrLong)
	}
}

// P8.2: the first mistake from the front is the one that is told.
func TestDecodeFirstMistake(t *testing.T) {
	for _, y := range []struct {
		code int
		b    []byte
		want api.Errno
	}{
		{DIO, []byte{0, 0, 0, 0, 64}, api.ErrForm},
		{DIO, []byte{0, 0, 0, 0, 0, 0, 0, 1}, api.ErrForm},
		{DIO, append([]byte{0, 0, 0, 0, 0, 0, 0, 1}, make([]byte, 16)...), api.ErrForm},
		{DAO, []byte{0, 1}, api.ErrForm},
		{DAO, []byte{0, 0, 1}, api.ErrForm},
		{DAO, []byte{0, 64, 1, 0, 5}, api.ErrForm},
		{DAO, append([]byte{0, 64 + 32, 0, 0}, make([]byte, 16)...), api.ErrForm},
		{Ack, []byte{0, 64}, api.ErrForm},
		{Ack, append([]byte{0, 128 + 1, 0, 0}, make([]byte, 16)...), api.ErrForm},
		{DIS, []byte{0, 1, 77}, api.ErrForm},
		{DIS, []byte{1, 0, 1}, api.ErrForm},
	} {
		wantRefused(t, y.code, y.b, y.want)
	}
}

// P8.2: the options' own error, ahead of one that may not be.
func TestDecodeOptions(t *testing.T) {
	for code, m := range samples() {
		ahead := headByWords(m)
		for _, y := range []struct {
			behind []byte
			want   api.Errno
		}{
			{[]byte{10}, api.ErrKind},
			{[]byte{0, 255, 0}, api.ErrKind},
			{[]byte{1}, api.ErrEnd},
			{[]byte{1, 1, 9}, api.ErrForm},
			{[]byte{6, 3, 0, 0, 0}, api.ErrForm},
			{append([]byte{5, 18, 0, 129}, make([]byte, 16)...), api.ErrArg},
			{append([]byte{2, 65}, make([]byte, 65)...), api.ErrLong},
			{make([]byte, 17), api.ErrLong},
		} {
			wantRefused(t, code, slices.Concat(ahead, y.behind), y.want)
			for _, o := range kindOptions() {
				first, _ := option.Encode(o)
				wantRefused(t, code, slices.Concat(ahead, first, y.behind), y.want)
			}
		}
	}
}

// P8.2: an option that may not be, alone and between those that may.
func TestDecodeOptionKinds(t *testing.T) {
	for code, m := range samples() {
		for kind, o := range kindOptions() {
			for at := range len(m.Options) + 1 {
				for _, l := range [][]option.Option{{o}, slices.Insert(allOptions(code), at, o)} {
					with := m
					with.Options = l
					if slices.Contains(mayBe(code), kind) {
						wantDecoded(t, bytesByWords(with), with)
					} else {
						wantRefused(t, code, bytesByWords(with), api.ErrKind)
					}
				}
			}
		}
	}
}

// P8.2: Decode names no bound on the bytes in all: sixteen pads of 255 may be read,
// though Encode has no room for them.
func TestDecodeManyBytes(t *testing.T) {
	behind := bytes.Repeat(append([]byte{1, 255}, make([]byte, 255)...), 16)
	for _, m := range samples() {
		m.Options = wide(16)
		wantDecoded(t, append(headByWords(m), behind...), m)
		wantCheck(t, m, api.ErrLong)
	}
}

// P8.2, P8.3: what is encoded is as the words say, and is decoded as it was.
func TestEncodeDecode(t *testing.T) {
	draw := drawer(1)
	told := map[api.Errno]int{}
	for range 8000 {
		m := drawnMessage(draw, 16, false)
		if draw(8) == 0 {
			m.Options = append(wide(4), m.Options...)
		}
		b, e := Encode(m)
		told[e]++
		behind, f := option.Encode(m.Options...)
		if f == api.ErrLong || len(headByWords(m))+len(behind) > api.MaxBytes {
			if e != api.ErrLong || b != nil || Check(m) != f {
				t.Fatalf("%+v: %d bytes, error %d, checked %d", m, len(b), e, Check(m))
			}
			continue
		}
		if want := bytesByWords(m); e != api.OK || Check(m) != api.OK || !bytes.Equal(b, want) {
			t.Fatalf("%+v: %x, error %d; want %x", m, b, e, want)
		}
		if got, e := Decode(m.Code, b); e != api.OK || !same(got, m) || !Same(got, m) {
			t.Fatalf("%+v: %+v, error %d", m, got, e)
		}
	}
	if told[api.OK] == 0 || told[api.ErrLong] == 0 {
		t.Errorf("told: %v", told)
	}
}

// P8.2, P8.3: any bytes are refused as the words say, or what is decoded is encoded
// as it was, so that no other bytes are decoded.
func TestDecodeAnyBytes(t *testing.T) {
	draw := drawer(2)
	told := map[api.Errno]int{}
	for range 60000 {
		drawn := drawnMessage(draw, []int{0, 2, 5, 17}[draw(4)], true)
		b := bytesByWords(drawn)
		for range draw(3) {
			if len(b) > 0 {
				b[draw(min(len(b), []int{8, 2000}[draw(2)]))] = byte(draw([]int{2, 12, 256}[draw(3)]))
			}
		}
		if draw(4) == 0 {
			b = b[:draw(len(b)+1)]
		}
		if at := len(headByWords(drawn)) - 16; draw(20) == 0 && at > 0 && len(b) >= at+16 {
			clear(b[at : at+16])
		}
		code := drawn.Code
		if draw(10) == 0 {
			code = draw(4)
		}
		want, wantErr := decodedByWords(code, b)
		m, e := Decode(code, b)
		told[e]++
		if e != wantErr || !same(m, want) {
			t.Fatalf("code %d, %x: %+v, error %d; want %+v, error %d", code, b, m, e, want, wantErr)
		}
		if e != api.OK || len(b) > api.MaxBytes {
			continue
		}
		if back, e := Encode(m); e != api.OK || !bytes.Equal(back, b) {
			t.Fatalf("code %d, %x: back %x, error %d", code, b, back, e)
		}
	}
	for _, e := range []api.Errno{api.OK, api.ErrArg, api.ErrLong, api.ErrForm, api.ErrEnd, api.ErrKind} {
		if told[e] == 0 {
			t.Errorf("error %d was never told", e)
		}
	}
}

// differing are messages with one thing other than in m.
func differing(m Message) []Message {
	var out []Message
	with := func(change func(m *Message)) {
		x := copied(m)
		change(&x)
		out = append(out, x)
	}
	for _, x := range members() {
		for _, by := range []int{1, -1, 256, 1 << 16, 1 << 32, math.MinInt} {
			with(func(m *Message) { *x.at(m) += by })
		}
	}
	for _, code := range []int{1, -1, 4, 256, 1 << 32} {
		with(func(m *Message) { m.Code += code })
	}
	with(func(m *Message) { m.Grounded = !m.Grounded })
	with(func(m *Message) { m.Ask = !m.Ask })
	for i := range 16 {
		with(func(m *Message) { m.Root[i]++ })
	}
	with(func(m *Message) { m.Options = append(m.Options, option.Option{}) })
	with(func(m *Message) { m.Options = m.Options[1:] })
	with(func(m *Message) { m.Options = m.Options[:len(m.Options)-1] })
	with(func(m *Message) { slices.Reverse(m.Options) })
	for i := range m.Options {
		with(func(m *Message) { m.Options[i].Kind += 10 })
		with(func(m *Message) { m.Options[i].Addr[15]++ })
		with(func(m *Message) { m.Options[i].N = append(m.Options[i].N, 0) })
		with(func(m *Message) { m.Options[i].Text = append(m.Options[i].Text, 0) })
	}
	return out
}

// P8.3: Same, where nothing, or one thing alone, differs; of messages that aren't
// right, too.
func TestSame(t *testing.T) {
	for _, m := range append(samples(), Message{Code: 9, Rank: -1, Ask: true, Status: 1 << 40, Options: allOptions(DIO)}) {
		if !Same(m, copied(m)) || !Same(bare(m), bare(m)) {
			t.Errorf("%+v isn't the same", m)
		}
		for _, x := range differing(m) {
			if Same(m, x) || Same(x, m) {
				t.Errorf("%+v is the same as %+v", m, x)
			}
		}
		empty := m
		empty.Options = []option.Option{}
		if !Same(empty, bare(m)) || !Same(bare(m), empty) || Same(m, empty) {
			t.Error("empty isn't nil")
		}
	}
	for i, m := range samples() {
		for j, x := range samples() {
			if Same(m, x) != (i == j) {
				t.Errorf("%d, %d: %v", i, j, Same(m, x))
			}
		}
	}
	rooted, not := Message{Code: Ack, Root: here()}, Message{Code: Ack}
	if Same(rooted, not) || Same(not, rooted) {
		t.Error("an address is none")
	}
}

func sameOptions(a, b []option.Option) bool {
	return same(Message{Options: a}, Message{Options: b})
}

// P8.3: a message's targets, in order.
func TestTargets(t *testing.T) {
	target := func(n int) option.Option {
		return option.Option{Kind: option.Target, N: []int{n, 128}, Addr: here()}
	}
	others := slices.Delete(kindOptions(), option.Target, option.Target+1)
	for _, y := range []struct{ l, want []option.Option }{
		{nil, nil},
		{[]option.Option{}, nil},
		{others, nil},
		{[]option.Option{target(1)}, []option.Option{target(1)}},
		{allOptions(DAO), []option.Option{kindOptions()[option.Target]}},
		{[]option.Option{target(3), target(1), target(2), target(1)}, []option.Option{target(3), target(1), target(2), target(1)}},
		{slices.Concat([]option.Option{target(2)}, others, []option.Option{target(1)}, others), []option.Option{target(2), target(1)}},
	} {
		if got := Targets(Message{Code: DAO, Options: y.l}); !sameOptions(got, y.want) {
			t.Errorf("%v: %v; want %v", y.l, got, y.want)
		}
	}
	draw := drawer(3)
	for range 500 {
		m := drawnMessage(draw, 20, true)
		var want []option.Option
		for _, o := range m.Options {
			if o.Kind == 5 {
				want = append(want, o)
			}
		}
		if got := Targets(m); !sameOptions(got, want) {
			t.Errorf("%+v: %v; want %v", m, got, want)
		}
	}
}

// P8.3: targets are told as they are, of messages that aren't right too.
func TestTargetsThatArentRight(t *testing.T) {
	l := []option.Option{{Kind: option.Target}, {Kind: 77}, {Kind: option.Target, N: []int{-1}, Text: []byte{1}}, {Kind: option.Target + 256}}
	for code := -1; code < 6; code++ {
		if got := Targets(Message{Code: code, Rank: -1, Options: l}); !sameOptions(got, []option.Option{l[0], l[2]}) {
			t.Errorf("%d: %v", code, got)
		}
	}
}

// spoil overwrites all memory of options.
func spoil(l []option.Option) {
	for _, o := range l[:cap(l)] {
		for i := range o.N[:cap(o.N)] {
			o.N[:cap(o.N)][i] = -99
		}
		spoilBytes(o.Text)
	}
	clear(l[:cap(l)])
}

func spoilBytes(b []byte) {
	for i := range b[:cap(b)] {
		b[:cap(b)][i] = 200
	}
}

// P8.3: bytes that are handed in stay, and aren't kept; answers are new memory.
func TestNewMemory(t *testing.T) {
	for code, want := range samples() {
		room := append(bytesByWords(want), "and more"...)
		was := slices.Clone(room)
		b := room[:len(room)-8]
		m, _ := Decode(code, b)
		twin, _ := Decode(code, b)
		spoil(twin.Options)
		if !bytes.Equal(room, was) || !same(m, want) {
			t.Errorf("code %d: a twin is shared", code)
		}
		spoilBytes(room)
		if !same(m, want) {
			t.Errorf("code %d: bytes are kept", code)
		}
		first, _ := Encode(m)
		second, _ := Encode(m)
		spoilBytes(second)
		if !same(m, want) || !bytes.Equal(first, bytesByWords(want)) {
			t.Errorf("code %d: an answer is shared", code)
		}
		spoil(m.Options)
		if !bytes.Equal(first, bytesByWords(want)) {
			t.Errorf("code %d: options are kept", code)
		}
	}
}

// P8.3: targets share nothing with the message, nor with one another.
func TestTargetsNewMemory(t *testing.T) {
	l := func() []option.Option {
		return []option.Option{
			{Kind: option.Target, N: []int{1, 2}, Text: []byte{7}}, {Kind: option.Pad}, {Kind: option.Target, N: []int{3, 4}},
		}
	}
	m := Message{Code: DAO, Options: l()}
	spoil(Targets(m))
	if !sameOptions(m.Options, l()) {
		t.Errorf("%+v", m)
	}
	got := Targets(m)
	spoil(m.Options)
	if !sameOptions(got, []option.Option{l()[0], l()[2]}) {
		t.Errorf("%v", got)
	}
	spoil(got[:1:1])
	if !sameOptions(got[1:], l()[2:]) {
		t.Errorf("%v", got)
	}
}

// P8.3: a look at a message changes nothing of it, nor what lies behind its lists.
func TestArgumentsStay(t *testing.T) {
	numbers := []int{0, 128, 7, 8}
	l := []option.Option{{Kind: option.Target, N: numbers[:2]}, {Kind: option.Pad}, {Kind: 77}}
	m := Message{Code: DAO, Instance: 1, Root: here(), Options: l[:2]}
	was := copied(m)
	Check(m)
	Encode(m)
	Same(m, m)
	Targets(m)
	if !same(m, was) || !slices.Equal(numbers, []int{0, 128, 7, 8}) || l[2].Kind != 77 {
		t.Errorf("%+v, %v, %v", m, numbers, l)
	}
}

// P1, P2: the same calls have the same answers, and none panics, whatever the
// numbers are.
func TestSameAgain(t *testing.T) {
	draw := drawer(4)
	for range 3000 {
		m := drawnMessage(draw, 18, true)
		for _, x := range members() {
			if draw(6) == 0 {
				*x.at(&m) = beyond(7)[draw(len(beyond(7)))]
			}
		}
		m.Code += []int{0, 0, 0, 1, -1, math.MinInt}[draw(6)]
		a, x := Encode(m)
		b, y := Encode(m)
		if x != y || !bytes.Equal(a, b) || Check(m) != Check(m) || !Same(m, m) {
			t.Errorf("Encode: %x, error %d; then %x, error %d", a, x, b, y)
		}
		bent := make([]byte, draw(40))
		for i := range bent {
			bent[i] = byte(draw(11))
		}
		p, x := Decode(m.Code, bent)
		q, y := Decode(m.Code, bent)
		if x != y || !same(p, q) {
			t.Errorf("Decode: %+v, error %d; then %+v, error %d", p, x, q, y)
		}
	}
}
