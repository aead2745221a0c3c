package datagram

import (
	"bytes"
	"math"
	"reflect"
	"slices"
	"testing"

	"rivulet/addr"
	"rivulet/api"
	"rivulet/control"
	"rivulet/header"
	"rivulet/hopopt"
	"rivulet/option"
)

// drawer answers numbers that hang on seed alone.
func drawer(seed int) func(below int) int {
	state := uint64(seed)*2654435761 + 1
	return func(below int) int {
		state = state*6364136223846793005 + 1442695040888963407
		return int(state>>33) % below
	}
}

func drawnBytes(draw func(below int) int, n int) []byte {
	out := make([]byte, n)
	for i := range out {
		out[i] = byte(draw(256))
	}
	return out
}

func link(n int) addr.Addr {
	a, e := addr.Link(n)
	if e != api.OK {
		panic("no such node")
	}
	return a
}

// here is an address with each byte different from the others.
func here() addr.Addr {
	var a addr.Addr
	for i := range a {
		a[i] = byte(0xa0 + i)
	}
	return a
}

// around is a header with each field different from the others.
func around() header.Header {
	return header.Header{Class: 0xab, Flow: 0x12345, Hops: 63, From: link(5), To: here()}
}

// messages are right messages, at least one of each code.
func messages() []control.Message {
	target := option.Option{Kind: option.Target, N: []int{0, 128}, Addr: link(9)}
	transit := option.Option{Kind: option.Transit, N: []int{0, 0, 5, 255}}
	config := option.Option{Kind: option.Config, N: []int{1, 8, 3, 10, 1792, 256, 2, 0, 254, 65534}}
	metric := option.Option{Kind: option.Metric, Text: []byte{1, 2, 3}}
	return []control.Message{
		{},
		{Options: []option.Option{{}}},
		{Code: control.DIO, Instance: 3, Version: 240, Rank: 0x0201, Mode: 2, Preference: 5, DTSN: 7, Grounded: true, Root: here(), Options: []option.Option{config, metric}},
		{Code: control.DAO, Instance: 11, Ask: true, Sequence: 12, Root: here(), Options: []option.Option{target, target, transit}},
		{Code: control.DAO, Instance: 1, Sequence: 9},
		{Code: control.Ack, Instance: 13, Sequence: 14, Status: 15},
		{Code: control.Ack, Instance: 255, Sequence: 255, Status: 255, Root: here(), Options: []option.Option{{Kind: option.Pads, N: []int{3}}}},
	}
}

// someOption is one with each field different from the others.
func someOption() hopopt.Option {
	return hopopt.Option{Down: true, Failed: true, Instance: 7, Rank: 0x1234}
}

func someData() Packet {
	return Packet{Header: around(), Data: true, Option: someOption(), Number: 0x01020304, Text: []byte("hello")}
}

// samples are right packets of both kinds.
func samples() []Packet {
	out := []Packet{
		someData(),
		{Data: true},
		{Header: around(), Data: true, Number: 1<<32 - 1, Text: []byte{0}},
	}
	for _, m := range messages() {
		out = append(out, Packet{Header: around(), Message: m})
	}
	return out
}

// number is the bytes of a number of a size.
func number(n, size int) []byte {
	out := make([]byte, size)
	for i := range out {
		out[size-1-i] = byte(n >> (8 * i))
	}
	return out
}

// headerByWords is chapter 5's words: the bytes of a header with a next header and
// a length.
func headerByWords(h header.Header, next, length int) []byte {
	return slices.Concat(
		number(6*1<<28+h.Class*1<<20+h.Flow, 4), number(length, 2), number(next, 1), number(h.Hops, 1), h.From[:], h.To[:],
	)
}

// sumByWords is chapter 4's words: the sum of the pseudo-header and what is behind
// a header.
func sumByWords(h header.Header, behind []byte) int {
	b := slices.Concat(h.From[:], h.To[:], number(len(behind), 4), []byte{0, 0, 0, 58}, behind)
	if len(b)%2 == 1 {
		b = append(b, 0)
	}
	all := 0
	for i := 0; i < len(b); i += 2 {
		all += 256*int(b[i]) + int(b[i+1])
	}
	for all >= 65536 {
		all = all/65536 + all%65536
	}
	return all
}

// summed is the bytes of a control datagram: those behind the header with their
// checksum in its place.
func summed(h header.Header, behind []byte) []byte {
	behind = slices.Clone(behind)
	if len(behind) >= 4 {
		behind[2], behind[3] = 0, 0
		copy(behind[2:], number(65535-sumByWords(h, behind), 2))
	}
	return append(headerByWords(h, 58, len(behind)), behind...)
}

// optionByWords is chapter 6's words: the eight bytes of an option.
func optionByWords(next int, o hopopt.Option) []byte {
	flags := 0
	for i, is := range []bool{o.Down, o.Wrong, o.Failed} {
		if is {
			flags += []int{128, 64, 32}[i]
		}
	}
	return slices.Concat([]byte{byte(next), 0, 0x63, 4, byte(flags), byte(o.Instance)}, number(o.Rank, 2))
}

// bytesByWords is this chapter's words, of a packet that is right.
func bytesByWords(p Packet) []byte {
	if p.Data {
		behind := slices.Concat(optionByWords(17, p.Option), number(p.Number, 4), p.Text)
		return append(headerByWords(p.Header, 0, len(behind)), behind...)
	}
	m, _ := control.Encode(p.Message)
	return summed(p.Header, append([]byte{155, byte(p.Message.Code), 0, 0}, m...))
}

// decodedByWords is P9.2, one sentence after the other.
func decodedByWords(b []byte) (Packet, api.Errno) {
	h, behind, e := header.Decode(b)
	if e != api.OK {
		return Packet{}, e
	}
	p := Packet{Header: h}
	switch h.Next {
	case 58:
		if len(behind) < 4 {
			return Packet{}, api.ErrEnd
		}
		if sumByWords(h, behind) != 65535 {
			return Packet{}, api.ErrSum
		}
		if behind[0] != 155 {
			return Packet{}, api.ErrKind
		}
		if p.Message, e = control.Decode(int(behind[1]), behind[4:]); e != api.OK {
			return Packet{}, e
		}
	case 0:
		p.Data = true
		next, o, rest, e := hopopt.Decode(behind)
		if e != api.OK {
			return Packet{}, e
		}
		if next != 17 {
			return Packet{}, api.ErrKind
		}
		if len(rest) < 4 {
			return Packet{}, api.ErrEnd
		}
		p.Option, p.Text = o, rest[4:]
		for _, x := range rest[:4] {
			p.Number = p.Number*256 + int(x)
		}
	default:
		return Packet{}, api.ErrKind
	}
	return p, api.OK
}

// alike tells whether all of two packets is the same; a nil or empty list is the
// same list.
func alike(a, b Packet) bool {
	if !bytes.Equal(a.Text, b.Text) || !control.Same(a.Message, b.Message) {
		return false
	}
	a.Text, a.Message, b.Text, b.Message = nil, control.Message{}, nil, control.Message{}
	return reflect.DeepEqual(a, b)
}

// told is a packet as Decode tells it.
func told(p Packet) Packet {
	b := bytesByWords(p)
	p.Header.Length, p.Header.Next = len(b)-40, 58
	if p.Data {
		p.Header.Next = 0
	}
	return p
}

// wantRight looks at Check, Encode and Decode of a packet that is right.
func wantRight(t *testing.T, p Packet) {
	t.Helper()
	b, e := Encode(p)
	if want := bytesByWords(p); e != api.OK || !bytes.Equal(b, want) {
		t.Errorf("Encode(%+v): %x, error %d; want %x", p, b, e, want)
	}
	if e := Check(p); e != api.OK {
		t.Errorf("Check(%+v): error %d", p, e)
	}
	q, e := Decode(b)
	if e != api.OK || !alike(q, told(p)) || !Same(p, q) || !Same(q, p) {
		t.Errorf("Decode of %+v: %+v, error %d", p, q, e)
	}
}

// wantWrong looks at Check and Encode of a packet that isn't right.
func wantWrong(t *testing.T, p Packet, want api.Errno) {
	t.Helper()
	if b, e := Encode(p); e != want || b != nil {
		t.Errorf("Encode(%+v): %d bytes, error %d; want error %d", p, len(b), e, want)
	}
	if e := Check(p); e != want {
		t.Errorf("Check(%+v): error %d; want error %d", p, e, want)
	}
}

func wantRefused(t *testing.T, b []byte, want api.Errno) {
	t.Helper()
	if p, e := Decode(b); e != want || !reflect.DeepEqual(p, Packet{}) {
		t.Errorf("%x: %+v, error %d; want error %d", b[:min(len(b), 80)], p, e, want)
	}
}

// beyond are numbers that aren't from 0 to last, among them such that a narrower
// number would be.
func beyond(last int) []int {
	return []int{-1, last + 1, -last - 1, 2*last + 1, 1 << 32, 1<<32 + last + 1, 1 << 40, math.MinInt, math.MinInt + 1, math.MaxInt}
}

// wrongHeaders are headers with one number that isn't as it must be, of those that
// the bytes don't tell.
func wrongHeaders() []header.Header {
	var out []header.Header
	for _, y := range []struct {
		of   func(h *header.Header) *int
		last int
	}{
		{func(h *header.Header) *int { return &h.Class }, 255},
		{func(h *header.Header) *int { return &h.Flow }, 1<<20 - 1},
		{func(h *header.Header) *int { return &h.Hops }, 255},
	} {
		for _, bad := range beyond(y.last) {
			h := around()
			*y.of(&h) = bad
			out = append(out, h)
		}
	}
	return out
}

// wide are n pads of 257 bytes each.
func wide(n int) []option.Option {
	var out []option.Option
	for range n {
		out = append(out, option.Option{Kind: option.Pads, N: []int{255}})
	}
	return out
}

// long is a dis whose bytes are n, from 1032 to 1287.
func long(n int) control.Message {
	return control.Message{Options: append(wide(4), option.Option{Kind: option.Pads, N: []int{n - 1032}})}
}

// wrongMessages are messages that aren't right, by their errors.
func wrongMessages() map[api.Errno][]control.Message {
	return map[api.Errno][]control.Message{
		api.ErrKind: {
			{Code: 4}, {Code: -1}, {Code: 256}, {Code: 155}, {Code: math.MinInt},
			{Options: []option.Option{{Kind: option.Target, N: []int{0, 0}}}}, {Options: []option.Option{{Kind: 10}}},
		},
		api.ErrForm: {
			{Rank: 1}, {Code: control.DAO, Grounded: true}, {Code: control.Ack, Ask: true}, {Root: here()},
			{Options: []option.Option{{Kind: option.Pads}}},
		},
		api.ErrArg: {
			{Code: control.DIO}, {Code: control.DAO, Sequence: 256}, {Code: control.Ack, Status: -1},
			{Options: []option.Option{{Kind: option.Pads, N: []int{256}}}},
		},
		api.ErrLong: {
			{Options: make([]option.Option, 17)}, {Options: wide(5)}, long(1281), long(1282), long(1287),
			{Code: control.DIO, Root: here(), Options: []option.Option{{Kind: option.Metric, Text: make([]byte, 65)}}},
		},
	}
}

// P9.1, P9.2, example 1.
func TestExample(t *testing.T) {
	p := Control(link(0), addr.All(), control.Message{Code: control.DIS})
	b, e := Encode(p)
	if e != api.OK || len(b) != 46 {
		t.Fatalf("%x, error %d", b, e)
	}
	if q, e := Decode(b); e != api.OK || !Same(p, q) {
		t.Errorf("%+v, error %d", q, e)
	}
	for x := 1; x < 256; x++ {
		c := slices.Clone(b)
		c[45] ^= byte(x)
		wantRefused(t, c, api.ErrSum)
	}
}

// P9.1: bytes written out.
func TestBytesByHand(t *testing.T) {
	from := []byte{0xfe, 0x80, 0, 0, 0, 0, 0, 0, 0, 0, 0, 0, 0, 1, 0, 1}
	to := []byte{0xff, 2, 0, 0, 0, 0, 0, 0, 0, 0, 0, 0, 0, 0, 0, 0x1a}
	for _, y := range []struct {
		p    Packet
		want []byte
	}{
		// fe80 + 1 + 1 + ff02 + 1a + 6 + 3a + 9b00 is 298de, and so 98e0.
		{Control(link(0), addr.All(), control.Message{}), slices.Concat(
			[]byte{0x60, 0, 0, 0, 0, 6, 58, 255}, from, to, []byte{155, 0, 0x67, 0x1f, 0, 0})},
		// fe80 + 1 + 1 + ff02 + 1a + 8 + 3a + 9b02 + 0180 + 0009 is 29a6b, and so 9a6d.
		{Control(link(0), addr.All(), control.Message{Code: control.DAO, Instance: 1, Ask: true, Sequence: 9}), slices.Concat(
			[]byte{0x60, 0, 0, 0, 0, 8, 58, 255}, from, to, []byte{155, 2, 0x65, 0x92, 1, 128, 0, 9})},
		{Send(link(0), addr.All(), hopopt.Option{Down: true, Rank: 256}, 0x01020304, []byte("hi")), slices.Concat(
			[]byte{0x60, 0, 0, 0, 0, 14, 0, 64}, from, to, []byte{17, 0, 0x63, 4, 128, 0, 1, 0, 1, 2, 3, 4, 'h', 'i'})},
		{Packet{Header: header.Header{Class: 1, Flow: 2, Hops: 3}, Data: true}, slices.Concat(
			[]byte{0x60, 0x10, 0, 2, 0, 12, 0, 3}, make([]byte, 32), []byte{17, 0, 0x63, 4, 0, 0, 0, 0, 0, 0, 0, 0})},
	} {
		if b, e := Encode(y.p); e != api.OK || !bytes.Equal(b, y.want) {
			t.Errorf("%+v: %x, error %d; want %x", y.p, b, e, y.want)
		}
		if q, e := Decode(y.want); e != api.OK || !alike(q, told(y.p)) {
			t.Errorf("%x: %+v, error %d", y.want, q, e)
		}
	}
}

// P9.1: what is right, with the header's numbers at their ends.
func TestRight(t *testing.T) {
	for _, p := range samples() {
		wantRight(t, p)
		for _, h := range []header.Header{
			{}, {Class: 255}, {Flow: 1<<20 - 1}, {Hops: 255}, {Hops: 1}, {From: here(), To: link(63)},
			{Class: 255, Flow: 1<<20 - 1, Hops: 255, From: addr.All(), To: addr.All()},
		} {
			p.Header = h
			wantRight(t, p)
		}
	}
	for _, n := range []int{0, 1, 255, 256, 65535, 65536, 1<<31 - 1, 1 << 31, 1<<32 - 1} {
		p := someData()
		p.Number = n
		wantRight(t, p)
	}
}

// P9.1: the message's error, ahead of the header's.
func TestCheckMessage(t *testing.T) {
	for want, l := range wrongMessages() {
		for _, m := range l {
			for _, h := range append(wrongHeaders(), around(), header.Header{}) {
				wantWrong(t, Packet{Header: h, Message: m}, want)
			}
		}
	}
}

// P9.1: the option's error, and a number that isn't one of four bytes; both are
// told ahead of a text that is too long.
func TestCheckData(t *testing.T) {
	for _, text := range [][]byte{nil, []byte("hello"), make([]byte, 1229), make([]byte, 5000)} {
		for _, bad := range beyond(255) {
			p := someData()
			p.Text, p.Option.Instance = text, bad
			wantWrong(t, p, api.ErrArg)
		}
		for _, bad := range beyond(65535) {
			p := someData()
			p.Text, p.Option.Rank = text, bad
			wantWrong(t, p, api.ErrArg)
		}
		for _, bad := range beyond(1<<32 - 1) {
			p := someData()
			p.Text, p.Number = text, bad
			wantWrong(t, p, api.ErrArg)
		}
	}
}

// P9.1: the header's error, ahead of what is too long in all.
func TestCheckHeader(t *testing.T) {
	for _, h := range wrongHeaders() {
		for _, p := range samples() {
			p.Header = h
			wantWrong(t, p, api.ErrArg)
		}
		p := someData()
		p.Header, p.Text = h, make([]byte, 1229)
		wantWrong(t, p, api.ErrArg)
		for _, n := range []int{1236, 1237, 1277, 1280} {
			wantWrong(t, Packet{Header: h, Message: long(n)}, api.ErrArg)
		}
	}
}

// P9.1: 1280 bytes in all may be, 1281 may not.
func TestTooLong(t *testing.T) {
	for _, n := range []int{1227, 1228} {
		p := someData()
		p.Text = drawnBytes(drawer(n), n)
		wantRight(t, p)
	}
	for _, n := range []int{1229, 1230, 1268, 1280, 1281, 70000} {
		p := someData()
		p.Text = make([]byte, n)
		wantWrong(t, p, api.ErrLong)
	}
	for n := 1230; n <= 1287; n++ {
		p := Packet{Header: around(), Message: long(n)}
		if n <= 1236 {
			wantRight(t, p)
		} else {
			wantWrong(t, p, api.ErrLong)
		}
	}
	p := someData()
	if p.Text = make([]byte, 1228); len(bytesByWords(p)) != api.MaxBytes {
		t.Error("the edge isn't where it was looked for")
	}
}

// Length and Next are told by the bytes: what a packet comes with is passed over.
func TestLengthAndNext(t *testing.T) {
	for _, p := range samples() {
		for _, n := range append(beyond(255), 0, 17, 58, 59, 155, 65535) {
			q := p
			q.Header.Length = n
			wantRight(t, q)
			q.Header.Next = n
			wantRight(t, q)
			if !Same(p, q) {
				t.Errorf("%d: not the same", n)
			}
		}
	}
}

// laden is a packet with what only the other kind has, none of it right.
func laden(p Packet) Packet {
	if p.Data {
		p.Message = control.Message{Code: 99, Rank: -1, Options: wide(20)}
	} else {
		p.Option, p.Number, p.Text = hopopt.Option{Wrong: true, Instance: -1, Rank: 1 << 40}, -7, make([]byte, 3000)
	}
	return p
}

// What only the other kind has isn't asked about, nor told again.
func TestOtherKind(t *testing.T) {
	for _, p := range samples() {
		b, e := Encode(laden(p))
		if e != api.OK || Check(laden(p)) != api.OK || !bytes.Equal(b, bytesByWords(p)) {
			t.Errorf("%+v: %x, error %d", p, b, e)
		}
		q, _ := Decode(b)
		if !alike(q, told(p)) || !Same(q, laden(p)) || !Same(laden(p), p) {
			t.Errorf("%+v: %+v", p, q)
		}
	}
}

// drawnOption is one of what a message of a code may have.
func drawnOption(draw func(below int) int, code int) option.Option {
	kinds := []option.Option{{}, {Kind: option.Pads, N: []int{draw(256)}}}
	switch code {
	case control.DIS:
		kinds = append(kinds, option.Option{Kind: option.Solicited, N: []int{draw(256), draw(256), draw(256)}, Addr: here()})
	case control.DIO:
		kinds = append(kinds, option.Option{Kind: option.Metric, Text: drawnBytes(draw, draw(65))})
	case control.DAO:
		kinds = append(kinds, option.Option{Kind: option.Target, N: []int{draw(256), draw(129)}, Addr: link(draw(64))})
	}
	return kinds[draw(len(kinds))]
}

func drawnMessage(draw func(below int) int) control.Message {
	m := control.Message{Code: draw(4)}
	if m.Code != control.DIS {
		m.Instance = draw(256)
	}
	switch m.Code {
	case control.DIO:
		m.Version, m.Rank, m.Mode, m.Preference, m.DTSN, m.Grounded, m.Root = draw(256), draw(65536), draw(8), draw(8), draw(256), draw(2) == 0, here()
	case control.DAO:
		m.Ask, m.Sequence = draw(2) == 0, draw(256)
	case control.Ack:
		m.Sequence, m.Status = draw(256), draw(256)
	}
	if m.Code > control.DIO && draw(2) == 0 {
		m.Root = link(draw(64))
	}
	for range draw(6) {
		m.Options = append(m.Options, drawnOption(draw, m.Code))
	}
	return m
}

func drawnPacket(draw func(below int) int) Packet {
	p := Packet{Data: draw(2) == 0}
	p.Header = header.Header{Class: draw(256), Flow: draw(1 << 20), Hops: draw(256), From: addr.Addr(drawnBytes(draw, 16)), To: addr.Addr(drawnBytes(draw, 16))}
	if p.Data {
		p.Option = hopopt.Option{Down: draw(2) == 0, Wrong: draw(2) == 0, Failed: draw(2) == 0, Instance: draw(256), Rank: draw(65536)}
		p.Number, p.Text = draw(1<<31)*2+draw(2), drawnBytes(draw, draw(3)*draw(600))
	} else {
		p.Message = drawnMessage(draw)
	}
	return p
}

// P9.1, P9.4: what is encoded is as the words say, and is decoded as it was.
func TestEncodeDecode(t *testing.T) {
	draw := drawer(1)
	kinds := map[bool]int{}
	for range 4000 {
		p := drawnPacket(draw)
		if len(bytesByWords(p)) > api.MaxBytes {
			wantWrong(t, p, api.ErrLong)
			continue
		}
		wantRight(t, p)
		kinds[p.Data]++
	}
	if kinds[false] == 0 || kinds[true] == 0 {
		t.Errorf("kinds: %v", kinds)
	}
}

// P9.2: the header's error, ahead of all.
func TestDecodeHeader(t *testing.T) {
	wantRefused(t, nil, api.ErrEnd)
	for _, p := range samples() {
		whole := bytesByWords(p)
		for _, next := range []int{int(whole[6]), 1, 255} {
			b := slices.Clone(whole)
			b[6] = byte(next)
			for n := range b {
				wantRefused(t, b[:n], api.ErrEnd)
			}
			wantRefused(t, append(slices.Clone(b), 0), api.ErrForm)
			wantRefused(t, append(slices.Clone(b), make([]byte, 1281)...), api.ErrLong)
			for first := range 256 {
				b[0] = byte(first)
				if first/16 != 6 {
					wantRefused(t, b, api.ErrForm)
				}
			}
		}
	}
}

// P9.2: each next header but 0 and 58, whatever is behind it.
func TestDecodeNext(t *testing.T) {
	for _, p := range samples() {
		for next := range 256 {
			b := bytesByWords(p)
			b[6] = byte(next)
			if next != 0 && next != 58 {
				wantRefused(t, b, api.ErrKind)
				wantRefused(t, headerByWords(around(), next, 0), api.ErrKind)
			}
		}
	}
}

// P9.2: fewer than four bytes behind the header, whatever they are.
func TestDecodeControlEnd(t *testing.T) {
	draw := drawer(2)
	for n := range 4 {
		for range 300 {
			b := append(headerByWords(around(), 58, n), drawnBytes(draw, n)...)
			wantRefused(t, b, api.ErrEnd)
		}
		wantRefused(t, append(headerByWords(around(), 58, n), []byte{155, 0, 0}[:n]...), api.ErrEnd)
		wantRefused(t, append(headerByWords(header.Header{}, 58, n), make([]byte, n)...), api.ErrEnd)
	}
	// One byte more is enough to ask for the checksum, and then for the message.
	wantRefused(t, append(headerByWords(around(), 58, 4), 155, 0, 0, 0), api.ErrSum)
	wantRefused(t, summed(around(), []byte{155, 0, 0, 0}), api.ErrEnd)
}

// P9.2: of all checksums that which makes it right.
func TestDecodeSum(t *testing.T) {
	for _, m := range messages() {
		p := Packet{Header: around(), Message: m}
		b := bytesByWords(p)
		right := int(b[42])*256 + int(b[43])
		for n := range 65536 {
			copy(b[42:], number(n, 2))
			if q, e := Decode(b); n == right && (e != api.OK || !alike(q, told(p))) || n != right && e != api.ErrSum {
				t.Fatalf("%+v with %x: %+v, error %d", m, n, q, e)
			}
		}
	}
}

// P9.2: where the rest sums to 65535, the checksum is 0, and chapter 4 tells both
// zeros to be right.
func TestDecodeBothZeros(t *testing.T) {
	found := 0
	for n := range 65536 {
		p := Control(link(0), link(1), control.Message{Code: control.Ack, Sequence: n / 256, Status: n % 256})
		b, _ := Encode(p)
		if b[42] != 0 || b[43] != 0 {
			continue
		}
		found++
		wantRight(t, p)
		b[42], b[43] = 255, 255
		if q, e := Decode(b); e != api.OK || !alike(q, told(p)) {
			t.Errorf("%+v, error %d", q, e)
		}
	}
	if found == 0 {
		t.Error("no checksum was 0")
	}
}

// P9.2: a wrong checksum ahead of another first byte, and that ahead of the
// message's error.
func TestDecodeControlKind(t *testing.T) {
	for kind := range 256 {
		for _, behind := range [][]byte{{0, 0}, {1, 2, 3}, {}, make([]byte, 30)} {
			for _, code := range []byte{0, 1, 4, 255} {
				b := summed(around(), append([]byte{byte(kind), code, 0, 0}, behind...))
				if kind != 155 {
					wantRefused(t, b, api.ErrKind)
				}
				b[42] ^= 4
				wantRefused(t, b, api.ErrSum)
			}
		}
	}
}

// P9.2: the message's error, with a checksum that is right.
func TestDecodeMessage(t *testing.T) {
	for code := 4; code < 256; code++ {
		for _, behind := range [][]byte{nil, {0, 0}, {9, 9, 9}, make([]byte, 24)} {
			wantRefused(t, summed(around(), append([]byte{155, byte(code), 0, 0}, behind...)), api.ErrKind)
		}
	}
	for _, y := range []struct {
		code   byte
		behind []byte
		want   api.Errno
	}{
		{0, nil, api.ErrEnd},
		{0, []byte{0}, api.ErrEnd},
		{0, []byte{0, 1}, api.ErrForm},
		{0, []byte{0, 0, 10}, api.ErrKind},
		{0, []byte{0, 0, 1}, api.ErrEnd},
		{0, append([]byte{0, 0, 5, 18, 0, 128}, make([]byte, 16)...), api.ErrKind},
		{0, make([]byte, 2+17), api.ErrLong},
		{1, make([]byte, 24), api.ErrArg},
		{1, make([]byte, 23), api.ErrEnd},
		{2, []byte{1, 1, 0, 9}, api.ErrForm},
		{2, []byte{1, 64, 0, 9}, api.ErrEnd},
		{3, []byte{1, 128, 0}, api.ErrEnd},
		{3, []byte{1, 64, 0, 9}, api.ErrForm},
	} {
		b := summed(around(), append([]byte{155, y.code, 0, 0}, y.behind...))
		wantRefused(t, b, y.want)
		b[41] ^= 4 // no such code, but first of all the checksum
		wantRefused(t, b, api.ErrSum)
	}
}

// dataBehind is the bytes of a data datagram with other ones behind its header.
func dataBehind(behind ...byte) []byte {
	return append(headerByWords(around(), 0, len(behind)), behind...)
}

// P9.2: the option's error, ahead of its next header, and of what is missing.
func TestDecodeOption(t *testing.T) {
	for _, next := range []int{17, 0, 58} {
		whole := optionByWords(next, someOption())
		for n := range whole {
			wantRefused(t, dataBehind(whole[:n]...), api.ErrEnd)
		}
		for _, more := range [][]byte{nil, {1, 2, 3}, {1, 2, 3, 4}, make([]byte, 100)} {
			for at := 1; at < 4; at++ {
				for x := 1; x < 256; x++ {
					behind := append(slices.Clone(whole), more...)
					behind[at] ^= byte(x)
					behind[4] |= byte(x % 2) // and another flag
					wantRefused(t, dataBehind(behind...), api.ErrKind)
				}
			}
			for flags := range 32 {
				behind := append(slices.Clone(whole), more...)
				if behind[4] |= byte(flags); flags != 0 {
					wantRefused(t, dataBehind(behind...), api.ErrForm)
				}
			}
		}
	}
}

// P9.2: another next header behind the option, ahead of what is missing; then
// fewer than four bytes of the number.
func TestDecodeDataBehind(t *testing.T) {
	for next := range 256 {
		for n := range 8 {
			b := dataBehind(append(optionByWords(next, someOption()), []byte{1, 2, 3, 4, 5, 6, 7, 8}[:n]...)...)
			switch {
			case next != 17:
				wantRefused(t, b, api.ErrKind)
			case n < 4:
				wantRefused(t, b, api.ErrEnd)
			default:
				want := told(Packet{Header: around(), Data: true, Option: someOption(), Number: 0x01020304, Text: []byte{5, 6, 7, 8}[:n-4]})
				if p, e := Decode(b); e != api.OK || !alike(p, want) {
					t.Errorf("%d bytes: %+v, error %d; want %+v", n, p, e, want)
				}
			}
		}
	}
}

// A control datagram isn't decoded as data, nor data as control, by its next
// header alone.
func TestDecodeNextTurned(t *testing.T) {
	for _, p := range samples() {
		b := bytesByWords(p)
		b[6] ^= 58
		want := api.ErrSum
		if !p.Data {
			_, _, _, want = hopopt.Decode(b[40:])
		}
		wantRefused(t, b, want)
	}
}

// bend is bytes with a few of them other ones.
func bend(draw func(below int) int, b []byte) []byte {
	for range 1 + draw(2) {
		b[draw(min(len(b), []int{40, 52, 2000}[draw(3)]))] = byte([]int{0, 17, 58, 155, draw(256)}[draw(5)])
	}
	return b
}

// P9.2: any bytes are refused as the words say, or decoded so.
func TestDecodeAnyBytes(t *testing.T) {
	draw := drawer(3)
	count := map[api.Errno]int{}
	for range 40000 {
		p := drawnPacket(draw)
		b := bytesByWords(p)
		switch draw(4) {
		case 0: // bent, but for the checksum, which is right behind that
			if behind := bend(draw, b)[40:]; b[6] == 58 {
				b = summed(header.Header{Hops: 1, From: addr.Addr(b[8:24]), To: addr.Addr(b[24:40])}, behind)
			}
		case 1:
			b = bend(draw, b)
		case 2: // another number of bytes, which the length tells
			b = b[:40+draw(len(b)-39)]
			copy(b[4:], number(len(b)-40, 2))
		case 3:
			b = drawnBytes(draw, draw(80))
		}
		want, wantErr := decodedByWords(b)
		got, e := Decode(b)
		count[e]++
		if e != wantErr || !alike(got, want) {
			t.Fatalf("%x: %+v, error %d; want %+v, error %d", b, got, e, want, wantErr)
		}
		if e != api.OK && !reflect.DeepEqual(got, Packet{}) {
			t.Fatalf("%x: %+v beside error %d", b, got, e)
		}
	}
	for _, e := range []api.Errno{api.OK, api.ErrLong, api.ErrForm, api.ErrEnd, api.ErrSum, api.ErrKind} {
		if count[e] == 0 {
			t.Errorf("error %d was never told", e)
		}
	}
}

// P9.4: one bit turned behind the header of a control datagram.
func TestOneBit(t *testing.T) {
	draw := drawer(4)
	l := samples()
	for range 60 {
		l = append(l, drawnPacket(draw))
	}
	l = append(l, Packet{Header: around(), Message: long(1236)}, Control(here(), here(), long(1235)))
	for _, p := range l {
		if p.Data || Check(p) != api.OK {
			continue
		}
		b := bytesByWords(p)
		for i := 8 * 40; i < 8*len(b); i++ {
			b[i/8] ^= 1 << (i % 8)
			wantRefused(t, b, api.ErrSum)
			b[i/8] ^= 1 << (i % 8)
		}
		for i := 8 * 8; i < 8*40; i++ { // the addresses are summed too
			b[i/8] ^= 1 << (i % 8)
			wantRefused(t, b, api.ErrSum)
			b[i/8] ^= 1 << (i % 8)
		}
	}
}

// P9.3: what Control tells, of messages that aren't right too.
func TestControl(t *testing.T) {
	for _, m := range append(messages(), control.Message{Code: 99, Rank: -1, Options: []option.Option{{Kind: -5, N: []int{1}, Text: []byte{2}}}}) {
		for _, to := range []addr.Addr{{}, link(1), addr.All(), here()} {
			p := Control(link(5), to, m)
			if want := (Packet{Header: header.Header{Hops: 255, From: link(5), To: to}, Message: m}); !alike(p, want) {
				t.Errorf("%+v; want %+v", p, want)
			}
		}
	}
}

// P9.3: what Send tells: all texts, one behind the other, whatever they and the
// numbers are.
func TestSend(t *testing.T) {
	for _, y := range []struct {
		text [][]byte
		want string
	}{
		{nil, ""},
		{[][]byte{nil}, ""},
		{[][]byte{{}, nil, {}}, ""},
		{[][]byte{[]byte("hello")}, "hello"},
		{[][]byte{[]byte("he"), nil, []byte("ll"), {}, []byte("o")}, "hello"},
		{[][]byte{make([]byte, 1000), []byte("x"), make([]byte, 1000)}, string(make([]byte, 1000)) + "x" + string(make([]byte, 1000))},
	} {
		for _, n := range []int{0, 77, 1<<32 - 1, -1, 1 << 32, math.MinInt} {
			for _, o := range []hopopt.Option{{}, someOption(), {Wrong: true, Instance: -1, Rank: 65536}} {
				p := Send(link(5), here(), o, n, y.text...)
				want := Packet{Header: header.Header{Hops: 64, From: link(5), To: here()}, Data: true, Option: o, Number: n, Text: []byte(y.want)}
				if !alike(p, want) {
					t.Errorf("%+v; want %+v", p, want)
				}
			}
		}
	}
	wantRight(t, Send(link(5), here(), someOption(), 9, []byte("he"), []byte("llo")))
	wantWrong(t, Send(link(5), here(), someOption(), -1), api.ErrArg)
	wantWrong(t, Send(link(5), here(), someOption(), 9, make([]byte, 1000), make([]byte, 229)), api.ErrLong)
}

// apart is a message with lists of its own.
func apart(m control.Message) control.Message {
	m.Options = option.Without(m.Options)
	return m
}

// differing are packets with one thing other than in p, of what its kind has.
func differing(p Packet) []Packet {
	var out []Packet
	with := func(change func(q *Packet)) {
		q := p
		q.Text, q.Message = slices.Clone(p.Text), apart(p.Message)
		change(&q)
		out = append(out, q)
	}
	for _, by := range []int{1, -1, 256, 1 << 20, 1 << 32, math.MinInt} {
		with(func(q *Packet) { q.Header.Class += by })
		with(func(q *Packet) { q.Header.Flow += by })
		with(func(q *Packet) { q.Header.Hops += by })
	}
	for i := range 16 {
		with(func(q *Packet) { q.Header.From[i]++ })
		with(func(q *Packet) { q.Header.To[i]++ })
	}
	with(func(q *Packet) { q.Data = !q.Data })
	if !p.Data {
		with(func(q *Packet) { q.Message.Code++ })
		with(func(q *Packet) { q.Message.Status += 256 })
		with(func(q *Packet) { q.Message.Ask = !q.Message.Ask })
		with(func(q *Packet) { q.Message.Root[3]++ })
		with(func(q *Packet) { q.Message.Options = append(q.Message.Options, option.Option{}) })
		return out
	}
	with(func(q *Packet) { q.Option.Down = !q.Option.Down })
	with(func(q *Packet) { q.Option.Wrong = !q.Option.Wrong })
	with(func(q *Packet) { q.Option.Failed = !q.Option.Failed })
	for _, by := range []int{1, -1, 256, 1 << 16, 1 << 32, math.MinInt} {
		with(func(q *Packet) { q.Option.Instance += by })
		with(func(q *Packet) { q.Option.Rank += by })
		with(func(q *Packet) { q.Number += by })
	}
	with(func(q *Packet) { q.Text = append(q.Text, 0) })
	for i := range p.Text {
		with(func(q *Packet) { q.Text[i]++ })
		with(func(q *Packet) { q.Text = q.Text[:i] })
	}
	return out
}

// P9.3: Same, where nothing, or one thing alone, differs; of packets that aren't
// right, too.
func TestSame(t *testing.T) {
	l := append(samples(), laden(someData()), laden(Packet{Message: messages()[2]}))
	l = append(l, Packet{Header: header.Header{Class: -1}, Data: true, Number: -1}, Packet{Message: control.Message{Code: 99}})
	for _, p := range l {
		if !Same(p, p) {
			t.Errorf("%+v isn't the same", p)
		}
		for _, q := range differing(p) {
			if Same(p, q) || Same(q, p) {
				t.Errorf("%+v is the same as %+v", p, q)
			}
		}
	}
	for i, p := range samples() {
		for j, q := range samples() {
			if Same(p, q) != (i == j) {
				t.Errorf("%d, %d: %v", i, j, Same(p, q))
			}
		}
	}
	if !Same(Packet{Data: true, Text: []byte{}}, Packet{Data: true}) || Same(Packet{}, Packet{Data: true}) {
		t.Error("empty isn't nil, or data is control")
	}
	if !Same(Packet{Message: control.Message{Options: []option.Option{}}}, Packet{}) {
		t.Error("no options aren't none")
	}
}

// spoil overwrites all memory of bytes.
func spoil(b []byte) {
	for i := range b[:cap(b)] {
		b[:cap(b)][i] = 200
	}
}

// spoilPacket overwrites all memory of a packet.
func spoilPacket(p Packet) {
	spoil(p.Text)
	l := p.Message.Options
	for _, o := range l[:cap(l)] {
		for i := range o.N[:cap(o.N)] {
			o.N[:cap(o.N)][i] = -99
		}
		spoil(o.Text)
	}
	clear(l[:cap(l)])
}

// P9.4: bytes aren't changed or kept, and answers are new memory.
func TestNewMemory(t *testing.T) {
	for _, want := range samples() {
		room := append(bytesByWords(want), "and more"...)
		was := slices.Clone(room)
		b := room[:len(room)-8]
		p, _ := Decode(b)
		twin, _ := Decode(b)
		spoilPacket(twin)
		if !bytes.Equal(room, was) || !alike(p, told(want)) {
			t.Errorf("%+v: a twin is shared", want)
		}
		spoil(room)
		if !alike(p, told(want)) {
			t.Errorf("%+v: bytes are kept", want)
		}
		first, _ := Encode(p)
		second, _ := Encode(p)
		spoil(second)
		if !alike(p, told(want)) || !bytes.Equal(first, bytesByWords(want)) {
			t.Errorf("%+v: an answer is shared", want)
		}
		spoilPacket(p)
		if !bytes.Equal(first, bytesByWords(want)) {
			t.Errorf("%+v: a packet is kept", want)
		}
	}
}

// P9.3, P9.4: what Control and Send tell shares nothing with what they were given.
func TestMadeNewMemory(t *testing.T) {
	for _, m := range messages() {
		want := apart(m)
		p, twin := Control(link(0), here(), m), Control(link(0), here(), m)
		spoilPacket(twin)
		if !control.Same(m, want) || !control.Same(p.Message, want) {
			t.Errorf("%+v: a twin is shared", m)
		}
		spoilPacket(Packet{Message: m})
		if !control.Same(p.Message, want) {
			t.Errorf("%+v: a message is kept", want)
		}
	}
	for _, parts := range []int{1, 2} {
		text := slices.Repeat([][]byte{nil}, parts)
		for i := range text {
			text[i] = append(make([]byte, 0, 20), "hello"...)
		}
		want := bytes.Repeat([]byte("hello"), parts)
		p, twin := Send(link(0), here(), someOption(), 1, text...), Send(link(0), here(), someOption(), 1, text...)
		spoilPacket(twin)
		if !bytes.Equal(slices.Concat(text...), want) || !bytes.Equal(p.Text, want) {
			t.Errorf("%q, %q", text, p.Text)
		}
		spoil(text[0])
		if !bytes.Equal(p.Text, want) {
			t.Errorf("%q", p.Text)
		}
	}
}

// Arguments aren't changed, nor what lies behind them.
func TestArgumentsStay(t *testing.T) {
	room := []byte("hello, and more")
	p := someData()
	p.Text = room[:5]
	q := Packet{Header: header.Header{Length: -1, Next: -1}, Message: messages()[3]}
	was := apart(q.Message)
	for _, x := range []Packet{p, q} {
		Encode(x)
		Check(x)
		Same(x, x)
	}
	Control(link(0), link(1), q.Message)
	Send(link(0), link(1), someOption(), 1, room[:5], room[5:7])
	if string(room) != "hello, and more" || !control.Same(q.Message, was) {
		t.Errorf("%q, %+v", room, q.Message)
	}
}

// P1, P2: the same calls have the same answers, and none panics, whatever the
// numbers are.
func TestSameAgain(t *testing.T) {
	draw := drawer(5)
	odd := beyond(255)
	for range 3000 {
		p := drawnPacket(draw)
		for _, x := range []*int{&p.Header.Class, &p.Header.Flow, &p.Header.Hops, &p.Header.Length, &p.Header.Next, &p.Number, &p.Option.Rank, &p.Message.Code, &p.Message.Rank} {
			if draw(8) == 0 {
				*x = odd[draw(len(odd))]
			}
		}
		a, x := Encode(p)
		b, y := Encode(p)
		if x != y || !bytes.Equal(a, b) || Check(p) != x || !Same(p, p) || x != api.OK && a != nil {
			t.Errorf("Encode(%+v): %x, error %d; then %x, error %d", p, a, x, b, y)
		}
		bent := append(headerByWords(around(), 58*draw(2), 14), drawnBytes(draw, 14)...)
		q, x := Decode(bent)
		r, y := Decode(bent)
		if x != y || !alike(q, r) {
			t.Errorf("Decode(%x): %+v, error %d; then %+v, error %d", bent, q, x, r, y)
		}
	}
}
