package packet_test

import (
	"bytes"
	"encoding/hex"
	"fmt"
	"math"
	"testing"

	"radiolink/api"
	"radiolink/packet"
)

// field is a number of a header, with the greatest value that it has for each kind.
type field struct {
	name     string
	udp, rtp int
	of       func(h *api.Header) *int
}

func (f field) most(kind int) int {
	if kind == api.KindRtp {
		return f.rtp
	}
	return f.udp
}

var kinds = []int{api.KindUdp, api.KindRtp}

var fields = []field{
	{"Tos", 255, 255, func(h *api.Header) *int { return &h.Tos }},
	{"Id", 65535, 65535, func(h *api.Header) *int { return &h.Id }},
	{"Fixed", 1, 1, func(h *api.Header) *int { return &h.Fixed }},
	{"Ttl", 255, 255, func(h *api.Header) *int { return &h.Ttl }},
	{"From", 4294967295, 4294967295, func(h *api.Header) *int { return &h.From }},
	{"To", 4294967295, 4294967295, func(h *api.Header) *int { return &h.To }},
	{"FromPort", 65535, 65535, func(h *api.Header) *int { return &h.FromPort }},
	{"ToPort", 65535, 65535, func(h *api.Header) *int { return &h.ToPort }},
	{"Check", 65535, 65535, func(h *api.Header) *int { return &h.Check }},
	{"Marker", 0, 1, func(h *api.Header) *int { return &h.Marker }},
	{"Type", 0, 127, func(h *api.Header) *int { return &h.Type }},
	{"Seq", 0, 65535, func(h *api.Header) *int { return &h.Seq }},
	{"Time", 0, 4294967295, func(h *api.Header) *int { return &h.Time }},
	{"Source", 0, 4294967295, func(h *api.Header) *int { return &h.Source }},
}

func size(kind int) int {
	if kind == api.KindRtp {
		return 40
	}
	return 28
}

// middle returns a header away from all limits, so that no two bytes beside each other in its numbers are the same.
func middle(kind int) api.Header {
	h := api.Header{Kind: kind, Tos: 0xb8, Id: 0x1234, Fixed: 1, Ttl: 0x3f, From: 0x0a010203, To: 0xc0a8fe7d, FromPort: 0x5ac1, ToPort: 0x139c, Check: 0x9e37}
	if kind == api.KindRtp {
		h.Marker, h.Type, h.Seq, h.Time, h.Source = 1, 0x60, 0x8765, 0xfedcba98, 0x13579bdf
	}
	return h
}

// limit returns a header with all fields at their greatest values.
func limit(kind int) api.Header {
	h := api.Header{Kind: kind}
	for _, f := range fields {
		*f.of(&h) = f.most(kind)
	}
	return h
}

// headers returns valid headers of both kinds: with each field at and near its limits, alone and with all others at theirs.
func headers() []api.Header {
	l := []api.Header{}
	for _, kind := range kinds {
		for _, h := range []api.Header{{Kind: kind}, middle(kind), limit(kind)} {
			l = append(l, h)
			for _, f := range fields {
				most := f.most(kind)
				for _, x := range []int{0, 1, 2, 128, 255, 256, 0x0102, 65534, 65535, 65536, 0x01020304, 1 << 31, most / 2, most - 1, most} {
					if x >= 0 && x <= most {
						c := h
						*f.of(&c) = x
						l = append(l, c)
					}
				}
			}
		}
	}
	return l
}

// wrong returns headers that are not valid in one field or in their kind.
func wrong() []api.Header {
	l := []api.Header{{}}
	for _, kind := range kinds {
		for _, h := range []api.Header{{Kind: kind}, middle(kind), limit(kind)} {
			for _, f := range fields {
				most := f.most(kind)
				for _, x := range []int{-1, -2, -256, -65536, -1 << 32, math.MinInt, most + 1, most + 2, most + 256, most + 65536, most + 1<<32, 1 << 32, 1 << 40, math.MaxInt} {
					c := h
					*f.of(&c) = x
					l = append(l, c)
				}
			}
			for _, kind := range []int{0, 3, 4, -1, -2, 17, 256 + api.KindUdp, 1<<32 + api.KindRtp, math.MinInt, math.MaxInt} {
				c := h
				c.Kind = kind
				l = append(l, c)
			}
		}
	}
	return l
}

// payloads are of even and odd lengths, at and near the length of the headers of RTP and the longest ones of both kinds.
func payloads() [][]byte {
	l := [][]byte{nil, {}, {0}, {0xff}, {0x80}, {0, 0}, {0xff, 0xff}, []byte("TESTING"), []byte("radiolink")}
	for _, n := range []int{3, 10, 11, 12, 13, 27, 28, 29, 40, 100, 1459, 1460, 1461, 1471, 1472} {
		mixed := make([]byte, n)
		for i := range mixed {
			mixed[i] = byte(i*i*41 + i*7 + n)
		}
		l = append(l, mixed, make([]byte, n), bytes.Repeat([]byte{0xff}, n), append([]byte{0x80}, mixed[1:]...))
	}
	return l
}

// fitting returns the payloads that fit a packet of the kind.
func fitting(kind int) [][]byte {
	l := [][]byte{}
	for _, p := range payloads() {
		if size(kind)+len(p) <= 1500 {
			l = append(l, p)
		}
	}
	return l
}

// folded is the model of a folded sum: to move the upper part down is to subtract multiples of 65535.
func folded(b []byte) int {
	sum := 0
	for i, x := range b {
		if i%2 == 0 {
			sum += 256 * int(x)
		} else {
			sum += int(x)
		}
	}
	if sum == 0 {
		return 0
	}
	return (sum-1)%65535 + 1
}

func put(b []byte, at, x int) { b[at], b[at+1] = byte(x/256), byte(x%256) }

// signed returns b with the checksum of IPv4 that fits its first 20 bytes.
func signed(b []byte) []byte {
	b = bytes.Clone(b)
	put(b, 10, 0)
	put(b, 10, 65535-folded(b[:20]))
	return b
}

// wantHead writes the table of the chapter as a text of hexadecimal digits.
func wantHead(h api.Header) []byte {
	s := fmt.Sprintf("45%02x 0000 %04x %02x00 %02x11 0000 %08x %08x", h.Tos, h.Id, 64*h.Fixed, h.Ttl, h.From, h.To)
	s += fmt.Sprintf("%04x %04x 0000 %04x", h.FromPort, h.ToPort, h.Check)
	if h.Kind == api.KindRtp {
		s += fmt.Sprintf("80%02x %04x %08x %08x", 128*h.Marker+h.Type, h.Seq, h.Time, h.Source)
	}
	return unhex(s)
}

func unhex(s string) []byte {
	b, err := hex.DecodeString(string(bytes.ReplaceAll([]byte(s), []byte(" "), nil)))
	if err != nil {
		panic(err)
	}
	return b
}

func wantPacket(h api.Header, payload []byte) []byte {
	b := append(wantHead(h), payload...)
	put(b, 2, len(b))
	put(b, 24, len(b)-20)
	return signed(b)
}

func wantUdp(h api.Header, payload []byte) int {
	h.Check = 0
	b := wantPacket(h, payload)
	all := unhex(fmt.Sprintf("%08x %08x 0011 %04x", h.From, h.To, len(b)-20))
	if sum := 65535 - folded(append(all, b[20:]...)); sum != 0 {
		return sum
	}
	return 65535
}

func build(t *testing.T, h api.Header, payload []byte) []byte {
	t.Helper()
	b, e := packet.Build(h, payload)
	if e != api.OK {
		t.Fatalf("Build %+v, %x: error %d", h, payload, e)
	}
	return b
}

// P5.1

func TestValid(t *testing.T) {
	for _, h := range headers() {
		if !packet.Valid(h) {
			t.Errorf("%+v is not valid", h)
		}
	}
	for _, h := range wrong() {
		if packet.Valid(h) {
			t.Errorf("%+v is valid", h)
		}
	}
}

func TestValidForEachFieldAtItsLimits(t *testing.T) {
	for _, kind := range kinds {
		for _, f := range fields {
			most := f.most(kind)
			for x, want := range map[int]bool{-1: false, 0: true, most: true, most + 1: false} {
				h := api.Header{Kind: kind}
				*f.of(&h) = x
				if packet.Valid(h) != want {
					t.Errorf("kind %d, %s %d: %v", kind, f.name, x, !want)
				}
			}
		}
	}
}

func TestHead(t *testing.T) {
	for _, h := range headers() {
		if got, want := packet.Head(h), wantHead(h); !bytes.Equal(got, want) {
			t.Errorf("%+v: %x; want %x", h, got, want)
		}
	}
}

func TestHeadValues(t *testing.T) {
	for _, x := range []struct {
		h    api.Header
		want string
	}{
		{api.Header{Kind: api.KindUdp}, "45000000 00000000 00110000 00000000 00000000 00000000 00000000"},
		{api.Header{Kind: api.KindRtp}, "45000000 00000000 00110000 00000000 00000000 00000000 00000000 80000000 00000000 00000000"},
		{middle(api.KindUdp), "45b80000 12344000 3f110000 0a010203 c0a8fe7d 5ac1139c 00009e37"},
		{middle(api.KindRtp), "45b80000 12344000 3f110000 0a010203 c0a8fe7d 5ac1139c 00009e37 80e08765 fedcba98 13579bdf"},
		{limit(api.KindUdp), "45ff0000 ffff4000 ff110000 ffffffff ffffffff ffffffff 0000ffff"},
		{limit(api.KindRtp), "45ff0000 ffff4000 ff110000 ffffffff ffffffff ffffffff 0000ffff 80ffffff ffffffff ffffffff"},
	} {
		if got := packet.Head(x.h); !bytes.Equal(got, unhex(x.want)) {
			t.Errorf("%+v: %x; want %s", x.h, got, x.want)
		}
	}
}

func TestHeadOfHeadersThatAreNotValid(t *testing.T) {
	for _, h := range wrong() {
		if got := packet.Head(h); len(got) != 0 {
			t.Errorf("%+v: %x", h, got)
		}
	}
}

// P5.2

func TestBuild(t *testing.T) {
	for _, h := range headers() {
		for _, p := range [][]byte{nil, {0x80}, []byte("radiolink")} {
			if got, want := build(t, h, p), wantPacket(h, p); !bytes.Equal(got, want) {
				t.Errorf("%+v, %x: %x; want %x", h, p, got, want)
			}
		}
	}
	for _, kind := range kinds {
		for _, p := range fitting(kind) {
			before := bytes.Clone(p)
			for _, h := range []api.Header{{Kind: kind}, middle(kind), limit(kind)} {
				if got, want := build(t, h, p), wantPacket(h, p); !bytes.Equal(got, want) {
					t.Errorf("%+v, %x: %x; want %x", h, p, got, want)
				}
			}
			if !bytes.Equal(p, before) {
				t.Fatalf("the argument was %x and is now %x", before, p)
			}
		}
	}
}

// The checksum of IPv4 of the first packet is published, and that of UDP of the second one.
func TestBuildValues(t *testing.T) {
	b := build(t, api.Header{Kind: api.KindUdp, Fixed: 1, Ttl: 64, From: 0xc0a80001, To: 0xc0a800c7}, make([]byte, 115-28))
	if want := unhex("45000073 00004000 4011b861 c0a80001 c0a800c7 00000000 005f0000"); !bytes.Equal(b, append(want, make([]byte, 115-28)...)) {
		t.Errorf("%x", b)
	}
	b = build(t, published, []byte("TESTING"))
	if want := unhex("45000023 00000000 00116043 99120869 ab020e0a 043f000d 000f6914 54455354494e47"); !bytes.Equal(b, want) {
		t.Errorf("%x", b)
	}
}

var published = api.Header{Kind: api.KindUdp, From: 0x99120869, To: 0xab020e0a, FromPort: 1087, ToPort: 13, Check: 0x6914}

func TestBuildWithoutPayload(t *testing.T) {
	for _, kind := range kinds {
		for _, p := range [][]byte{nil, {}} {
			if b := build(t, middle(kind), p); len(b) != size(kind) {
				t.Errorf("kind %d: %d bytes", kind, len(b))
			}
		}
	}
}

func TestBuildErrInvalid(t *testing.T) {
	for _, h := range wrong() {
		for _, p := range [][]byte{nil, {1, 2, 3}, make([]byte, 1461), make([]byte, 1473), make([]byte, 5000)} {
			if b, e := packet.Build(h, p); len(b) != 0 || e != api.ErrInvalid {
				t.Errorf("%+v, %d bytes: %x, %d", h, len(p), b, e)
			}
		}
	}
}

func TestBuildErrSize(t *testing.T) {
	for _, kind := range kinds {
		most := 1500 - size(kind)
		for _, h := range []api.Header{{Kind: kind}, middle(kind), limit(kind)} {
			if b := build(t, h, make([]byte, most)); len(b) != 1500 {
				t.Errorf("%+v: %d bytes", h, len(b))
			}
			for _, n := range []int{most + 1, most + 2, 1500, 1501, 65508, 65536, 1 << 20} {
				if b, e := packet.Build(h, make([]byte, n)); len(b) != 0 || e != api.ErrSize {
					t.Errorf("%+v, %d bytes: %d bytes, %d", h, n, len(b), e)
				}
			}
		}
	}
}

func TestBuildReturnsNewMemory(t *testing.T) {
	all := []byte{1, 2, 3, 4, 5, 6}
	for _, kind := range kinds {
		b := build(t, middle(kind), all[1:3])
		clear(b)
		_ = append(b, 0xee)
		if !bytes.Equal(all, []byte{1, 2, 3, 4, 5, 6}) {
			t.Errorf("the argument is now %x", all)
		}
		if got, want := build(t, middle(kind), all[1:3]), wantPacket(middle(kind), []byte{2, 3}); !bytes.Equal(got, want) {
			t.Errorf("%x; want %x", got, want)
		}
	}
}

// P5.3

// hidden tells whether the payload of a packet without RTP looks like the headers of RTP.
func hidden(h api.Header, payload []byte) bool {
	return h.Kind == api.KindUdp && len(payload) >= 12 && payload[0] == 0x80
}

func wantParse(t *testing.T, b []byte, h api.Header, payload []byte) {
	t.Helper()
	before := bytes.Clone(b)
	if got, p, e := packet.Parse(b); got != h || !bytes.Equal(p, payload) || e != api.OK {
		t.Errorf("%x: %+v, %x, %d; want %+v, %x", b, got, p, e, h, payload)
	}
	if !bytes.Equal(b, before) {
		t.Errorf("the argument was %x and is now %x", before, b)
	}
}

func wantNone(t *testing.T, b []byte, want api.Errno) {
	t.Helper()
	if h, p, e := packet.Parse(b); h != (api.Header{}) || len(p) != 0 || e != want {
		t.Errorf("%x: %+v, %x, %d; want the error %d", b, h, p, e, want)
	}
}

func TestParse(t *testing.T) {
	for _, h := range headers() {
		for _, p := range [][]byte{nil, {0x80}, []byte("radiolink")} {
			wantParse(t, wantPacket(h, p), h, p)
		}
	}
	for _, kind := range kinds {
		for _, p := range fitting(kind) {
			for _, h := range []api.Header{{Kind: kind}, middle(kind), limit(kind)} {
				if !hidden(h, p) {
					wantParse(t, wantPacket(h, p), h, p)
				}
			}
		}
	}
	wantParse(t, unhex("45000023 00000000 00116043 99120869 ab020e0a 043f000d 000f6914 54455354494e47"), published, []byte("TESTING"))
}

func TestParseTellsTheKindByByte28(t *testing.T) {
	udp := middle(api.KindUdp)
	rtp := udp
	rtp.Kind, rtp.Marker, rtp.Type, rtp.Seq, rtp.Time, rtp.Source = api.KindRtp, 1, 0x21, 0x0203, 0x04050607, 0x08090a0b
	payload := unhex("80a102030405060708090a0b")
	wantParse(t, wantPacket(udp, payload[:11]), udp, payload[:11])
	wantParse(t, wantPacket(udp, payload), rtp, nil)
	wantParse(t, wantPacket(udp, append(bytes.Clone(payload), 7, 8, 9)), rtp, []byte{7, 8, 9})
	for x := range 256 {
		if x == 0x80 {
			continue
		}
		payload[0] = byte(x)
		wantParse(t, wantPacket(udp, payload), udp, payload)
	}
	wantParse(t, wantPacket(udp, []byte{0x80}), udp, []byte{0x80})
}

func TestParseErrSize(t *testing.T) {
	for _, kind := range kinds {
		b := wantPacket(middle(kind), make([]byte, 1500-size(kind)))
		wantParse(t, b, middle(kind), make([]byte, 1500-size(kind)))
		wantNone(t, wantPacket(middle(kind), make([]byte, 1501-size(kind))), api.ErrSize)
		wantNone(t, append(b, 0), api.ErrSize)
		for n := range 28 {
			wantNone(t, b[:n], api.ErrSize)
			wantNone(t, make([]byte, n), api.ErrSize)
		}
		wantNone(t, b[:28], api.ErrForm)
		wantNone(t, b[:1499], api.ErrForm)
	}
	wantNone(t, nil, api.ErrSize)
	wantNone(t, make([]byte, 28), api.ErrForm)
	wantNone(t, make([]byte, 1500), api.ErrForm)
	wantNone(t, make([]byte, 1501), api.ErrSize)
	wantNone(t, make([]byte, 1<<17), api.ErrSize)
}

// Headers that are cut, and yet have lengths and a checksum of IPv4 that fit.
func TestParseErrSizeOfHeadersThatFit(t *testing.T) {
	for n := 20; n < 28; n++ {
		b := wantPacket(middle(api.KindUdp), nil)[:n]
		put(b, 2, n)
		if n >= 26 {
			put(b, 24, n-20)
		}
		wantNone(t, signed(b), api.ErrSize)
	}
}

// All that is the same in all packets, with a checksum that fits, and what follows from the length.
func TestParseErrForm(t *testing.T) {
	for _, kind := range kinds {
		for _, p := range [][]byte{nil, []byte("radiolink radiolink")} {
			b := wantPacket(middle(kind), p)
			for _, at := range []int{0, 2, 3, 7, 9, 24, 25} {
				for change := 1; change < 256; change++ {
					c := bytes.Clone(b)
					c[at] ^= byte(change)
					wantNone(t, signed(c), api.ErrForm)
				}
			}
			for change := range 256 {
				c := bytes.Clone(b)
				c[6] ^= byte(change)
				h := middle(kind)
				switch change {
				case 0:
					wantParse(t, signed(c), h, p)
				case 64:
					h.Fixed = 0
					wantParse(t, signed(c), h, p)
				default:
					wantNone(t, signed(c), api.ErrForm)
				}
			}
			wantNone(t, append(bytes.Clone(b), 0), api.ErrForm)
			wantNone(t, append(bytes.Clone(b), b...), api.ErrForm)
			if len(p) > 0 {
				wantNone(t, b[:len(b)-1], api.ErrForm)
			}
		}
	}
}

// The lengths are both wrong by the same number, so that they fit each other.
func TestParseErrFormOfLengthsThatFitEachOther(t *testing.T) {
	for _, kind := range kinds {
		b := wantPacket(middle(kind), []byte("radiolink"))
		for _, more := range []int{-9, -1, 1, 2, 9} {
			c := bytes.Clone(b)
			put(c, 2, len(b)+more)
			put(c, 24, len(b)-20+more)
			wantNone(t, signed(c), api.ErrForm)
		}
	}
}

// The numbers 0 and 65535 are the same for a receiver that adds up all words, but only one of them is the checksum.
func TestParseErrFormOfTheOtherZero(t *testing.T) {
	h := middle(api.KindUdp)
	h.Id = 0
	h.Id = 65535 - folded(append(wantPacket(h, nil)[:10], wantPacket(h, nil)[12:20]...))
	b := wantPacket(h, nil)
	if b[10] != 0 || b[11] != 0 || folded(b[:20]) != 65535 {
		t.Fatalf("the checksum of %x is not 0", b)
	}
	wantParse(t, b, h, nil)
	put(b, 10, 65535)
	if folded(b[:20]) != 65535 {
		t.Fatalf("the words of %x do not add up to 65535", b)
	}
	wantNone(t, b, api.ErrForm)
}

func TestParseReturnsNewMemory(t *testing.T) {
	for _, kind := range kinds {
		b := wantPacket(middle(kind), []byte("radiolink"))
		before := bytes.Clone(b)
		_, p, e := packet.Parse(b)
		if e != api.OK {
			t.Fatalf("error %d", e)
		}
		clear(p)
		_ = append(p, 0xee)
		if !bytes.Equal(b, before) {
			t.Errorf("the argument is now %x", b)
		}
		wantParse(t, b[:len(b):len(b)], middle(kind), []byte("radiolink"))
	}
}

// P5.4

func wantSum(t *testing.T, h api.Header, payload []byte) {
	t.Helper()
	before := bytes.Clone(payload)
	if got, e := packet.Udp(h, payload); got != wantUdp(h, payload) || e != api.OK {
		t.Errorf("%+v, %x: %d, %d; want %d", h, payload, got, e, wantUdp(h, payload))
	}
	if !bytes.Equal(payload, before) {
		t.Errorf("the argument was %x and is now %x", before, payload)
	}
}

func TestUdp(t *testing.T) {
	for _, h := range headers() {
		for _, p := range [][]byte{nil, {0x80}, []byte("radiolink")} {
			wantSum(t, h, p)
		}
	}
	for _, kind := range kinds {
		for _, p := range fitting(kind) {
			for _, h := range []api.Header{{Kind: kind}, middle(kind), limit(kind)} {
				wantSum(t, h, p)
			}
		}
	}
}

func TestUdpValues(t *testing.T) {
	for _, x := range []struct {
		h       api.Header
		payload []byte
		want    int
	}{
		{published, []byte("TESTING"), 0x6914},
		{api.Header{Kind: api.KindUdp}, nil, 65535 - 17 - 8 - 8},
		{api.Header{Kind: api.KindRtp}, nil, 65535 - 17 - 20 - 20 - 0x8000},
		{api.Header{Kind: api.KindUdp, Tos: 255, Id: 65535, Fixed: 1, Ttl: 255}, []byte{1}, 65535 - 17 - 9 - 9 - 256},
	} {
		if got, e := packet.Udp(x.h, x.payload); got != x.want || e != api.OK {
			t.Errorf("%+v, %x: %d, %d; want %d", x.h, x.payload, got, e, x.want)
		}
	}
}

// The other fields of IPv4 and the checksum that stands in the header do not belong to it.
func TestUdpDependsOnNothingElse(t *testing.T) {
	for _, kind := range kinds {
		h := middle(kind)
		want, e := packet.Udp(h, []byte("radiolink"))
		if e != api.OK {
			t.Fatalf("error %d", e)
		}
		for _, f := range fields[:4] {
			for _, x := range []int{0, 1, f.most(kind)} {
				c := h
				*f.of(&c) = x
				if got, e := packet.Udp(c, []byte("radiolink")); got != want || e != api.OK {
					t.Errorf("%s %d: %d, %d; want %d", f.name, x, got, e, want)
				}
			}
		}
		for _, x := range []int{0, 1, 65535, want} {
			c := h
			c.Check = x
			if got, e := packet.Udp(c, []byte("radiolink")); got != want || e != api.OK {
				t.Errorf("Check %d: %d, %d; want %d", x, got, e, want)
			}
		}
	}
}

func TestUdpIsNever0(t *testing.T) {
	for _, kind := range kinds {
		for _, h := range []api.Header{{Kind: kind}, middle(kind), limit(kind)} {
			for _, n := range []int{2, 4, 100} {
				p := make([]byte, n)
				put(p, n-2, wantUdp(h, p))
				if got, e := packet.Udp(h, p); got != 65535 || e != api.OK {
					t.Errorf("%+v, %x: %d, %d; want 65535", h, p, got, e)
				}
			}
		}
	}
}

func TestUdpWithEachWord(t *testing.T) {
	for _, kind := range kinds {
		for x := range 65536 {
			p := []byte{byte(x / 256), byte(x % 256)}
			if got, e := packet.Udp(middle(kind), p); got != wantUdp(middle(kind), p) || e != api.OK {
				t.Fatalf("kind %d, %x: %d, %d; want %d", kind, p, got, e, wantUdp(middle(kind), p))
			}
		}
	}
}

func TestUdpErrors(t *testing.T) {
	for _, h := range wrong() {
		for _, p := range [][]byte{nil, {1, 2, 3}, make([]byte, 1473), make([]byte, 5000)} {
			if got, e := packet.Udp(h, p); got != 0 || e != api.ErrInvalid {
				t.Errorf("%+v, %d bytes: %d, %d", h, len(p), got, e)
			}
		}
	}
	for _, kind := range kinds {
		most := 1500 - size(kind)
		wantSum(t, limit(kind), bytes.Repeat([]byte{0xff}, most))
		for _, n := range []int{most + 1, most + 2, 1500, 1501, 65508, 65536} {
			if got, e := packet.Udp(middle(kind), make([]byte, n)); got != 0 || e != api.ErrSize {
				t.Errorf("kind %d, %d bytes: %d, %d", kind, n, got, e)
			}
		}
	}
}

// Consequences

func TestWhatParseReturnsBuiltAgain(t *testing.T) {
	for _, h := range headers() {
		for _, p := range [][]byte{nil, {0x80}, []byte("radiolink"), append([]byte{0x80}, "radiolink radiolink"...)} {
			b := wantPacket(h, p)
			got, payload, e := packet.Parse(b)
			if e != api.OK {
				t.Fatalf("%x: error %d", b, e)
			}
			if c := build(t, got, payload); !bytes.Equal(c, b) {
				t.Errorf("%x, built again: %x", b, c)
			}
		}
	}
	for _, kind := range kinds {
		for _, p := range fitting(kind) {
			b := wantPacket(limit(kind), p)
			got, payload, e := packet.Parse(b)
			if e != api.OK {
				t.Fatalf("%x: error %d", b, e)
			}
			if c := build(t, got, payload); !bytes.Equal(c, b) {
				t.Errorf("%x, built again: %x", b, c)
			}
		}
	}
}

func TestWhatBuildReturnsParsed(t *testing.T) {
	for _, h := range headers() {
		for _, p := range [][]byte{nil, {0x80}, []byte("radiolink"), []byte("radiolink radiolink")} {
			wantParse(t, build(t, h, p), h, p)
		}
	}
	left := 0
	for _, kind := range kinds {
		for _, p := range fitting(kind) {
			h := middle(kind)
			if !hidden(h, p) {
				wantParse(t, build(t, h, p), h, p)
				continue
			}
			left++
			got, payload, e := packet.Parse(build(t, h, p))
			if got.Kind != api.KindRtp || !bytes.Equal(payload, p[12:]) || e != api.OK {
				t.Errorf("%+v, %x: %+v, %x, %d", h, p, got, payload, e)
			}
		}
	}
	if left == 0 {
		t.Errorf("no payload begins as the headers of RTP do")
	}
}

func TestAChangedByteAmongTheFirst20(t *testing.T) {
	for _, kind := range kinds {
		for _, h := range []api.Header{{Kind: kind}, middle(kind), limit(kind)} {
			for _, p := range [][]byte{nil, []byte("radiolink")} {
				b := wantPacket(h, p)
				for at := range 20 {
					for change := 1; change < 256; change++ {
						c := bytes.Clone(b)
						c[at] ^= byte(change)
						wantNone(t, c, api.ErrForm)
					}
				}
			}
		}
	}
}
