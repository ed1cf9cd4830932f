package format_test

import (
	"bytes"
	"encoding/hex"
	"fmt"
	"math"
	"reflect"
	"strconv"
	"strings"
	"testing"

	"radiolink/api"
	"radiolink/format"
)

var kinds = []int{api.KindUdp, api.KindRtp}

// noKinds are numbers that are no kinds.
var noKinds = []int{math.MinInt, -2, -1, 0, 3, 4, 17, 256 + 1, 1<<32 + 2, math.MaxInt}

var formats = []int{api.FormatTiny, api.FormatShort, api.FormatLong, api.FormatRefresh, api.FormatFull, api.FormatRaw}

// part is a number of a packet in parts.
type part struct {
	name string
	of   func(s *api.Small) *int
}

var parts = []part{
	{"Context", func(s *api.Small) *int { return &s.Context }},
	{"Number", func(s *api.Small) *int { return &s.Number }},
	{"Time", func(s *api.Small) *int { return &s.Time }},
	{"Marker", func(s *api.Small) *int { return &s.Marker }},
	{"Id", func(s *api.Small) *int { return &s.Id }},
	{"Udp", func(s *api.Small) *int { return &s.Udp }},
	{"Check", func(s *api.Small) *int { return &s.Check }},
	{"Header.Tos", func(s *api.Small) *int { return &s.Header.Tos }},
	{"Header.Id", func(s *api.Small) *int { return &s.Header.Id }},
	{"Header.Fixed", func(s *api.Small) *int { return &s.Header.Fixed }},
	{"Header.Ttl", func(s *api.Small) *int { return &s.Header.Ttl }},
	{"Header.From", func(s *api.Small) *int { return &s.Header.From }},
	{"Header.To", func(s *api.Small) *int { return &s.Header.To }},
	{"Header.FromPort", func(s *api.Small) *int { return &s.Header.FromPort }},
	{"Header.ToPort", func(s *api.Small) *int { return &s.Header.ToPort }},
	{"Header.Check", func(s *api.Small) *int { return &s.Header.Check }},
	{"Header.Marker", func(s *api.Small) *int { return &s.Header.Marker }},
	{"Header.Type", func(s *api.Small) *int { return &s.Header.Type }},
	{"Header.Seq", func(s *api.Small) *int { return &s.Header.Seq }},
	{"Header.Time", func(s *api.Small) *int { return &s.Header.Time }},
	{"Header.Source", func(s *api.Small) *int { return &s.Header.Source }},
	{"Dynamic.Stride", func(s *api.Small) *int { return &s.Dynamic.Stride }},
	{"Dynamic.Follow", func(s *api.Small) *int { return &s.Dynamic.Follow }},
}

const (
	word = 1<<16 - 1
	long = 1<<32 - 1
)

// dynamicMost has the greatest values of the parts of the dynamic part and the check value, for KindUdp.
var dynamicMost = map[string]int{"Context": 15, "Check": 255, "Header.Tos": 255, "Header.Ttl": 255, "Header.Fixed": 1, "Header.Id": word, "Header.Check": word}

// rtpMost has those that KindRtp has in addition.
var rtpMost = map[string]int{"Header.Marker": 1, "Header.Type": 127, "Header.Seq": word, "Header.Time": long, "Dynamic.Stride": word, "Dynamic.Follow": 1}

// staticMost has those that FormatFull has in addition, but for Source.
var staticMost = map[string]int{"Header.From": long, "Header.To": long, "Header.FromPort": word, "Header.ToPort": word}

// most returns the greatest values of the parts that a format has; the others are 0.
func most(f, kind int) map[string]int {
	rtp := kind == api.KindRtp
	m := map[string]int{}
	add := func(l map[string]int) {
		for name, x := range l {
			m[name] = x
		}
	}
	switch f {
	case api.FormatTiny:
		add(map[string]int{"Context": 15, "Udp": word, "Number": 15, "Check": 7})
	case api.FormatShort:
		add(map[string]int{"Context": 15, "Udp": word, "Number": 31, "Check": 127})
		if rtp {
			add(map[string]int{"Marker": 1, "Time": word})
		}
	case api.FormatLong:
		add(map[string]int{"Context": 15, "Udp": word, "Number": word, "Check": 255})
		if rtp {
			add(map[string]int{"Number": 255, "Marker": 1, "Time": long, "Id": word})
		}
	case api.FormatRefresh, api.FormatFull:
		add(dynamicMost)
		if rtp {
			add(rtpMost)
		}
		if f == api.FormatFull {
			add(staticMost)
		}
		if f == api.FormatFull && rtp {
			add(map[string]int{"Header.Source": long})
		}
	}
	return m
}

// bare returns valid parts that are zero as far as they can be.
func bare(f, kind int) api.Small {
	if f == api.FormatRaw {
		return api.Small{Format: f}
	}
	return api.Small{Format: f, Header: api.Header{Kind: kind}}
}

// middle returns valid parts away from all limits, no two of whose bytes are the same.
func middle(f, kind int) api.Small {
	s := bare(f, kind)
	values := map[string]int{
		"Context": 6, "Number": 0x2bca, "Time": 0xfe1d2c3b, "Marker": 1, "Id": 0x4a5e, "Udp": 0x6f78, "Check": 0xb5,
		"Header.Tos": 0xb8, "Header.Id": 0x1234, "Header.Fixed": 1, "Header.Ttl": 0x3f, "Header.From": 0x0a010203, "Header.To": 0xc0a8fe7d,
		"Header.FromPort": 0x5ac1, "Header.ToPort": 0x139c, "Header.Check": 0x9e37, "Header.Marker": 1, "Header.Type": 0x60,
		"Header.Seq": 0x8765, "Header.Time": 0xfedcba98, "Header.Source": 0x13579bdf, "Dynamic.Stride": 0xa0b1, "Dynamic.Follow": 1,
	}
	m := most(f, kind)
	for _, p := range parts {
		*p.of(&s) = values[p.name] & m[p.name]
	}
	s.Payload = []byte{0xd0, 0x11, 0xe5}
	return s
}

// limit returns valid parts with all numbers and the payload at their greatest.
func limit(f, kind int) api.Small {
	s := bare(f, kind)
	m := most(f, kind)
	for _, p := range parts {
		*p.of(&s) = m[p.name]
	}
	s.Payload = bytes.Repeat([]byte{0x5a}, api.MaxPacket)
	return s
}

// with returns parts with one of the numbers replaced.
func with(s api.Small, p part, x int) api.Small {
	*p.of(&s) = x
	return s
}

func payloads() [][]byte {
	l := [][]byte{nil, {}, {0}, {0xff}, {0, 0}, {0xe5, 0x53}, []byte("radiolink")}
	for _, n := range []int{255, 256, 1459, 1460, 1472, api.MaxPacket - 1, api.MaxPacket} {
		l = append(l, bytes.Repeat([]byte{0xa7}, n))
	}
	return l
}

// valid returns valid parts in all formats: with each number at and near its limits, alone and beside others.
func valid() []api.Small {
	l := []api.Small{}
	for _, f := range formats {
		for _, kind := range kinds {
			m := most(f, kind)
			for _, s := range []api.Small{bare(f, kind), middle(f, kind), limit(f, kind)} {
				l = append(l, s)
				for _, p := range parts {
					for _, x := range []int{0, 1, 2, 3, 4, 7, 8, 16, 64, 128, 255, 256, 0x0102, 65534, 65536, 0x01020304, 1 << 31, m[p.name] / 2, m[p.name] - 1, m[p.name]} {
						if x >= 0 && x <= m[p.name] {
							l = append(l, with(s, p, x))
						}
					}
				}
				for _, payload := range payloads() {
					c := s
					c.Payload = payload
					l = append(l, c)
				}
			}
		}
	}
	return l
}

// wrong returns parts that are not valid in one number, in the kind, the format or the payload.
func wrong() []api.Small {
	l := []api.Small{{}}
	for _, f := range formats {
		for _, kind := range kinds {
			m := most(f, kind)
			for _, s := range []api.Small{bare(f, kind), middle(f, kind), limit(f, kind)} {
				for _, p := range parts {
					for _, x := range []int{-1, -2, -256, -1 << 16, -1 << 32, math.MinInt, m[p.name] + 1, m[p.name] + 2, m[p.name] + 256, m[p.name] + 1<<32, 1 << 40, math.MaxInt} {
						l = append(l, with(s, p, x))
					}
				}
				for _, x := range []int{math.MinInt, -1, 0, 7, 8, 1<<32 + 1, math.MaxInt} {
					c := s
					c.Format = x
					l = append(l, c)
				}
				for _, x := range noKinds {
					c := s
					c.Header.Kind = x
					if f != api.FormatRaw || x != 0 {
						l = append(l, c)
					}
				}
				for _, n := range []int{api.MaxPacket + 1, api.MaxPacket + 100, 1 << 17} {
					c := s
					c.Payload = make([]byte, n)
					l = append(l, c)
				}
			}
		}
	}
	for _, kind := range kinds {
		l = append(l, api.Small{Format: api.FormatRaw, Header: api.Header{Kind: kind}})
	}
	return l
}

// text is the model of a number in bits.
func text(n, x int) string {
	return fmt.Sprintf("%0*b", n, x)
}

func flag(x bool) int {
	if x {
		return 1
	}
	return 0
}

// dynamicText is the model of the dynamic part.
func dynamicText(s api.Small) string {
	h := s.Header
	b := text(8, h.Tos) + text(8, h.Ttl)
	b += text(1, h.Fixed) + text(1, flag(h.Check != 0)) + text(1, s.Dynamic.Follow) + text(1, h.Marker) + "0000"
	if h.Kind == api.KindUdp {
		return b + text(16, h.Id)
	}
	return b + text(8, h.Type) + text(16, h.Seq) + text(16, h.Id) + text(32, h.Time) + text(16, s.Dynamic.Stride)
}

// headText is the model of the bytes of a format.
func headText(s api.Small) string {
	h := s.Header
	udp := h.Kind == api.KindUdp
	switch {
	case s.Format == api.FormatTiny:
		return "0" + text(4, s.Number) + text(3, s.Check)
	case s.Format == api.FormatShort && udp:
		return "100" + text(5, s.Number) + text(8, s.Check)
	case s.Format == api.FormatShort:
		return "10" + text(1, s.Marker) + text(5, s.Number) + text(16, s.Time) + text(8, s.Check)
	case s.Format == api.FormatLong && udp:
		return "11000000" + text(16, s.Number) + text(8, s.Check)
	case s.Format == api.FormatLong:
		return "1100000" + text(1, s.Marker) + text(8, s.Number) + text(32, s.Time) + text(16, s.Id) + text(8, s.Check)
	case s.Format == api.FormatRefresh:
		return "11010000" + dynamicText(s) + text(8, s.Check)
	case s.Format == api.FormatFull:
		b := "11010001" + text(8, h.Kind) + text(32, h.From) + text(32, h.To) + text(16, h.FromPort) + text(16, h.ToPort)
		if !udp {
			b += text(32, h.Source)
		}
		return b + dynamicText(s) + text(8, s.Check)
	}
	return "11010010"
}

// encoded is the model of Encode for valid parts.
func encoded(s api.Small) []byte {
	b := ""
	if s.Context > 0 {
		b = "1110" + text(4, s.Context)
	}
	b += headText(s)
	if s.Format >= api.FormatRefresh && s.Header.Check != 0 {
		b += text(16, s.Header.Check)
	}
	if s.Format < api.FormatRefresh && s.Udp != 0 {
		b += text(16, s.Udp)
	}
	result := []byte{}
	for i := 0; i < len(b); i += 8 {
		x, err := strconv.ParseUint(b[i:i+8], 2, 8)
		if err != nil {
			panic(err)
		}
		result = append(result, byte(x))
	}
	return append(result, s.Payload...)
}

// equal tells whether two packets in parts are equal; a payload without bytes may be nil.
func equal(a, b api.Small) bool {
	x, y := a.Payload, b.Payload
	a.Payload, b.Payload = nil, nil
	return bytes.Equal(x, y) && reflect.DeepEqual(a, b)
}

func unhex(t *testing.T, s string) []byte {
	t.Helper()
	b, err := hex.DecodeString(strings.ReplaceAll(s, " ", ""))
	if err != nil {
		t.Fatal(err)
	}
	return b
}

// P8.1

func TestValid(t *testing.T) {
	for _, s := range valid() {
		if !format.Valid(s) {
			t.Fatalf("%+v is valid", s)
		}
	}
	for _, s := range wrong() {
		if format.Valid(s) {
			t.Fatalf("%+v is not valid", s)
		}
	}
}

func TestEncode(t *testing.T) {
	for _, s := range valid() {
		want := encoded(s)
		if got, e := format.Encode(s); !bytes.Equal(got, want) || e != api.OK {
			t.Fatalf("%+v: %x, %d; want %x", s, got, e, want)
		}
	}
	for _, s := range wrong() {
		if got, e := format.Encode(s); len(got) > 0 || e != api.ErrInvalid {
			t.Fatalf("%+v: %x, %d", s, got, e)
		}
	}
}

// Bytes that are written down by hand from the table of the chapter.
func TestEncodeBytes(t *testing.T) {
	rtp := api.Header{Kind: api.KindRtp, Tos: 0xb8, Id: 0x1234, Fixed: 1, Ttl: 0x40, From: 0x0a000001, To: 0x0a000002, FromPort: 0x1388, ToPort: 0x1389, Check: 0xbeef, Marker: 1, Type: 0x60, Seq: 0x0203, Time: 0x04050607, Source: 0x08090a0b}
	udp := api.Header{Kind: api.KindUdp, Tos: 1, Id: 0x0203, Ttl: 4, From: 5, To: 6, FromPort: 7, ToPort: 8}
	dynamic := rtp
	dynamic.From, dynamic.To, dynamic.FromPort, dynamic.ToPort, dynamic.Source = 0, 0, 0, 0, 0
	for _, x := range []struct {
		s    api.Small
		want string
	}{
		{api.Small{Format: api.FormatTiny, Number: 10, Check: 3, Header: api.Header{Kind: api.KindRtp}}, "53"},
		{api.Small{Format: api.FormatTiny, Context: 15, Number: 15, Check: 7, Udp: 0x0100, Header: api.Header{Kind: api.KindUdp}, Payload: []byte{9}}, "ef 7f 0100 09"},
		{api.Small{Format: api.FormatShort, Marker: 1, Number: 1, Time: 0x1234, Check: 0x56, Header: api.Header{Kind: api.KindRtp}}, "a1 1234 56"},
		{api.Small{Format: api.FormatShort, Context: 1, Number: 31, Check: 0x7f, Udp: 65535, Header: api.Header{Kind: api.KindUdp}}, "e1 9f 7f ffff"},
		{api.Small{Format: api.FormatLong, Marker: 1, Number: 0x11, Time: 0x22334455, Id: 0x6677, Check: 0x88, Header: api.Header{Kind: api.KindRtp}}, "c1 11 22334455 6677 88"},
		{api.Small{Format: api.FormatLong, Number: 0x1122, Check: 0x33, Header: api.Header{Kind: api.KindUdp}}, "c0 1122 33"},
		{api.Small{Format: api.FormatRefresh, Context: 2, Header: dynamic, Dynamic: api.Dynamic{Stride: 160, Follow: 1}, Check: 0x99, Payload: []byte{1, 2}}, "e2 d0 b8 40 f0 60 0203 1234 04050607 00a0 99 beef 0102"},
		{api.Small{Format: api.FormatRefresh, Header: api.Header{Kind: api.KindUdp, Fixed: 1, Id: 5}, Check: 1}, "d0 00 00 80 0005 01"},
		{api.Small{Format: api.FormatFull, Header: rtp, Dynamic: api.Dynamic{Stride: 160}, Check: 0x77}, "d1 02 0a000001 0a000002 1388 1389 08090a0b b8 40 d0 60 0203 1234 04050607 00a0 77 beef"},
		{api.Small{Format: api.FormatFull, Context: 3, Header: udp, Check: 0xff, Payload: []byte{0}}, "e3 d1 01 00000005 00000006 0007 0008 01 04 00 0203 ff 00"},
		{api.Small{Format: api.FormatRaw, Payload: []byte{1, 2, 3}}, "d2 010203"},
		{api.Small{Format: api.FormatRaw}, "d2"},
	} {
		if got, e := format.Encode(x.s); !bytes.Equal(got, unhex(t, x.want)) || e != api.OK {
			t.Errorf("%+v: %x, %d; want %s", x.s, got, e, x.want)
		}
	}
}

func TestEncodeSharesNothing(t *testing.T) {
	for _, f := range formats {
		for _, kind := range kinds {
			s := middle(f, kind)
			payload := make([]byte, 3, 100)
			copy(payload, s.Payload)
			s.Payload = payload
			before := bytes.Clone(payload[:100])
			b, _ := format.Encode(s)
			for i := range b {
				b[i]++
			}
			if !bytes.Equal(payload[:100], before) {
				t.Errorf("format %d: the payload has changed", f)
			}
			again, _ := format.Encode(s)
			if !bytes.Equal(again, encoded(s)) {
				t.Errorf("format %d: two results share memory", f)
			}
		}
	}
}

// P8.2

// firstFormat is the model of the format with which a byte begins, or 0.
func firstFormat(x byte) int {
	b := text(8, int(x))
	switch {
	case strings.HasPrefix(b, "0"):
		return api.FormatTiny
	case strings.HasPrefix(b, "10"):
		return api.FormatShort
	case b == "11000000", b == "11000001":
		return api.FormatLong
	case b == "11010000":
		return api.FormatRefresh
	case b == "11010001":
		return api.FormatFull
	case b == "11010010":
		return api.FormatRaw
	}
	return 0
}

// peeked is the model of Peek.
func peeked(b []byte) (context, f int, e api.Errno) {
	if len(b) == 0 {
		return 0, 0, api.ErrEnd
	}
	if b[0] < 0xe0 || b[0] > 0xef {
		if firstFormat(b[0]) == 0 {
			return 0, 0, api.ErrForm
		}
		return 0, firstFormat(b[0]), api.OK
	}
	if len(b) == 1 {
		return 0, 0, api.ErrEnd
	}
	f = firstFormat(b[1])
	if b[0] == 0xe0 || f == 0 || f == api.FormatRaw {
		return 0, 0, api.ErrForm
	}
	return int(b[0]) - 0xe0, f, api.OK
}

func wantPeek(t *testing.T, b []byte) {
	t.Helper()
	context, f, e := peeked(b)
	gotContext, gotFormat, gotE := format.Peek(b)
	if gotContext != context || gotFormat != f || gotE != e {
		t.Fatalf("%x: %d, %d, %d; want %d, %d, %d", b, gotContext, gotFormat, gotE, context, f, e)
	}
}

func TestPeek(t *testing.T) {
	wantPeek(t, nil)
	wantPeek(t, []byte{})
	for x := range 256 {
		wantPeek(t, []byte{byte(x)})
		for y := range 256 {
			wantPeek(t, []byte{byte(x), byte(y)})
			wantPeek(t, []byte{byte(x), byte(y), 0})
			wantPeek(t, []byte{byte(x), byte(y), 0xd2, 0x53})
		}
	}
}

func TestPeekOfWhatIsEncoded(t *testing.T) {
	for _, s := range valid() {
		b, _ := format.Encode(s)
		if context, f, e := format.Peek(b); context != s.Context || f != s.Format || e != api.OK {
			t.Fatalf("%+v: %d, %d, %d", s, context, f, e)
		}
	}
}

// P8.3

// scan reads numbers from bits.
type scan struct {
	rest  string
	ended bool
}

func (r *scan) take(n int) int {
	if len(r.rest) < n {
		r.ended = true
	}
	if r.ended {
		return 0
	}
	x, err := strconv.ParseUint(r.rest[:n], 2, 64)
	if err != nil {
		panic(err)
	}
	r.rest = r.rest[n:]
	return int(x)
}

func (r *scan) static(h *api.Header) {
	h.From, h.To, h.FromPort, h.ToPort = r.take(32), r.take(32), r.take(16), r.take(16)
	if h.Kind == api.KindRtp {
		h.Source = r.take(32)
	}
}

// dynamic returns whether there is a checksum, and whether the last four bits are 0.
func (r *scan) dynamic(s *api.Small) (sum, zero bool) {
	h := &s.Header
	h.Tos, h.Ttl, h.Fixed = r.take(8), r.take(8), r.take(1)
	sum = r.take(1) == 1
	s.Dynamic.Follow, h.Marker = r.take(1), r.take(1)
	zero = r.take(4) == 0
	if h.Kind == api.KindUdp {
		h.Id = r.take(16)
		return sum, zero && s.Dynamic.Follow == 0 && h.Marker == 0
	}
	h.Type, h.Seq, h.Id, h.Time, s.Dynamic.Stride = r.take(8), r.take(16), r.take(16), r.take(32), r.take(16)
	return sum, zero && h.Type < 128
}

// decoded is the model of Decode behind Peek, for bytes without that of the context.
func decoded(b []byte, context, f, kind int, checked bool) (api.Small, api.Errno) {
	s := api.Small{Context: context, Format: f}
	if f == api.FormatRaw {
		if len(b)-1 > api.MaxPacket {
			return api.Small{}, api.ErrForm
		}
		s.Payload = b[1:]
		return s, api.OK
	}
	if f == api.FormatFull {
		if len(b) == 1 {
			return api.Small{}, api.ErrEnd
		}
		kind = int(b[1])
		if kind != api.KindUdp && kind != api.KindRtp {
			return api.Small{}, api.ErrForm
		}
	} else if kind != api.KindUdp && kind != api.KindRtp {
		return api.Small{}, api.ErrKind
	}
	s.Header.Kind = kind
	rtp := kind == api.KindRtp
	all := ""
	for _, x := range b[:min(len(b), 50)] {
		all += text(8, int(x))
	}
	r := &scan{rest: all}
	right := true
	sum := checked
	switch f {
	case api.FormatTiny:
		r.take(1)
		s.Number, s.Check = r.take(4), r.take(3)
	case api.FormatShort:
		r.take(2)
		s.Marker, s.Number = r.take(1), r.take(5)
		if rtp {
			s.Time = r.take(16)
		}
		s.Check = r.take(8)
		right = s.Check < 128 && (rtp || s.Marker == 0)
	case api.FormatLong:
		r.take(7)
		s.Marker = r.take(1)
		if rtp {
			s.Number, s.Time, s.Id = r.take(8), r.take(32), r.take(16)
		} else {
			s.Number = r.take(16)
		}
		s.Check = r.take(8)
		right = rtp || s.Marker == 0
	case api.FormatRefresh:
		r.take(8)
		sum, right = r.dynamic(&s)
		s.Check = r.take(8)
	case api.FormatFull:
		r.take(16)
		r.static(&s.Header)
		sum, right = r.dynamic(&s)
		s.Check = r.take(8)
	}
	if sum {
		x := r.take(16)
		right = right && x != 0
		if f == api.FormatRefresh || f == api.FormatFull {
			s.Header.Check = x
		} else {
			s.Udp = x
		}
	}
	if r.ended {
		return api.Small{}, api.ErrEnd
	}
	s.Payload = b[(len(all)-len(r.rest))/8:]
	if !right || len(s.Payload) > api.MaxPacket {
		return api.Small{}, api.ErrForm
	}
	return s, api.OK
}

func wantDecode(t *testing.T, b []byte, kind int, checked bool) {
	t.Helper()
	want := api.Small{}
	context, f, e := peeked(b)
	if e == api.OK {
		rest := b
		if context > 0 {
			rest = b[1:]
		}
		want, e = decoded(rest, context, f, kind, checked)
	}
	got, gotE := format.Decode(b, kind, checked)
	if !equal(got, want) || gotE != e {
		t.Fatalf("%x, kind %d, %t: %+v, %d; want %+v, %d", b, kind, checked, got, gotE, want, e)
	}
}

// someBytes are bytes with single bits, at limits and at those of kinds and formats.
var someBytes = []byte{0, 1, 2, 3, 4, 8, 16, 32, 64, 79, 80, 127, 128, 129, 160, 191, 192, 193, 194, 207, 208, 209, 210, 211, 223, 224, 225, 229, 239, 240, 254, 255}

func wantAllDecodes(t *testing.T, b []byte) {
	t.Helper()
	for _, checked := range []bool{false, true} {
		for _, kind := range kinds {
			wantDecode(t, b, kind, checked)
		}
		for _, kind := range noKinds {
			wantDecode(t, b, kind, checked)
		}
	}
}

func TestDecodeOfFewBytes(t *testing.T) {
	wantAllDecodes(t, nil)
	wantAllDecodes(t, []byte{})
	for x := range 256 {
		wantAllDecodes(t, []byte{byte(x)})
		for _, y := range someBytes {
			b := []byte{byte(x), y, 0, 0, 0}
			for n := 2; n <= 5; n++ {
				wantAllDecodes(t, b[:n])
			}
			b[3] = 1
			wantAllDecodes(t, b)
		}
	}
}

// Decode takes the parts that were encoded, whatever does not matter for the format.
func TestDecode(t *testing.T) {
	for _, s := range valid() {
		b := encoded(s)
		for _, checked := range []bool{false, true} {
			for _, kind := range []int{api.KindUdp, api.KindRtp, 0, -1, 3} {
				wantDecode(t, b, kind, checked)
			}
		}
		kind, checked := s.Header.Kind, s.Udp != 0
		if got, e := format.Decode(b, kind, checked); !equal(got, s) || e != api.OK {
			t.Fatalf("%+v: %+v, %d", s, got, e)
		}
		if s.Format < api.FormatRefresh {
			continue
		}
		if got, e := format.Decode(b, kind, true); !equal(got, s) || e != api.OK {
			t.Fatalf("%+v, checked: %+v, %d", s, got, e)
		}
		if s.Format == api.FormatRefresh {
			continue
		}
		for _, kind := range append([]int{api.KindUdp, api.KindRtp}, noKinds...) {
			if got, e := format.Decode(b, kind, checked); !equal(got, s) || e != api.OK {
				t.Fatalf("%+v, kind %d: %+v, %d", s, kind, got, e)
			}
		}
	}
}

// Each beginning of the bytes, and each with a byte that was replaced.
func TestDecodeOfOtherBytes(t *testing.T) {
	for _, f := range formats {
		for _, kind := range kinds {
			for _, s := range []api.Small{bare(f, kind), middle(f, kind)} {
				b := encoded(s)
				for n := range b {
					wantAllDecodes(t, b[:n])
				}
				for i := range b {
					for _, x := range someBytes {
						c := bytes.Clone(b)
						c[i] = x
						wantAllDecodes(t, c)
						if x < 4 || x > 252 {
							wantAllDecodes(t, c[:len(c)-1])
							wantAllDecodes(t, c[:i+1])
						}
					}
				}
			}
		}
	}
}

func TestDecodeErrors(t *testing.T) {
	udp, rtp := api.KindUdp, api.KindRtp
	full := "d1 02 0a000001 0a000002 1388 1389 08090a0b b8 40 50 60 0203 1234 04050607 00a0 77"
	for _, x := range []struct {
		b       string
		kind    int
		checked bool
		want    api.Errno
	}{
		{"", 0, false, api.ErrEnd},
		{"e5", 0, true, api.ErrEnd},
		{"e0 53", 0, false, api.ErrForm},
		{"f0 00 00 00", udp, false, api.ErrForm},
		{"e5 d2 00", udp, false, api.ErrForm},
		{"53", 0, false, api.ErrKind},
		{"53", 3, true, api.ErrKind},
		{"53", udp, true, api.ErrEnd},
		{"53 01", udp, true, api.ErrEnd},
		{"53 00 00", rtp, true, api.ErrForm},
		{"53 00 01", rtp, true, api.OK},
		{"a1 05", udp, false, api.ErrForm},
		{"a1", udp, false, api.ErrEnd},
		{"a1 05", 0, false, api.ErrKind},
		{"81 85", udp, false, api.ErrForm},
		{"81 85", rtp, false, api.ErrEnd},
		{"81 00 00 85", rtp, false, api.ErrForm},
		{"c1 00 00 00", udp, false, api.ErrForm},
		{"c1 00 00", udp, false, api.ErrEnd},
		{"c0 00 00", udp, false, api.ErrEnd},
		{"c0 00 00 00", rtp, false, api.ErrEnd},
		{"d0 00 00 01 0000 00", udp, false, api.ErrForm},
		{"d0 00 00 10 0000 00", udp, false, api.ErrForm},
		{"d0 00 00 20 0000 00", udp, false, api.ErrForm},
		{"d0 00 00 40 0000 00", udp, false, api.ErrEnd},
		{"d0 00 00 4f 0000 00 00", udp, true, api.ErrEnd},
		{"d0 00 00 40 0000 00 0000", udp, true, api.ErrForm},
		{"d0 00 00 40 0000 00 0001", udp, false, api.OK},
		{"d0 00 00 00 0000 00", udp, true, api.OK},
		{"d0 00 00 00 0000 00", 0, true, api.ErrKind},
		{"d0", 0, true, api.ErrKind},
		{"d0 00 00 00 80 0000 0000 00000000 0000 00", rtp, true, api.ErrForm},
		{"d0 00 00 00 7f 0000 0000 00000000 0000 00", rtp, true, api.OK},
		{"d1", 0, false, api.ErrEnd},
		{"d1 00", 0, false, api.ErrForm},
		{"d1 03", udp, false, api.ErrForm},
		{"d1 01", 0, false, api.ErrEnd},
		{full, 0, false, api.ErrEnd},
		{full + "00", 0, false, api.ErrEnd},
		{full + "0000", 0, false, api.ErrForm},
		{full + "0001", 0, false, api.OK},
		{"d2", 0, false, api.OK},
	} {
		s, e := format.Decode(unhex(t, x.b), x.kind, x.checked)
		if e != x.want || e != api.OK && !equal(s, api.Small{}) {
			t.Errorf("%s, %d, %t: %+v, %d; want %d", x.b, x.kind, x.checked, s, e, x.want)
		}
	}
}

func TestDecodeOfLongPayloads(t *testing.T) {
	for _, f := range formats {
		for _, kind := range kinds {
			s := middle(f, kind)
			s.Payload = nil
			b := encoded(s)
			for _, n := range []int{api.MaxPacket, api.MaxPacket + 1, api.MaxPacket + 2, 5000, 1 << 17} {
				wantAllDecodes(t, append(bytes.Clone(b), make([]byte, n)...))
			}
		}
	}
}

func TestDecodeSharesNothing(t *testing.T) {
	for _, f := range formats {
		for _, kind := range kinds {
			s := middle(f, kind)
			b := encoded(s)
			one, _ := format.Decode(b, kind, true)
			two, _ := format.Decode(b, kind, true)
			for i := range one.Payload {
				one.Payload[i]++
			}
			if !bytes.Equal(b, encoded(s)) || !equal(two, s) {
				t.Errorf("format %d: the payload shares memory", f)
			}
		}
	}
}

// Consequences

func TestEncodeOfDecode(t *testing.T) {
	for _, f := range formats {
		for _, kind := range kinds {
			for _, s := range []api.Small{bare(f, kind), middle(f, kind)} {
				b := encoded(s)
				for i := range b {
					for x := range 256 {
						c := bytes.Clone(b)
						c[i] = byte(x)
						for _, checked := range []bool{false, true} {
							d, e := format.Decode(c, kind, checked)
							if e != api.OK {
								continue
							}
							if again, e := format.Encode(d); !format.Valid(d) || !bytes.Equal(again, c) || e != api.OK {
								t.Fatalf("%x: %+v, %x, %d", c, d, again, e)
							}
						}
					}
				}
			}
		}
	}
}

// Examples

func TestExamples(t *testing.T) {
	s, e := format.Decode([]byte{0b0_1010_011}, api.KindRtp, false)
	if s.Number != 10 || s.Check != 3 || e != api.OK {
		t.Errorf("tiny: %+v, %d", s, e)
	}
	if context, f, e := format.Peek([]byte{0x53}); context != 0 || f != api.FormatTiny || e != api.OK {
		t.Errorf("Peek of 53: %d, %d, %d", context, f, e)
	}
	full := middle(api.FormatFull, api.KindRtp)
	full.Context, full.Payload = 0, []byte{7, 8, 9}
	if b, _ := format.Encode(full); len(b) != 33+2+3 {
		t.Errorf("full: %d bytes", len(b))
	}
	if _, _, e := format.Peek([]byte{0b11110000}); e != api.ErrForm {
		t.Errorf("feedback: %d", e)
	}
}
