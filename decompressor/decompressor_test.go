package decompressor_test

import (
	"bytes"
	"fmt"
	"math"
	"reflect"
	"testing"

	"radiolink/api"
	"radiolink/check"
	"radiolink/decompressor"
	"radiolink/flow"
	"radiolink/format"
	"radiolink/packet"
)

var modes = []int{api.ModeOneWay, api.ModeOptimistic, api.ModeReliable}

var kinds = []int{api.KindUdp, api.KindRtp}

var smallFormats = []int{api.FormatTiny, api.FormatShort, api.FormatLong}

var toldFormats = []int{api.FormatRefresh, api.FormatFull}

var formats = append(append([]int{}, smallFormats...), toldFormats...)

var states = []int{api.StateNone, api.StateStatic, api.StateFull}

const (
	word = 1<<16 - 1
	long = 1<<32 - 1
)

// extremes are numbers that are none of a decompressor's.
var extremes = []int{math.MinInt, -1 << 40, -1, 1 << 32, 1 << 40, math.MaxInt}

func speech() api.Header {
	return api.Header{Kind: api.KindRtp, Tos: 184, Id: 65533, Fixed: 1, Ttl: 64, From: 0x0a000001, To: 0xc0a80102, FromPort: 5004, ToPort: 5006,
		Type: 96, Seq: 65530, Time: long - 300, Source: 0x11223344}
}

func plain() api.Header {
	return api.Header{Kind: api.KindUdp, Tos: 3, Id: 65530, Ttl: 64, From: 1, To: 2, FromPort: 3, ToPort: 4}
}

func first(kind int) api.Header {
	if kind == api.KindRtp {
		return speech()
	}
	return plain()
}

// rule returns the parameters by which later goes on.
func rule(kind int) api.Dynamic {
	if kind == api.KindUdp {
		return api.Dynamic{}
	}
	return api.Dynamic{Stride: 160, Follow: 1}
}

// later returns the header that is some regular steps behind another one.
func later(h api.Header, steps int) api.Header {
	return flow.Predict(rule(h.Kind), h, flow.Number(h)+steps)
}

// plus returns a header with changes.
func plus(h api.Header, changes ...func(h *api.Header)) api.Header {
	for _, f := range changes {
		f(&h)
	}
	return h
}

func checked(h *api.Header) { h.Check = 0x1234 }

func marked(h *api.Header) { h.Marker = 1 }

func build(t testing.TB, h api.Header, payload ...byte) []byte {
	t.Helper()
	b, e := packet.Build(h, payload)
	if e != api.OK {
		t.Fatalf("Build of %+v: error %d", h, e)
	}
	return b
}

func fresh(t testing.TB, mode int) api.Decompressor {
	t.Helper()
	d, e := decompressor.New(mode)
	if e != api.OK {
		t.Fatalf("New(%d): error %d", mode, e)
	}
	return d
}

// context returns a context in a state with errors.
func context(state int, last api.Header, errors int) api.Receiving {
	if state == api.StateNone {
		return api.Receiving{Errors: errors}
	}
	return api.Receiving{State: state, Last: last, Dynamic: rule(last.Kind), Errors: errors}
}

// knowing returns a decompressor in one of whose contexts something is known.
func knowing(t testing.TB, mode, at int, c api.Receiving) api.Decompressor {
	t.Helper()
	d := fresh(t, mode)
	d.Contexts[at] = c
	if !decompressor.Valid(d) {
		t.Fatalf("not valid: %+v", c)
	}
	return d
}

func checkValue(h api.Header, f int) int {
	width := map[int]int{api.FormatTiny: 3, api.FormatShort: 7}[f]
	if width == 0 {
		width = 8
	}
	sum, _ := check.Sum(width, packet.Head(h))
	return sum
}

// small returns the parts of a header that is sent in a format.
func small(at, f int, h api.Header, d api.Dynamic, payload ...byte) api.Small {
	s := api.Small{Context: at, Format: f, Header: api.Header{Kind: h.Kind}, Check: checkValue(h, f), Payload: payload}
	rtp := h.Kind == api.KindRtp
	switch f {
	case api.FormatTiny:
		s.Number = flow.Number(h) % 16
	case api.FormatShort:
		s.Number = flow.Number(h) % 32
	case api.FormatLong:
		s.Number = flow.Number(h)
		if rtp {
			s.Number %= 256
		}
	case api.FormatRefresh:
		s.Header, s.Dynamic = h, d
		s.Header.From, s.Header.To, s.Header.FromPort, s.Header.ToPort, s.Header.Source = 0, 0, 0, 0, 0
		return s
	case api.FormatFull:
		s.Header, s.Dynamic = h, d
		return s
	}
	s.Udp = h.Check
	if rtp && f == api.FormatShort {
		s.Marker, s.Time = h.Marker, h.Time%65536
	}
	if rtp && f == api.FormatLong {
		s.Marker, s.Time, s.Id = h.Marker, h.Time, h.Id
	}
	return s
}

func encode(t testing.TB, s api.Small) []byte {
	t.Helper()
	b, e := format.Encode(s)
	if e != api.OK {
		t.Fatalf("Encode of %+v: error %d", s, e)
	}
	return b
}

// sent returns the bytes of a header that is sent in a format.
func sent(t testing.TB, at, f int, h api.Header, payload ...byte) []byte {
	t.Helper()
	return encode(t, small(at, f, h, rule(h.Kind), payload...))
}

// wrong returns the bytes of a header that is sent in a format with a wrong check value.
func wrong(t testing.TB, at, f int, h api.Header, payload ...byte) []byte {
	t.Helper()
	s := small(at, f, h, rule(h.Kind), payload...)
	s.Check ^= 1
	if f == api.FormatTiny {
		// No number that is tried has this one.
		s.Check = freeCheck(t, h)
	}
	return encode(t, s)
}

// freeCheck returns a check value of width 3 that neither a header nor the one 16 steps ahead has.
func freeCheck(t testing.TB, h api.Header) int {
	t.Helper()
	for x := range 8 {
		if x != checkValue(h, api.FormatTiny) && x != checkValue(withCheckOf(later(h, 16), h), api.FormatTiny) {
			return x
		}
	}
	t.Fatal("no check value is free")
	return 0
}

func withCheckOf(h, from api.Header) api.Header {
	h.Check = from.Check
	return h
}

// same tells whether two results are equal, with no bytes, contexts or feedback as nil or not.
func same(a, b result) bool {
	return a.next.Mode == b.next.Mode && len(a.next.Contexts) == len(b.next.Contexts) &&
		(len(a.next.Contexts) == 0 || reflect.DeepEqual(a.next.Contexts, b.next.Contexts)) &&
		bytes.Equal(a.packet, b.packet) && a.e == b.e &&
		len(a.back) == len(b.back) && (len(a.back) == 0 || a.back[0] == b.back[0])
}

// result is what Decompress returns.
type result struct {
	next   api.Decompressor
	packet []byte
	back   []api.Feedback
	e      api.Errno
}

func resultOf(next api.Decompressor, packet []byte, back []api.Feedback, e api.Errno) result {
	return result{next, packet, back, e}
}

// receive decompresses, and compares with the model.
func receive(t testing.TB, d api.Decompressor, b []byte) result {
	t.Helper()
	got := resultOf(decompressor.Decompress(d, b))
	want := resultOf(modelDecompress(d, b))
	if !same(got, want) {
		t.Fatalf("Decompress of %x by %+v:\n%+v, and not\n%+v", b, d, got, want)
	}
	if got.e != api.ErrInvalid && !decompressor.Valid(got.next) {
		t.Fatalf("behind %x not valid: %+v", b, got.next)
	}
	return got
}

// checkReceived checks what comes of b, as it is written out: the context at, the packet, the kind and number of feedback (a kind -1 for none), and the error.
func checkReceived(t *testing.T, name string, d api.Decompressor, b []byte, at int, c api.Receiving, out []byte, kind, number int, e api.Errno) {
	t.Helper()
	want := result{next: modelClone(d), packet: out, e: e}
	want.next.Contexts[at] = c
	if kind >= 0 {
		want.back = []api.Feedback{{Context: at, Kind: kind, Number: number}}
	}
	if got := receive(t, d, b); !same(got, want) {
		t.Errorf("%s: %x gives\n%+v, and not\n%+v", name, b, got, want)
	}
}

// checkKept checks that b gives an error and changes nothing, without feedback.
func checkKept(t *testing.T, name string, d api.Decompressor, b []byte, e api.Errno) {
	t.Helper()
	checkReceived(t, name, d, b, 0, d.Contexts[0], nil, -1, 0, e)
}

// P10.1

func TestNew(t *testing.T) {
	for _, mode := range append([]int{0, 1, 2, 3, 4, 5, 16, 17, 257}, extremes...) {
		d, e := decompressor.New(mode)
		if !between(mode, 1, 3) {
			if e != api.ErrRange || !reflect.DeepEqual(d, api.Decompressor{}) {
				t.Errorf("New(%d): %+v, %d", mode, d, e)
			}
			continue
		}
		if e != api.OK || d.Mode != mode || len(d.Contexts) != 16 || !decompressor.Valid(d) {
			t.Errorf("New(%d): %+v, %d", mode, d, e)
		}
		for i, c := range d.Contexts {
			if c != (api.Receiving{}) {
				t.Errorf("New(%d): context %d is %+v", mode, i, c)
			}
		}
	}
}

func checkValid(t *testing.T, name string, d api.Decompressor, want bool) {
	t.Helper()
	if got := decompressor.Valid(d); got != want || modelValid(d) != want {
		t.Errorf("%s: %v, %v by the model", name, got, modelValid(d))
	}
}

// checkContext checks whether a context is valid, wherever it stands.
func checkContext(t *testing.T, name string, c api.Receiving, want bool) {
	t.Helper()
	for _, mode := range modes {
		for _, at := range []int{0, 7, 15} {
			d := fresh(t, mode)
			d.Contexts[3] = context(api.StateFull, speech(), 1)
			d.Contexts[at] = c
			checkValid(t, fmt.Sprintf("%s, mode %d, context %d", name, mode, at), d, want)
		}
	}
}

func TestValidModes(t *testing.T) {
	for _, mode := range append([]int{0, 1, 2, 3, 4, 5, 16, 17, 257}, extremes...) {
		d := fresh(t, api.ModeOneWay)
		d.Mode = mode
		checkValid(t, fmt.Sprintf("mode %d", mode), d, between(mode, 1, 3))
	}
	checkValid(t, "zero", api.Decompressor{}, false)
}

func TestValidContexts(t *testing.T) {
	for _, mode := range modes {
		for n := range 40 {
			d := api.Decompressor{Mode: mode, Contexts: make([]api.Receiving, n)}
			checkValid(t, fmt.Sprintf("%d contexts", n), d, n == 16)
		}
		d := fresh(t, mode)
		for i := range d.Contexts {
			d.Contexts[i] = context(states[i%3], speech(), i%2)
		}
		checkValid(t, "several contexts of one flow", d, true)
	}
}

func TestValidNumbers(t *testing.T) {
	for _, kind := range kinds {
		for _, state := range states {
			for _, errors := range append([]int{0, 1, 2, 3, 4, 255, 256}, extremes...) {
				checkContext(t, fmt.Sprintf("kind %d, state %d, %d errors", kind, state, errors), context(state, first(kind), errors), between(errors, 0, 2))
			}
		}
		for _, state := range append([]int{0, 3, 4, 255, 256, 257, 258}, extremes...) {
			c := context(api.StateFull, first(kind), 0)
			c.State = state
			checkContext(t, fmt.Sprintf("kind %d, state %d with a header", kind, state), c, false)
			checkContext(t, fmt.Sprintf("state %d without a header", state), api.Receiving{State: state}, state == 0)
		}
	}
	for _, state := range []int{api.StateStatic, api.StateFull} {
		checkContext(t, "nothing known", api.Receiving{State: state}, false)
		checkContext(t, "no header", api.Receiving{State: state, Dynamic: rule(api.KindRtp)}, false)
		checkContext(t, "nothing but a kind", api.Receiving{State: state, Last: api.Header{Kind: api.KindUdp}}, true)
		checkContext(t, "nothing but a kind", api.Receiving{State: state, Last: api.Header{Kind: api.KindRtp}}, true)
	}
}

// A context in StateNone has nothing but Errors.
func TestValidNothing(t *testing.T) {
	h := reflect.TypeOf(api.Header{})
	for i := range h.NumField() {
		for _, x := range []int{-1, 1, 2} {
			c := api.Receiving{}
			reflect.ValueOf(&c.Last).Elem().Field(i).SetInt(int64(x))
			checkContext(t, "nothing but "+h.Field(i).Name, c, false)
		}
	}
	checkContext(t, "nothing but Stride", api.Receiving{Dynamic: api.Dynamic{Stride: 1}}, false)
	checkContext(t, "nothing but Follow", api.Receiving{Dynamic: api.Dynamic{Follow: 1}}, false)
	checkContext(t, "a header without a state", api.Receiving{Last: plain()}, false)
}

func TestValidHeaders(t *testing.T) {
	h := reflect.TypeOf(api.Header{})
	for _, kind := range kinds {
		for i := range h.NumField() {
			for _, x := range append([]int{0, 1, 2, 3, 127, 128, 255, 256, word, word + 1, long}, extremes...) {
				c := context(api.StateFull, first(kind), 0)
				c.Dynamic = api.Dynamic{}
				reflect.ValueOf(&c.Last).Elem().Field(i).SetInt(int64(x))
				for _, state := range []int{api.StateStatic, api.StateFull} {
					c.State = state
					checkContext(t, fmt.Sprintf("kind %d, %s %d", kind, h.Field(i).Name, x), c, packet.Valid(c.Last))
				}
			}
		}
	}
}

func TestValidDynamic(t *testing.T) {
	for _, state := range []int{api.StateStatic, api.StateFull} {
		for _, stride := range append([]int{0, 1, 160, word, word + 1}, extremes...) {
			for _, follow := range append([]int{0, 1, 2}, extremes...) {
				c := context(state, speech(), 0)
				c.Dynamic = api.Dynamic{Stride: stride, Follow: follow}
				checkContext(t, fmt.Sprintf("%+v", c.Dynamic), c, between(stride, 0, word) && between(follow, 0, 1))
				c.Last = plain()
				checkContext(t, fmt.Sprintf("%+v of KindUdp", c.Dynamic), c, stride == 0 && follow == 0)
			}
		}
	}
}

// P10.2: errors before the steps, and the steps 1 and 2

// anyDecompressors returns decompressors of all modes with contexts in all states.
func anyDecompressors(t testing.TB) []api.Decompressor {
	l := []api.Decompressor{}
	for _, mode := range modes {
		for _, kind := range kinds {
			for _, state := range states {
				for errors := range 3 {
					d := fresh(t, mode)
					for i := range d.Contexts {
						d.Contexts[i] = context((state+i)%3, first(kind), (errors+i)%3)
					}
					l = append(l, d)
				}
			}
		}
	}
	return l
}

func TestInvalid(t *testing.T) {
	bad := fresh(t, api.ModeOptimistic)
	bad.Contexts[15].Errors = 3
	for _, d := range []api.Decompressor{{}, {Mode: 1}, {Mode: 1, Contexts: make([]api.Receiving, 17)}, bad} {
		for _, b := range [][]byte{nil, {0xe1}, {0xff}, {0xd2}, {0xd2, 1}, {0x53}, sent(t, 0, api.FormatFull, speech()), sent(t, 3, api.FormatTiny, plain(), 1)} {
			next, out, back, e := decompressor.Decompress(d, b)
			if e != api.ErrInvalid || next.Mode != 0 || next.Contexts != nil || len(out) != 0 || len(back) != 0 {
				t.Errorf("%x by %+v: %+v, %x, %+v, %d", b, d, next, out, back, e)
			}
		}
	}
}

func TestPeek(t *testing.T) {
	for _, d := range anyDecompressors(t) {
		checkKept(t, "no byte", d, nil, api.ErrEnd)
		checkKept(t, "no byte", d, []byte{}, api.ErrEnd)
		for x := 0xe0; x <= 0xef; x++ {
			checkKept(t, "a context alone", d, []byte{byte(x)}, api.ErrEnd)
			checkKept(t, "FormatRaw with a context", d, []byte{byte(x), 0xd2, 1, 2}, api.ErrForm)
			checkKept(t, "two contexts", d, []byte{byte(x), 0xe1, 0x53}, api.ErrForm)
		}
		checkKept(t, "context 0", d, []byte{0xe0, 0x53}, api.ErrForm)
		for _, x := range []byte{0xc2, 0xcf, 0xd3, 0xdf, 0xf0, 0xf1, 0xf2, 0xff} {
			checkKept(t, "no format", d, []byte{x}, api.ErrForm)
			checkKept(t, "no format", d, []byte{x, 1, 2, 3, 4, 5, 6, 7, 8}, api.ErrForm)
			checkKept(t, "no format", d, []byte{0xe4, x, 1, 2, 3, 4, 5, 6, 7, 8}, api.ErrForm)
		}
	}
}

func TestRaw(t *testing.T) {
	for _, d := range anyDecompressors(t) {
		for _, b := range [][]byte{{0}, {1, 2, 3}, {0xd2}, {0xe0, 0xd2}, build(t, speech(), 1, 2), make([]byte, 1499), bytes.Repeat([]byte{0xee}, 1500)} {
			checkReceived(t, "FormatRaw", d, append([]byte{0xd2}, b...), 0, d.Contexts[0], b, -1, 0, api.OK)
		}
		checkKept(t, "an empty packet", d, []byte{0xd2}, api.ErrForm)
		checkKept(t, "a long packet", d, append([]byte{0xd2}, make([]byte, 1501)...), api.ErrForm)
		checkKept(t, "a longer packet", d, append([]byte{0xd2}, make([]byte, 4000)...), api.ErrForm)
	}
}

// Step 3

// leastState returns the state in which a format can be understood.
func leastState(f int) int {
	return []int{0, 2, 2, 2, 1, 0}[f]
}

func TestStates(t *testing.T) {
	for _, mode := range modes {
		for _, kind := range kinds {
			for _, at := range []int{0, 1, 15} {
				for _, f := range formats {
					for _, state := range states {
						checkState(t, mode, kind, at, f, state)
					}
				}
			}
		}
	}
}

func checkState(t *testing.T, mode, kind, at, f, state int) {
	t.Helper()
	last := first(kind)
	h := later(last, 1)
	name := fmt.Sprintf("mode %d, kind %d, context %d, format %d, state %d", mode, kind, at, f, state)
	for errors := range 3 {
		c := context(state, last, errors)
		d := knowing(t, mode, at, c)
		if state >= leastState(f) {
			if got := receive(t, d, sent(t, at, f, h, 1, 2)); got.e != api.OK || !bytes.Equal(got.packet, build(t, h, 1, 2)) {
				t.Errorf("%s: %+v", name, got)
			}
			continue
		}
		answer, number := api.StaticNack, 0
		if state == api.StateStatic {
			answer, number = api.Nack, flow.Number(last)
		}
		if mode == api.ModeOneWay {
			answer = -1
		}
		checkReceived(t, name, d, sent(t, at, f, h, 1, 2), at, c, nil, answer, number, api.ErrContext)
		// The context comes before what stands behind the first byte, and before the check value.
		b := sent(t, at, f, h)
		checkReceived(t, name+", cut", d, b[:1+min(at, 1)], at, c, nil, answer, number, api.ErrContext)
		checkReceived(t, name+", wrong", d, wrong(t, at, f, h), at, c, nil, answer, number, api.ErrContext)
		checkReceived(t, name+", long", d, append(b, make([]byte, 1600)...), at, c, nil, answer, number, api.ErrContext)
	}
}

// The state of another context does not matter.
func TestOtherContexts(t *testing.T) {
	for _, mode := range modes {
		d := knowing(t, mode, 5, context(api.StateFull, speech(), 1))
		for _, at := range []int{0, 4, 6, 15} {
			if got := receive(t, d, sent(t, at, api.FormatTiny, later(speech(), 1))); got.e != api.ErrContext || !reflect.DeepEqual(got.next, d) {
				t.Errorf("mode %d, context %d: %+v", mode, at, got)
			}
		}
	}
}

// Step 4

func TestCut(t *testing.T) {
	for _, mode := range modes {
		for _, kind := range kinds {
			for _, f := range formats {
				for _, change := range []func(*api.Header){func(*api.Header) {}, checked} {
					last := plus(first(kind), change)
					h := plus(later(last, 1), change)
					for _, at := range []int{0, 9} {
						d := knowing(t, mode, at, context(api.StateFull, last, 2))
						b := sent(t, at, f, h)
						for n := 1 + min(at, 1); n < len(b); n++ {
							checkKept(t, fmt.Sprintf("kind %d, format %d, %d bytes of it", kind, f, n), d, b[:n], api.ErrEnd)
						}
					}
				}
			}
		}
	}
}

// Whether there is a checksum follows from the last header, but for the formats that say it.
func TestChecksums(t *testing.T) {
	for _, kind := range kinds {
		last := plus(first(kind), checked)
		for _, f := range formats {
			d := knowing(t, api.ModeOptimistic, 0, context(api.StateFull, last, 1))
			h := plus(later(last, 1), func(h *api.Header) { h.Check = 0xfedc })
			if got := receive(t, d, sent(t, 0, f, h, 7)); got.e != api.OK || !bytes.Equal(got.packet, build(t, h, 7)) {
				t.Errorf("kind %d, format %d: %+v", kind, f, got)
			}
			h.Check = 0
			got := receive(t, d, sent(t, 0, f, h, 0, 0, 7))
			if want := f >= api.FormatRefresh; (got.e == api.OK) != want {
				t.Errorf("kind %d, format %d, without a checksum: %+v", kind, f, got)
			}
			if f <= api.FormatLong {
				checkKept(t, fmt.Sprintf("kind %d, format %d, the checksum 0", kind, f), d, sent(t, 0, f, h, 0, 0, 7), api.ErrForm)
			}
		}
	}
	d := knowing(t, api.ModeOneWay, 0, context(api.StateFull, speech(), 0))
	h := plus(later(speech(), 1), checked)
	if got := receive(t, d, sent(t, 0, api.FormatFull, h)); got.e != api.OK || got.next.Contexts[0].Last != h {
		t.Errorf("the first checksum: %+v", got)
	}
}

func TestForm(t *testing.T) {
	for _, mode := range modes {
		udp := knowing(t, mode, 0, context(api.StateFull, plain(), 2))
		short := sent(t, 0, api.FormatShort, later(plain(), 1))
		short[0] |= 0x20
		checkKept(t, "FormatShort of KindUdp with a marker", udp, short, api.ErrForm)
		checkKept(t, "FormatLong of KindUdp with a marker", udp, []byte{0xc1, 1, 2, 3}, api.ErrForm)
		for _, kind := range []byte{0, 3, 17, 255} {
			b := sent(t, 0, api.FormatFull, later(plain(), 1))
			b[1] = kind
			checkKept(t, "FormatFull of no kind", udp, b, api.ErrForm)
			checkKept(t, "FormatFull of no kind, cut", udp, b[:5], api.ErrForm)
		}
		for _, kind := range kinds {
			d := knowing(t, mode, 0, context(api.StateFull, first(kind), 2))
			for _, f := range formats {
				b := append(sent(t, 0, f, later(first(kind), 1)), make([]byte, 1501)...)
				checkKept(t, fmt.Sprintf("format %d, a long payload", f), d, b, api.ErrForm)
			}
			b := sent(t, 0, api.FormatRefresh, later(first(kind), 1))
			b[3] |= 1
			checkKept(t, "FormatRefresh with bits that must be 0", d, b, api.ErrForm)
		}
	}
}
