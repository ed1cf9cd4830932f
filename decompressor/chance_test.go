package decompressor_test

import (
	"bytes"
	"fmt"
	"math/rand"
	"reflect"
	"testing"

	"radiolink/api"
	"radiolink/compressor"
	"radiolink/decompressor"
	"radiolink/flow"
	"radiolink/format"
	"radiolink/packet"
)

// Consequences

// wander returns the header behind another one of its flow, mostly a regular one.
func wander(r *rand.Rand, h api.Header) api.Header {
	next := later(h, 1)
	next.Check = h.Check
	if h.Check != 0 {
		next.Check = 1 + r.Intn(word)
	}
	switch r.Intn(40) {
	case 0:
		next.Ttl = r.Intn(256)
	case 1:
		next.Check = r.Intn(2) * 0x4321
	case 2:
		next.Id = r.Intn(word + 1)
	case 3, 4:
		next = later(next, r.Intn(60))
	case 5:
		next = later(next, -r.Intn(60))
	}
	if h.Kind == api.KindUdp {
		return next
	}
	switch r.Intn(40) {
	case 0:
		next.Marker = 1
	case 1:
		next.Time = (next.Time + r.Intn(1<<18)) & long
	case 2:
		next.Time = r.Intn(long + 1)
	case 3:
		next.Seq = r.Intn(word + 1)
	}
	return next
}

// acknowledged returns the compressor behind acknowledgements, as chapter 11 says.
func acknowledged(c api.Compressor, back []api.Feedback) api.Compressor {
	for _, f := range back {
		s := &c.Contexts[f.Context]
		k := -1
		for i, h := range s.References {
			if f.Kind == api.Ack && flow.Number(h) == f.Number {
				k = i
			}
		}
		if k >= s.Series && k >= 0 {
			s.Full, s.Refresh = 0, 0
		}
		if k > 0 && c.Mode == api.ModeReliable {
			s.References = s.References[k:]
			s.Series = max(s.Series-k, 0)
		}
	}
	return c
}

// flows returns headers of several flows, with which packets come by turns.
func flows() []api.Header {
	l := []api.Header{}
	for i := range 18 {
		l = append(l, plus(first(kinds[i%2]), func(h *api.Header) { h.ToPort = i }))
	}
	return l
}

// way is a way on which messages are lost: run at most one after the other, with a chance of one in chance for each message to be the first of them.
type way struct {
	chance, run, left int
	ended             bool // the next message comes
}

func (w *way) loses(r *rand.Rand) bool {
	if w.left == 0 && !w.ended && r.Intn(w.chance) == 0 {
		w.left = 1 + r.Intn(w.run)
	}
	w.ended = w.left == 1
	if w.left == 0 {
		return false
	}
	w.left--
	return true
}

// If nothing is lost, the packets come out.
func TestRoundTrip(t *testing.T) {
	r := rand.New(rand.NewSource(20))
	seen := map[int]int{}
	for _, mode := range modes {
		for width := 1; width <= 8; width++ {
			for _, answered := range []bool{false, true} {
				checkRoundTrip(t, r, mode, width, answered, seen)
			}
		}
	}
	for _, f := range append([]int{api.FormatRaw}, formats...) {
		if seen[f] < 100 {
			t.Errorf("format %d came only %d times", f, seen[f])
		}
	}
}

// checkRoundTrip checks packets of several flows, and counts their formats.
func checkRoundTrip(t *testing.T, r *rand.Rand, mode, width int, answered bool, seen map[int]int) {
	t.Helper()
	c, _ := compressor.New(mode, width)
	d := fresh(t, mode)
	l := flows()
	for range 400 {
		i := r.Intn(1 + r.Intn(len(l)))
		l[i] = wander(r, l[i])
		b := build(t, l[i], make([]byte, r.Intn(5))...)
		if r.Intn(60) == 0 {
			b[r.Intn(20)]++ // no packet any more, which is sent in FormatRaw
		}
		var small []byte
		c, small, _ = compressor.Compress(c, b)
		got := receive(t, d, small)
		if got.e != api.OK || !bytes.Equal(got.packet, b) {
			t.Fatalf("mode %d, width %d: %x as %x gives %x, %d", mode, width, b, small, got.packet, got.e)
		}
		_, f, _ := format.Peek(small)
		seen[f]++
		d = got.next
		if answered {
			c = acknowledged(c, got.back)
		}
	}
}

// In ModeReliable what comes undamaged is right, whatever is lost; in the other modes if fewer packets than the width are lost one after the other.
func TestLosses(t *testing.T) {
	r := rand.New(rand.NewSource(21))
	for _, mode := range modes {
		for width := 2; width <= 8; width++ {
			for _, kind := range kinds {
				there := &way{chance: 3, run: width - 1}
				if mode == api.ModeReliable {
					there.run = 20
				}
				checkLosses(t, r, mode, width, first(kind), there)
			}
		}
	}
}

// checkLosses checks the packets of a flow whose numbers go on by one, on a way there and one back for acknowledgements.
func checkLosses(t *testing.T, r *rand.Rand, mode, width int, h api.Header, there *way) {
	t.Helper()
	back := &way{chance: 2, run: 3}
	c, _ := compressor.New(mode, width)
	d := fresh(t, mode)
	come := 0
	for range 600 {
		next := wander(r, h)
		next.Id, next.Seq = later(h, 1).Id, later(h, 1).Seq
		h = next
		var small []byte
		b := build(t, h, 1)
		c, small, _ = compressor.Compress(c, b)
		if there.loses(r) {
			continue
		}
		got := receive(t, d, small)
		if got.e == api.OK && !bytes.Equal(got.packet, b) || mode != api.ModeReliable && got.e != api.OK {
			t.Fatalf("mode %d, width %d: %x as %x gives %x, %d", mode, width, b, small, got.packet, got.e)
		}
		if got.e == api.OK {
			come++
		}
		d = got.next
		if !back.loses(r) {
			c = acknowledged(c, got.back)
		}
	}
	if come < 50 {
		t.Errorf("mode %d, width %d, kind %d: only %d packets came", mode, width, h.Kind, come)
	}
}

// If a header comes out, its check value is the one that came, whatever is lost and damaged.
func TestManyDamaged(t *testing.T) {
	r := rand.New(rand.NewSource(22))
	errors := map[api.Errno]int{}
	for _, mode := range modes {
		for width := 1; width <= 8; width++ {
			c, _ := compressor.New(mode, width)
			d := fresh(t, mode)
			l := flows()
			for range 1500 {
				i := r.Intn(1 + r.Intn(6))
				l[i] = wander(r, l[i])
				var b []byte
				c, b, _ = compressor.Compress(c, build(t, l[i], make([]byte, r.Intn(2)*r.Intn(3))...))
				if r.Intn(3) == 0 {
					continue
				}
				b = damaged(r, b)
				got := receive(t, d, b)
				errors[got.e]++
				checkComesOut(t, d, b, got)
				d = got.next
				if r.Intn(2) == 0 {
					c = acknowledged(c, got.back)
				}
			}
		}
	}
	for _, e := range []api.Errno{api.OK, api.ErrContext, api.ErrCheck, api.ErrForm, api.ErrEnd} {
		if errors[e] < 100 {
			t.Errorf("error %d came only %d times", e, errors[e])
		}
	}
}

// damaged returns bytes with some bits changed, or cut, or neither.
func damaged(r *rand.Rand, b []byte) []byte {
	b = bytes.Clone(b)
	switch r.Intn(6) {
	case 0:
		b[r.Intn(len(b))] ^= 1 << r.Intn(8)
	case 1:
		b[0] = byte(r.Intn(256))
	case 2:
		b = b[:r.Intn(len(b))]
	}
	return b
}

// checkComesOut checks that there is a header with the check value that came, or none.
func checkComesOut(t *testing.T, d api.Decompressor, b []byte, got result) {
	t.Helper()
	if got.e != api.OK {
		if len(got.packet) != 0 {
			t.Fatalf("%x gives %x with error %d", b, got.packet, got.e)
		}
		return
	}
	at, f, _ := format.Peek(b)
	if f == api.FormatRaw {
		return
	}
	c := d.Contexts[at]
	s, e := format.Decode(b, c.Last.Kind, c.Last.Check != 0)
	h := got.next.Contexts[at].Last
	if e != api.OK || !modelFits(h, s) || !bytes.Equal(got.packet, build(t, h, s.Payload...)) {
		t.Fatalf("%x by %+v gives %x with %+v", b, c, got.packet, h)
	}
}

// someHeader returns a valid header by chance, often with numbers at their limits.
func someHeader(r *rand.Rand) api.Header {
	upTo := func(most int) int {
		return []int{0, most, r.Intn(most + 1), min(most, r.Intn(40)), max(0, most-r.Intn(40))}[r.Intn(5)]
	}
	h := first(kinds[r.Intn(2)])
	h.Tos, h.Ttl, h.Id, h.Fixed, h.Check = upTo(255), upTo(255), upTo(word), upTo(1), upTo(word)*r.Intn(2)
	h.From, h.To, h.FromPort, h.ToPort = upTo(long), upTo(long), upTo(word), upTo(word)
	if h.Kind == api.KindRtp {
		h.Marker, h.Type, h.Seq, h.Time, h.Source = upTo(1), upTo(127), upTo(word), upTo(long), upTo(long)
	}
	return h
}

// someContext returns a valid context by chance.
func someContext(r *rand.Rand) api.Receiving {
	c := context(r.Intn(3), someHeader(r), r.Intn(3))
	if c.Last.Kind == api.KindRtp {
		c.Dynamic = api.Dynamic{Stride: []int{0, 1, 160, word, r.Intn(word + 1)}[r.Intn(5)], Follow: r.Intn(2)}
	}
	return c
}

// Contexts of all kinds, and headers near the last ones in all formats.
func TestManyContexts(t *testing.T) {
	r := rand.New(rand.NewSource(23))
	come := map[int]int{}
	for range 60000 {
		at, f := r.Intn(16), formats[r.Intn(len(formats))]
		c := someContext(r)
		h := someHeader(r)
		if c.State != api.StateNone && r.Intn(6) > 0 {
			h = flow.Predict(c.Dynamic, c.Last, flow.Number(c.Last)+r.Intn(50)-10)
			if c.Last.Check != 0 {
				h.Check = 1 + r.Intn(word)
			}
			if h.Kind == api.KindRtp && f != api.FormatTiny {
				h.Marker, h.Time = r.Intn(2), (c.Last.Time+r.Intn(70000)-10000)&long
			}
		}
		s := small(at, f, h, told(h.Kind), make([]byte, r.Intn(4))...)
		if r.Intn(8) == 0 {
			s.Check ^= 1
		}
		d := knowing(t, modes[r.Intn(3)], at, c)
		b := encode(t, s)
		got := receive(t, d, b)
		checkComesOut(t, d, b, got)
		if got.e == api.OK {
			come[f]++
		}
	}
	for _, f := range formats {
		if come[f] < 1000 {
			t.Errorf("of format %d only %d packets came out", f, come[f])
		}
	}
}

func TestManyBytes(t *testing.T) {
	r := rand.New(rand.NewSource(24))
	for range 60000 {
		d := fresh(t, modes[r.Intn(3)])
		for i := range d.Contexts {
			d.Contexts[i] = someContext(r)
		}
		b := make([]byte, r.Intn(50))
		r.Read(b)
		if len(b) > 1 && r.Intn(2) == 0 {
			b[r.Intn(2)] = []byte{0xc0, 0xc1, 0xd0, 0xd1, 0xd2, 0xe7}[r.Intn(6)]
		}
		checkComesOut(t, d, b, receive(t, d, b))
	}
}

// Every state between valid and not: numbers by chance, compared with the model.
func TestManyInvalid(t *testing.T) {
	r := rand.New(rand.NewSource(25))
	valid := 0
	for range 20000 {
		d := fresh(t, modes[r.Intn(3)])
		for i := range d.Contexts {
			d.Contexts[i] = someContext(r)
		}
		c := &d.Contexts[r.Intn(16)]
		x := r.Intn(6) - 1
		switch r.Intn(7) {
		case 0:
			c.State = x
		case 1:
			c.Errors = x
		case 2:
			c.Dynamic.Stride = x
		case 3:
			c.Dynamic.Follow = x
		case 4:
			c.Last.Kind = x
		case 5:
			c.Last.Marker = x
		case 6:
			d.Mode = x
		}
		want := modelValid(d)
		checkValid(t, fmt.Sprintf("%+v", d), d, want)
		if want {
			valid++
		}
		receive(t, d, sent(t, 0, api.FormatFull, speech()))
	}
	if valid < 2000 || valid > 18000 {
		t.Errorf("%d of them are valid", valid)
	}
}

// R2, R6

// roomy returns a decompressor with room behind its contexts, and what stands in it.
func roomy(d api.Decompressor) (api.Decompressor, func() string) {
	room := make([]api.Receiving, 0, 40)
	room = append(room, d.Contexts...)
	d.Contexts = room
	return d, func() string { return fmt.Sprint(d, room[:cap(room)]) }
}

func TestMemory(t *testing.T) {
	h := later(speech(), 1)
	for _, mode := range modes {
		messages := [][]byte{nil, {0xff}, {0xd2}, {0xd2, 1, 2, 3}, sent(t, 9, api.FormatTiny, h), sent(t, 0, api.FormatTiny, h, make([]byte, 1490)...)}
		for _, f := range formats {
			messages = append(messages, sent(t, 0, f, h, 1, 2, 3), wrong(t, 0, f, h, 1, 2, 3))
		}
		for _, b := range messages {
			checkMemory(t, knowing(t, mode, 0, context(api.StateFull, speech(), 2)), b)
		}
	}
	one, two := fresh(t, api.ModeReliable), fresh(t, api.ModeReliable)
	one.Contexts[0].Errors = 1
	if !reflect.DeepEqual(two, fresh(t, api.ModeReliable)) {
		t.Error("New returns the same memory twice")
	}
}

// checkMemory checks that arguments are left alone, and that results have memory of their own.
func checkMemory(t *testing.T, d api.Decompressor, message []byte) {
	t.Helper()
	d, text := roomy(d)
	b := make([]byte, 0, 2000)
	b = append(b, message...)
	room, before := fmt.Sprint(b[:cap(b)]), text()
	one := resultOf(decompressor.Decompress(d, b))
	two := resultOf(decompressor.Decompress(d, b))
	if text() != before || fmt.Sprint(b[:cap(b)]) != room {
		t.Errorf("%x: the arguments are changed", message)
	}
	scratch(one)
	if text() != before || fmt.Sprint(b[:cap(b)]) != room {
		t.Errorf("%x: the result shares memory with the arguments", message)
	}
	if three := resultOf(decompressor.Decompress(d, b)); !same(two, three) {
		t.Errorf("%x: the results share memory with each other", message)
	}
}

// scratch writes into all memory of a result.
func scratch(x result) {
	contexts := x.next.Contexts[:cap(x.next.Contexts)]
	for i := range contexts {
		contexts[i].Errors += 7
	}
	out := x.packet[:cap(x.packet)]
	for i := range out {
		out[i]++
	}
	back := x.back[:cap(x.back)]
	for i := range back {
		back[i].Number++
	}
}

// A packet that came out is a packet, but in FormatRaw.
func TestPackets(t *testing.T) {
	for _, kind := range kinds {
		for _, f := range formats {
			h := later(first(kind), 1)
			got := receive(t, knowing(t, api.ModeOneWay, 0, context(api.StateFull, first(kind), 0)), sent(t, 0, f, h, 4, 5))
			parsed, payload, e := packet.Parse(got.packet)
			if e != api.OK || parsed != h || !bytes.Equal(payload, []byte{4, 5}) {
				t.Errorf("kind %d, format %d: %+v, %x, %d", kind, f, parsed, payload, e)
			}
		}
	}
}
