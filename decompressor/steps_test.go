package decompressor_test

import (
	"fmt"
	"reflect"
	"testing"

	"radiolink/api"
	"radiolink/decompressor"
	"radiolink/flow"
)

// Step 5

// lasts returns last headers whose numbers and times lie near their limits and away from them.
func lasts(kind int) []api.Header {
	l := []api.Header{}
	for _, x := range []int{0, 1, 3, 20, 31, 100, 32767, 32768, word - 31, word - 1, word} {
		l = append(l, plus(first(kind), func(h *api.Header) {
			if kind == api.KindRtp {
				h.Seq, h.Time, h.Marker = x, long-x*300, x%2
			}
			h.Id = word - x
		}))
	}
	return l
}

// window returns how far behind and ahead of the last number a number is understood.
func window(kind, f int) (behind, ahead int) {
	switch {
	case f == api.FormatTiny:
		return -1, 14
	case f == api.FormatShort:
		return -3, 28
	case kind == api.KindRtp:
		return -31, 224
	}
	return -32768, 32767
}

func TestNumbers(t *testing.T) {
	for _, mode := range modes {
		for _, kind := range kinds {
			for _, f := range smallFormats {
				behind, ahead := window(kind, f)
				for _, last := range lasts(kind) {
					for _, steps := range []int{behind - 20, behind - 2, behind - 1, behind, behind + 1, -1, 0, 1, 2, 9, ahead - 1, ahead, ahead + 1, ahead + 2, ahead + 17, ahead + 40} {
						checkNumber(t, mode, f, last, steps, between(steps, behind, ahead))
					}
				}
			}
		}
	}
}

// checkNumber checks whether a header so many regular steps ahead is understood.
func checkNumber(t *testing.T, mode, f int, last api.Header, steps int, inside bool) {
	t.Helper()
	h := later(last, steps)
	d := knowing(t, mode, 2, context(api.StateFull, last, 1))
	got := receive(t, d, sent(t, 2, f, h, 9))
	understood := got.e == api.OK && got.next.Contexts[2].Last == h && reflect.DeepEqual(got.packet, build(t, h, 9))
	// Of FormatTiny two numbers are tried, and FormatLong of KindUdp has the whole number.
	farther := f == api.FormatTiny && mode != api.ModeReliable || f == api.FormatLong && last.Kind == api.KindUdp
	if inside && !understood || !inside && !farther && understood {
		t.Errorf("mode %d, format %d, %d steps from %+v: %+v", mode, f, steps, last, got)
	}
}

// FormatLong of KindUdp has the whole number.
func TestWholeNumber(t *testing.T) {
	for _, id := range []int{0, 1, 30000, 32768, word} {
		last := plus(plain(), func(h *api.Header) { h.Id = id })
		for x := 0; x <= word; x += 257 {
			h := plus(plain(), func(h *api.Header) { h.Id = x })
			d := knowing(t, api.ModeReliable, 0, context(api.StateFull, last, 0))
			if got := receive(t, d, sent(t, 0, api.FormatLong, h)); got.next.Contexts[0].Last != h {
				t.Errorf("%d behind %d: %+v", x, id, got)
			}
		}
	}
}

func TestTimes(t *testing.T) {
	for _, mode := range modes {
		for _, last := range lasts(api.KindRtp) {
			for _, time := range []int{last.Time, 0, 1, 8000, 8191, 57344, long} {
				last.Time = time
				for _, x := range []int{-1 << 31, -65536, -8192, -8191, -8190, -1, 0, 1, 57343, 57344, 57345, 65536, 1 << 30} {
					h := plus(later(last, 1), marked, func(h *api.Header) { h.Time = (time + x) & long })
					d := knowing(t, mode, 0, context(api.StateFull, last, 1))
					got := receive(t, d, sent(t, 0, api.FormatShort, h))
					if between(x, -8191, 57344) != (got.e == api.OK && got.next.Contexts[0].Last == h) {
						t.Errorf("mode %d, FormatShort, Time %d behind %d: %+v", mode, h.Time, time, got)
					}
					h.Id = (h.Id + x) & word
					got = receive(t, d, sent(t, 0, api.FormatLong, h))
					if got.e != api.OK || got.next.Contexts[0].Last != h {
						t.Errorf("mode %d, FormatLong, Time %d behind %d: %+v", mode, h.Time, time, got)
					}
				}
			}
		}
	}
}

// What the formats do not have is predicted.
func TestPredicted(t *testing.T) {
	last := plus(speech(), marked, func(h *api.Header) { h.Id, h.Seq, h.Time = 500, 100, 8000 })
	for _, stride := range []int{0, 1, 160, word} {
		for follow := range 2 {
			c := context(api.StateFull, last, 2)
			c.Dynamic = api.Dynamic{Stride: stride, Follow: follow}
			d := knowing(t, api.ModeReliable, 0, c)
			for _, steps := range []int{-1, 1, 5} {
				h := last
				h.Marker, h.Seq, h.Id = 0, 100+steps, 500+follow*steps
				h.Time = (8000 + stride*steps) & long
				c.Last, c.Errors = h, 0
				checkReceived(t, "FormatTiny", d, sent(t, 0, api.FormatTiny, h, 3), 0, c, build(t, h, 3), api.Ack, 100+steps, api.OK)
				h.Time = 8100
				for marker := range 2 {
					h.Marker = marker
					c.Last = h
					checkReceived(t, "FormatShort", d, sent(t, 0, api.FormatShort, h, 3), 0, c, build(t, h, 3), api.Ack, 100+steps, api.OK)
					other := plus(h, func(h *api.Header) { h.Id, h.Time = 77, 5 })
					c.Last = other
					checkReceived(t, "FormatLong", d, sent(t, 0, api.FormatLong, other, 3), 0, c, build(t, other, 3), api.Ack, 100+steps, api.OK)
				}
			}
		}
	}
}

// changed returns headers of which one field after the other is different.
func changed(t testing.TB, h api.Header) []api.Header {
	t.Helper()
	l := []api.Header{h}
	for i := range reflect.TypeOf(h).NumField() {
		x := h
		field := reflect.ValueOf(&x).Elem().Field(i)
		field.SetInt(field.Int() ^ 1)
		if reflect.TypeOf(h).Field(i).Name != "Kind" && (h.Kind == api.KindRtp || i < 10) {
			l = append(l, x)
		}
	}
	return l
}

// FormatRefresh tells everything but the static fields, and FormatFull everything.
func TestTold(t *testing.T) {
	for _, mode := range modes {
		for _, kind := range kinds {
			last := plus(first(kind), checked)
			for _, h := range changed(t, last) {
				for _, state := range states {
					checkFull(t, mode, state, last, h)
					if state != api.StateNone {
						checkRefresh(t, mode, state, last, h)
					}
				}
			}
		}
	}
}

// ack returns the kind of feedback that a packet gets which tells everything.
func ack(mode int) int {
	if mode == api.ModeOneWay {
		return -1
	}
	return api.Ack
}

// told returns parameters that are not those of rule.
func told(kind int) api.Dynamic {
	if kind == api.KindUdp {
		return api.Dynamic{}
	}
	return api.Dynamic{Stride: 0xabcd}
}

func checkFull(t *testing.T, mode, state int, last, h api.Header) {
	t.Helper()
	d := knowing(t, mode, 4, context(state, last, 2))
	want := api.Receiving{State: api.StateFull, Last: h, Dynamic: told(h.Kind)}
	b := encode(t, small(4, api.FormatFull, h, told(h.Kind), 5, 6))
	checkReceived(t, "FormatFull", d, b, 4, want, build(t, h, 5, 6), ack(mode), flow.Number(h), api.OK)
}

func checkRefresh(t *testing.T, mode, state int, last, h api.Header) {
	t.Helper()
	d := knowing(t, mode, 4, context(state, last, 2))
	b := encode(t, small(4, api.FormatRefresh, h, told(h.Kind), 5, 6))
	if flow.Same(last, h) {
		want := api.Receiving{State: api.StateFull, Last: h, Dynamic: told(h.Kind)}
		checkReceived(t, "FormatRefresh", d, b, 4, want, build(t, h, 5, 6), ack(mode), flow.Number(h), api.OK)
		return
	}
	// The check value is that of the header of the other flow.
	if got := receive(t, d, b); got.e != api.ErrCheck {
		t.Errorf("FormatRefresh of %+v behind %+v: %+v", h, last, got)
	}
}

// FormatFull begins another flow, of whichever kind.
func TestAnotherFlow(t *testing.T) {
	for _, mode := range modes {
		for _, kind := range kinds {
			for _, state := range states {
				for errors := range 3 {
					h := plus(first(3-kind), func(h *api.Header) { h.FromPort, h.Id = 9, 44 })
					d := knowing(t, mode, 0, context(state, first(kind), errors))
					want := api.Receiving{State: api.StateFull, Last: h, Dynamic: rule(h.Kind)}
					checkReceived(t, "another flow", d, sent(t, 0, api.FormatFull, h), 0, want, build(t, h), ack(mode), flow.Number(h), api.OK)
				}
			}
		}
	}
}

// Step 6

func TestSecondNumber(t *testing.T) {
	seen := map[bool]int{}
	for _, mode := range modes {
		for _, kind := range kinds {
			for _, last := range lasts(kind) {
				for steps := 15; steps <= 30; steps++ {
					h := later(last, steps)
					near := later(last, steps-16)
					fits := checkValue(near, api.FormatTiny) == checkValue(h, api.FormatTiny)
					seen[fits]++
					checkSecond(t, mode, last, near, h, fits)
				}
			}
		}
	}
	if seen[true] < 10 || seen[false] < 100 {
		t.Errorf("the first number fitted: %v", seen)
	}
}

// checkSecond checks what comes of h in FormatTiny, where near has the same low bits; fits tells whether it has the same check value, too.
func checkSecond(t *testing.T, mode int, last, near, h api.Header, fits bool) {
	t.Helper()
	c := context(api.StateFull, last, 1)
	d := knowing(t, mode, 15, c)
	b := sent(t, 15, api.FormatTiny, h, 1)
	name := fmt.Sprintf("mode %d, %+v behind %+v", mode, h, last)
	c.Errors = 0
	switch {
	case fits && mode == api.ModeReliable:
		c.Last = near
		checkReceived(t, name, d, b, 15, c, build(t, near, 1), api.Ack, flow.Number(near), api.OK)
	case fits:
		c.Last = near
		checkReceived(t, name, d, b, 15, c, build(t, near, 1), -1, 0, api.OK)
	case mode == api.ModeReliable:
		c.Errors = 2
		checkReceived(t, name, d, b, 15, c, nil, api.Nack, flow.Number(last), api.ErrCheck)
	default:
		c.Last = h
		checkReceived(t, name, d, b, 15, c, build(t, h, 1), -1, 0, api.OK)
	}
}

// A second number is tried with the checksum of the packet, and of FormatTiny alone.
func TestSecondChecksum(t *testing.T) {
	for _, kind := range kinds {
		understood := 0
		for _, last := range lasts(kind) {
			last.Check = 0x1234
			h := plus(later(last, 20), func(h *api.Header) { h.Check = 0xabcd })
			d := knowing(t, api.ModeOneWay, 0, context(api.StateFull, last, 0))
			if got := receive(t, d, sent(t, 0, api.FormatTiny, h, 1)); got.e == api.OK && got.next.Contexts[0].Last == h {
				understood++
			}
		}
		if understood < 5 {
			t.Errorf("kind %d: only %d second numbers are understood", kind, understood)
		}
	}
	for _, mode := range modes {
		for _, steps := range []int{-4, -5, -19, 29, 30, 44} {
			for _, h := range []api.Header{plain(), speech()} {
				d := knowing(t, mode, 0, context(api.StateFull, h, 0))
				far := plus(later(h, steps), func(h *api.Header) { h.Time = first(h.Kind).Time })
				if got := receive(t, d, sent(t, 0, api.FormatShort, far)); got.e != api.ErrCheck {
					t.Errorf("mode %d, FormatShort, %d steps: %+v", mode, steps, got)
				}
			}
		}
	}
}

// Step 7

func TestSizes(t *testing.T) {
	for _, mode := range modes {
		for _, kind := range kinds {
			most := map[int]int{api.KindUdp: 1472, api.KindRtp: 1460}[kind]
			for _, f := range formats {
				for state := leastState(f); state <= api.StateFull; state++ {
					c := context(state, first(kind), 2)
					d := knowing(t, mode, 1, c)
					h := later(first(kind), 1)
					for _, n := range []int{0, 1, most - 1, most} {
						got := receive(t, d, sent(t, 1, f, h, make([]byte, n)...))
						if got.e != api.OK || !reflect.DeepEqual(got.packet, build(t, h, make([]byte, n)...)) {
							t.Errorf("kind %d, format %d, %d bytes: error %d", kind, f, n, got.e)
						}
					}
					for _, n := range []int{most + 1, most + 2, 1499, 1500} {
						checkReceived(t, fmt.Sprintf("kind %d, format %d, %d bytes", kind, f, n), d, sent(t, 1, f, h, make([]byte, n)...), 1, c, nil, -1, 0, api.ErrSize)
						if got := receive(t, d, wrong(t, 1, f, h, make([]byte, n)...)); got.e != api.ErrCheck {
							t.Errorf("kind %d, format %d, %d bytes with a wrong check value: error %d", kind, f, n, got.e)
						}
					}
				}
			}
		}
	}
}

// Errors are forgotten behind each packet that is understood; the parameters change with those that tell them alone.
func TestAccepted(t *testing.T) {
	for _, mode := range modes {
		for _, kind := range kinds {
			for _, f := range formats {
				for errors := range 3 {
					last := first(kind)
					h := later(last, 2)
					d := knowing(t, mode, 7, context(api.StateFull, last, errors))
					want := context(api.StateFull, h, 0)
					b := encode(t, small(7, f, h, told(kind), 5))
					if f >= api.FormatRefresh {
						want.Dynamic = told(kind)
					}
					answer := -1
					if mode == api.ModeReliable || mode == api.ModeOptimistic && f >= api.FormatRefresh {
						answer = api.Ack
					}
					checkReceived(t, fmt.Sprintf("mode %d, kind %d, format %d", mode, kind, f), d, b, 7, want, build(t, h, 5), answer, flow.Number(h), api.OK)
				}
			}
		}
	}
}

// Step 8

// checkFailed checks that a packet with a wrong check value changes the context c to want.
func checkFailed(t *testing.T, mode, f int, h api.Header, c, want api.Receiving) {
	t.Helper()
	d := knowing(t, mode, 6, c)
	d.Contexts[5] = context(api.StateFull, speech(), 2)
	answer, number := api.Nack, flow.Number(want.Last)
	if want.State == api.StateNone {
		answer, number = api.StaticNack, 0
	}
	if mode == api.ModeOneWay {
		answer = -1
	}
	name := fmt.Sprintf("mode %d, kind %d, format %d, state %d, %d errors", mode, h.Kind, f, c.State, c.Errors)
	checkReceived(t, name, d, wrong(t, 6, f, h, 1, 2, 3), 6, want, nil, answer, number, api.ErrCheck)
}

func TestFailed(t *testing.T) {
	for _, mode := range modes {
		for _, kind := range kinds {
			for _, f := range formats {
				last := first(kind)
				h := later(last, 3)
				for state := leastState(f); state <= api.StateFull; state++ {
					checkFailed(t, mode, f, h, context(state, last, 0), context(state, last, 1))
					checkFailed(t, mode, f, h, context(state, last, 1), context(state, last, 2))
				}
				checkFailed(t, mode, f, h, context(api.StateFull, last, 2), context(api.StateStatic, last, 0))
				if f >= api.FormatRefresh {
					checkFailed(t, mode, f, h, context(api.StateStatic, last, 2), api.Receiving{})
				}
			}
			checkFailed(t, mode, api.FormatFull, first(kind), api.Receiving{Errors: 2}, api.Receiving{})
		}
	}
}

// Every check value but the right one is wrong.
func TestEveryCheck(t *testing.T) {
	for _, kind := range kinds {
		for _, f := range formats {
			last := first(kind)
			d := knowing(t, api.ModeReliable, 0, context(api.StateFull, last, 0))
			s := small(0, f, later(last, 1), rule(kind), 8)
			right := s.Check
			for x := range map[int]int{api.FormatTiny: 8, api.FormatShort: 128, api.FormatLong: 256, api.FormatRefresh: 256, api.FormatFull: 256}[f] {
				s.Check = x
				got := receive(t, d, encode(t, s))
				if (got.e == api.OK) != (x == right) || x != right && got.e != api.ErrCheck {
					t.Errorf("kind %d, format %d, %d instead of %d: error %d", kind, f, x, right, got.e)
				}
			}
		}
	}
}

// What is neither understood nor has a wrong check value does not count, and does not come between the others.
func TestErrorsInARow(t *testing.T) {
	last := speech()
	h := later(last, 1)
	for _, mode := range modes {
		d := knowing(t, mode, 3, context(api.StateFull, last, 0))
		bad := wrong(t, 3, api.FormatTiny, h)
		others := [][]byte{
			{0xd2, 1, 2}, {0xd2}, nil, {0xe3}, {0xff},
			sent(t, 3, api.FormatShort, h)[:3],
			sent(t, 3, api.FormatTiny, h, make([]byte, 1500)...),
			sent(t, 4, api.FormatTiny, h),
			sent(t, 5, api.FormatFull, plain()),
		}
		for i := range 3 {
			if c := d.Contexts[3]; c != context(api.StateFull, last, i) {
				t.Errorf("mode %d, %d errors: %+v", mode, i, c)
			}
			d = receive(t, d, bad).next
			for _, b := range others {
				d = receive(t, d, b).next
			}
		}
		if c := d.Contexts[3]; c != context(api.StateStatic, last, 0) {
			t.Errorf("mode %d, behind three errors: %+v", mode, c)
		}
	}
}

func TestErrorsForgotten(t *testing.T) {
	for _, mode := range modes {
		h := speech()
		d := knowing(t, mode, 0, context(api.StateFull, h, 0))
		for i := range 20 {
			next := later(h, 1)
			d = receive(t, d, wrong(t, 0, api.FormatTiny, next)).next
			d = receive(t, d, wrong(t, 0, api.FormatLong, next)).next
			if c := d.Contexts[0]; c != context(api.StateFull, h, 2) {
				t.Fatalf("mode %d, packet %d: %+v", mode, i, c)
			}
			d = receive(t, d, sent(t, 0, api.FormatTiny, next)).next
			h = next
			if c := d.Contexts[0]; c != context(api.StateFull, h, 0) {
				t.Fatalf("mode %d, packet %d: %+v", mode, i, c)
			}
		}
	}
}

// From everything down to nothing, and up again.
func TestDown(t *testing.T) {
	for _, mode := range modes {
		h := later(speech(), 1)
		d := knowing(t, mode, 0, context(api.StateFull, speech(), 0))
		states := ""
		for _, f := range []int{1, 1, 1, 1, 4, 4, 4, 4, 5, 5, 5, 5} {
			d = receive(t, d, wrong(t, 0, f, h)).next
			states += fmt.Sprint(d.Contexts[0].State, d.Contexts[0].Errors, ",")
		}
		if want := "2 1,2 2,1 0,1 0,1 1,1 2,0 0,0 0,0 1,0 2,0 0,0 1,"; states != want {
			t.Errorf("mode %d: %s, and not %s", mode, states, want)
		}
		d = receive(t, d, sent(t, 0, api.FormatFull, h)).next
		if d.Contexts[0] != context(api.StateFull, h, 0) {
			t.Errorf("mode %d: %+v", mode, d.Contexts[0])
		}
	}
}

func TestStaticThenRefresh(t *testing.T) {
	h := later(speech(), 1)
	d := knowing(t, api.ModeOptimistic, 0, context(api.StateStatic, speech(), 2))
	checkReceived(t, "FormatTiny", d, sent(t, 0, api.FormatTiny, h), 0, d.Contexts[0], nil, api.Nack, 65530, api.ErrContext)
	checkReceived(t, "FormatRefresh", d, sent(t, 0, api.FormatRefresh, h), 0, context(api.StateFull, h, 0), build(t, h), api.Ack, 65531, api.OK)
}

// Examples

func TestExamples(t *testing.T) {
	for _, mode := range modes {
		if next, out, _, e := decompressor.Decompress(fresh(t, mode), []byte{0x53}); e != api.ErrContext || len(out) != 0 || !reflect.DeepEqual(next, fresh(t, mode)) {
			t.Errorf("a first packet in FormatTiny: %d, %x", e, out)
		}
		d := knowing(t, mode, 0, context(api.StateFull, plain(), 0))
		for range 3 {
			d, _, _, _ = decompressor.Decompress(d, wrong(t, 0, api.FormatTiny, later(plain(), 1)))
		}
		if d.Contexts[0] != context(api.StateStatic, plain(), 0) {
			t.Errorf("behind three wrong check values: %+v", d.Contexts[0])
		}
	}
}
