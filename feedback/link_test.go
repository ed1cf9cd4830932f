package feedback_test

import (
	"bytes"
	"math/rand"
	"reflect"
	"testing"

	"radiolink/api"
	"radiolink/compressor"
	"radiolink/decompressor"
	"radiolink/feedback"
	"radiolink/format"
	"radiolink/packet"
)

func build(t testing.TB, h api.Header, payload ...byte) []byte {
	t.Helper()
	b, e := packet.Build(h, payload)
	if e != api.OK {
		t.Fatalf("Build of %+v: error %d", h, e)
	}
	return b
}

// send compresses a packet, and returns the letter of its format, too.
func send(t testing.TB, c api.Compressor, b []byte) (next api.Compressor, out []byte, letter string) {
	t.Helper()
	next, out, e := compressor.Compress(c, b)
	if e != api.OK {
		t.Fatalf("Compress: error %d", e)
	}
	_, f, _ := format.Peek(out)
	return next, out, "?TSLRFW"[f : f+1]
}

// sendAll compresses packets with the numbers from a first one on, and returns the letters of their formats.
func sendAll(t testing.TB, c api.Compressor, header func(number int) api.Header, from, n int) (api.Compressor, string) {
	t.Helper()
	text, letter := "", ""
	for i := range n {
		c, _, letter = send(t, c, build(t, header(from+i)))
		text += letter
	}
	return c, text
}

// steady returns headers that go on regularly.
func steady(number int) api.Header {
	h := speech(number)
	h.Id = 7
	return h
}

// ask returns the compressor behind the bytes of feedback.
func ask(t testing.TB, c api.Compressor, kind, number int) api.Compressor {
	t.Helper()
	f, e := feedback.Decode(encode(t, api.Feedback{Kind: kind, Number: number}))
	if e != api.OK {
		t.Fatalf("Decode: error %d", e)
	}
	return applied(t, c, f)
}

// What is sent behind feedback: letters are formats, and numbers count from 100 on.
func TestSeries(t *testing.T) {
	type answer struct{ kind, number int }
	for i, x := range []struct {
		mode, width   int
		header        func(number int) api.Header
		before        string
		answers       []answer
		behind        string
		acknowledged  int // a second answer, about one of those behind
		behindThatOne string
	}{
		// an acknowledgement ends the series, in whichever packet of it
		{api.ModeOptimistic, 4, plain, "F", []answer{{api.Ack, 100}}, "TTT", 100, "TT"},
		{api.ModeOptimistic, 4, plain, "FFF", []answer{{api.Ack, 101}}, "TTT", 103, "TT"},
		{api.ModeReliable, 4, plain, "FFFFFF", []answer{{api.Ack, 100}}, "TTT", 106, "TT"},
		{api.ModeReliable, 4, plain, "FFFFFF", []answer{{api.Ack, 105}}, "TTT", 105, "TT"},
		// one of a packet that was never sent does not
		{api.ModeOptimistic, 4, plain, "FF", []answer{{api.Ack, 102}}, "FFTT", 99, "T"},
		{api.ModeReliable, 4, plain, "FF", []answer{{api.Ack, 102}}, "FFFFFF", 99, "FFF"},
		// a series begins with the next packet, and what came before it does not end it
		{api.ModeOptimistic, 3, plain, "FFFTT", []answer{{api.Nack, 0}}, "RRRTT", 100, "TT"},
		{api.ModeOptimistic, 3, plain, "FFFTT", []answer{{api.Nack, 0}, {api.Ack, 104}}, "R", 104, "RRT"},
		{api.ModeOptimistic, 3, plain, "FFFTT", []answer{{api.Nack, 0}, {api.Ack, 104}}, "R", 105, "TT"},
		{api.ModeReliable, 1, plain, "FFF", []answer{{api.Ack, 102}, {api.Nack, 0}, {api.Ack, 102}}, "RRRR", 102, "RRR"},
		{api.ModeReliable, 1, plain, "FFF", []answer{{api.Ack, 102}, {api.Nack, 0}, {api.Ack, 102}}, "RRRR", 103, "TTT"},
		{api.ModeOptimistic, 3, plain, "FFFTT", []answer{{api.StaticNack, 0}}, "FFFTT", 100, "TT"},
		{api.ModeReliable, 1, plain, "FFF", []answer{{api.Ack, 102}, {api.StaticNack, 0}, {api.Ack, 102}}, "FFFF", 102, "FFF"},
		{api.ModeReliable, 1, plain, "FFF", []answer{{api.Ack, 102}, {api.StaticNack, 0}, {api.Ack, 102}}, "FFFF", 103, "TTT"},
		// the static fields may be unknown still
		{api.ModeOptimistic, 3, plain, "F", []answer{{api.Nack, 0}}, "FFFTT", 100, "TT"},
		{api.ModeReliable, 3, plain, "FF", []answer{{api.Nack, 0}}, "FF", 101, "FFF"},
		{api.ModeReliable, 3, plain, "FF", []answer{{api.Nack, 0}}, "FF", 102, "TTT"},
		// and of a series of FormatRefresh, too
		{api.ModeOptimistic, 4, plain, "FFFF", []answer{{api.Nack, 0}, {api.StaticNack, 0}}, "FFFFT", 100, "T"},
		{api.ModeOptimistic, 4, plain, "FFFF", []answer{{api.StaticNack, 0}, {api.Nack, 0}}, "FFFFT", 100, "T"},
		// a series tells again how Time grows
		{api.ModeOptimistic, 2, steady, "FF", []answer{{api.Nack, 0}}, "RRTT", 100, "T"},
		{api.ModeReliable, 2, steady, "FF", []answer{{api.Ack, 101}, {api.Nack, 0}}, "RR", 103, "TT"},
		{api.ModeReliable, 2, steady, "FF", []answer{{api.Ack, 101}}, "SSSRR", 106, "TT"},
	} {
		c, _ := compressor.New(x.mode, x.width)
		at, text := 100, ""
		for k, want := range []string{x.before, x.behind, x.behindThatOne} {
			if c, text = sendAll(t, c, x.header, at, len(want)); text != want {
				t.Errorf("%d, part %d: %s, and not %s", i, k, text, want)
			}
			at += len(want)
			if k == 0 {
				for _, a := range x.answers {
					c = ask(t, c, a.kind, a.number)
				}
			}
			if k == 1 {
				c = ask(t, c, api.Ack, x.acknowledged)
			}
		}
	}
}

// A compressor that gets acknowledgements never has to begin its series anew.
func TestReferencesForgotten(t *testing.T) {
	c, _ := compressor.New(api.ModeReliable, 2)
	text := ""
	for i := range 40 {
		c, text = sendAll(t, c, plain, 100+10*i, 10)
		if want := "TTTTTTTTTT"; i > 0 && text != want {
			t.Fatalf("%d: %s", i, text)
		}
		c = ask(t, c, api.Ack, 100+10*i+5)
		if n := len(c.Contexts[0].References); n != 5 {
			t.Fatalf("%d: %d references", i, n)
		}
	}
}

// Whatever a decompressor has forgotten, it says so, and understands the flow again two packets later.
func TestRecovers(t *testing.T) {
	for _, mode := range answeredModes {
		for _, header := range headersOf {
			for _, state := range []int{api.StateNone, api.StateStatic} {
				c, _ := compressor.New(mode, 3)
				c, _ = sendAll(t, c, header, 10, 3)
				c = ask(t, c, api.Ack, 12)
				d, _ := decompressor.New(mode)
				if state == api.StateStatic {
					d.Contexts[0] = api.Receiving{State: state, Last: header(12)}
				}
				for i := range 5 {
					b := build(t, header(13+i), 1, 2)
					var small []byte
					c, small, _ = send(t, c, b)
					next, out, back, e := decompressor.Decompress(d, small)
					if i == 0 && (e != api.ErrContext || len(back) != 1) || i > 0 && (e != api.OK || !bytes.Equal(out, b)) {
						t.Errorf("mode %d, state %d, packet %d: %x, %d", mode, state, i, out, e)
					}
					d = next
					for _, f := range back {
						c = applied(t, c, f)
					}
				}
			}
		}
	}
}

// Messages and feedback are lost by chance, fewer than the width one after the other: in ModeOptimistic all that comes is right.
func TestOptimisticLosses(t *testing.T) {
	r := rand.New(rand.NewSource(3))
	for width := 2; width <= 8; width++ {
		for range 20 {
			if n := lossy(t, r, api.ModeOptimistic, width, width-1); n > 0 {
				t.Errorf("width %d: %d errors", width, n)
			}
		}
	}
}

// In ModeReliable it is right however many are lost, and the first one that comes is understood.
func TestReliableLosses(t *testing.T) {
	r := rand.New(rand.NewSource(4))
	for width := 1; width <= 8; width++ {
		for range 20 {
			if n := lossy(t, r, api.ModeReliable, width, 1+r.Intn(40)); n > 0 {
				t.Errorf("width %d: %d errors", width, n)
			}
		}
	}
}

// lossy sends packets of a flow, of which at most some are lost one after the other, compares what comes, and returns how many errors there were.
func lossy(t *testing.T, r *rand.Rand, mode, width, most int) int {
	t.Helper()
	c, _ := compressor.New(mode, width)
	d, _ := decompressor.New(mode)
	header := headersOf[r.Intn(2)]
	ttl, lost, errors := 64, 0, 0
	back := []api.Feedback{} // on its way
	for number := range 300 {
		if r.Intn(25) == 0 {
			ttl = 60 + r.Intn(8)
		}
		h := header(number)
		h.Ttl = ttl
		b := build(t, h, byte(number))
		var small []byte
		c, small, _ = send(t, c, b)
		if lost < most && r.Intn(3) > 0 {
			lost++
			continue
		}
		lost = 0
		next, out, answers, e := decompressor.Decompress(d, small)
		if e != api.OK {
			errors++
		} else if !bytes.Equal(out, b) {
			t.Fatalf("mode %d, width %d, packet %d: %x, and not %x", mode, width, number, out, b)
		}
		d = next
		if r.Intn(3) > 0 {
			back = append(back, answers...)
		}
		for len(back) > 0 && r.Intn(2) == 0 { // feedback comes late, but in order
			c = ask(t, c, back[0].Kind, back[0].Number)
			back = back[1:]
		}
	}
	return errors
}

func TestExamples(t *testing.T) {
	for _, mode := range answeredModes {
		c, _ := compressor.New(mode, 3)
		c, out, _ := send(t, c, build(t, plain(100)))
		if _, f, _ := format.Peek(out); f != api.FormatFull {
			t.Errorf("mode %d: %x", mode, out)
		}
		unanswered := c
		c = ask(t, c, api.Ack, 100)
		if _, out, _ = send(t, c, build(t, plain(101))); len(out) != 1 {
			t.Errorf("mode %d: %x behind the acknowledgement", mode, out)
		}
		if _, out, _ = send(t, unanswered, build(t, plain(101))); len(out) == 1 {
			t.Errorf("mode %d: %x without an acknowledgement", mode, out)
		}
	}
	s := api.Sending{Refresh: 2, Series: 2, Since: 9, References: flowOf(plain, 1, 2, 3)}
	next := applied(t, holding(t, api.ModeReliable, 3, 0, s), api.Feedback{Number: 2})
	s.Series, s.References = 1, flowOf(plain, 2, 3)
	if !reflect.DeepEqual(next, holding(t, api.ModeReliable, 3, 0, s)) {
		t.Errorf("before the series: %+v", next.Contexts[0])
	}
}
