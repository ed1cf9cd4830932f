package feedback_test

import (
	"math/rand"
	"reflect"
	"testing"

	"radiolink/api"
	"radiolink/compressor"
	"radiolink/copies"
	"radiolink/feedback"
)

var modes = []int{api.ModeOneWay, api.ModeOptimistic, api.ModeReliable}

var answeredModes = []int{api.ModeOptimistic, api.ModeReliable}

// speech returns a header with a Seq, and plain one with an Id: the number of one is none of the other's.
func speech(number int) api.Header {
	return api.Header{Kind: api.KindRtp, Tos: 184, Id: number ^ 0x4000, Ttl: 64, From: 1, To: 2, FromPort: 3, ToPort: 4, Type: 96, Seq: number, Time: 160 * number, Source: 9}
}

func plain(number int) api.Header {
	return api.Header{Kind: api.KindUdp, Id: number, Ttl: 64, From: 1, To: 2, FromPort: 3, ToPort: 4}
}

var headersOf = []func(number int) api.Header{speech, plain}

// flowOf returns headers with numbers.
func flowOf(header func(number int) api.Header, numbers ...int) []api.Header {
	l := []api.Header{}
	for _, n := range numbers {
		l = append(l, header(n))
	}
	return l
}

// holding returns a compressor with one context in use.
func holding(t testing.TB, mode, width, at int, s api.Sending) api.Compressor {
	t.Helper()
	c, e := compressor.New(mode, width)
	if e != api.OK {
		t.Fatalf("New(%d, %d): error %d", mode, width, e)
	}
	s.Active = true
	c.Contexts[at] = s
	if !compressor.Valid(c) {
		t.Fatalf("not valid: mode %d, width %d, %+v", mode, width, s)
	}
	return c
}

// apply compares Apply with the model, and checks that its result is valid.
func apply(t testing.TB, c api.Compressor, f api.Feedback) (api.Compressor, api.Errno) {
	t.Helper()
	before := copies.Compressor(c)
	next, e := feedback.Apply(c, f)
	want, wantE := modelApply(before, f)
	if !reflect.DeepEqual(next, want) || e != wantE {
		t.Fatalf("Apply of %+v to %+v:\n%+v, %d, and not\n%+v, %d", f, before, next, e, want, wantE)
	}
	if !reflect.DeepEqual(c, before) {
		t.Fatalf("Apply of %+v to %+v changes it to %+v", f, before, c)
	}
	if e == api.OK && !compressor.Valid(next) {
		t.Fatalf("Apply of %+v to %+v: not valid: %+v", f, before, next)
	}
	return next, e
}

// applied is apply without an error.
func applied(t testing.TB, c api.Compressor, f api.Feedback) api.Compressor {
	t.Helper()
	next, e := apply(t, c, f)
	if e != api.OK {
		t.Fatalf("Apply of %+v: error %d", f, e)
	}
	return next
}

// P11.2

func TestApplyErrors(t *testing.T) {
	s := api.Sending{References: flowOf(speech, 7)}
	one := func(mode int) api.Compressor { return holding(t, mode, 2, 3, s) }
	bad := one(api.ModeReliable)
	bad.Contexts[3].Series = 2
	badOneWay := one(api.ModeOneWay)
	badOneWay.Width = 9
	for i, x := range []struct {
		c    api.Compressor
		f    api.Feedback
		want api.Errno
	}{
		{api.Compressor{}, api.Feedback{}, api.ErrInvalid},
		{bad, api.Feedback{Context: 3, Number: 7}, api.ErrInvalid},
		{bad, api.Feedback{Context: 4}, api.ErrInvalid},
		{badOneWay, api.Feedback{Context: 3}, api.ErrInvalid},
		{bad, api.Feedback{Context: 16}, api.ErrInvalid},
		{one(api.ModeOneWay), api.Feedback{Context: 16}, api.ErrInvalid},
		{one(api.ModeOneWay), api.Feedback{Context: 3, Kind: 3}, api.ErrInvalid},
		{one(api.ModeOneWay), api.Feedback{Context: 3, Number: -1}, api.ErrInvalid},
		{one(api.ModeOneWay), api.Feedback{Context: 3, Number: 7}, api.ErrState},
		{one(api.ModeOneWay), api.Feedback{Context: 3, Kind: api.Nack}, api.ErrState},
		{one(api.ModeOneWay), api.Feedback{Context: 3, Kind: api.StaticNack}, api.ErrState},
		{one(api.ModeOneWay), api.Feedback{Context: 4}, api.ErrState},
		{one(api.ModeOptimistic), api.Feedback{Context: 4, Number: 65536}, api.ErrInvalid},
		{one(api.ModeOptimistic), api.Feedback{Context: 4}, api.ErrContext},
		{one(api.ModeReliable), api.Feedback{Context: 2, Kind: api.Nack}, api.ErrContext},
		{one(api.ModeReliable), api.Feedback{Context: 15, Kind: api.StaticNack}, api.ErrContext},
		{one(api.ModeReliable), api.Feedback{Context: 0}, api.ErrContext},
		{one(api.ModeReliable), api.Feedback{Context: 3}, api.OK},
	} {
		next, e := apply(t, x.c, x.f)
		if e != x.want || e != api.OK && !reflect.DeepEqual(next, api.Compressor{}) {
			t.Errorf("%d: %+v, %d, and not %d", i, next, e, x.want)
		}
	}
}

func TestApplyInvalidFeedback(t *testing.T) {
	for _, mode := range modes {
		c := holding(t, mode, 2, 3, api.Sending{References: flowOf(plain, 0)})
		for _, v := range append([]int{3, 16, 17}, extremes...) {
			for _, f := range []api.Feedback{{Context: v}, {Context: 3, Kind: v}, {Context: 3, Number: v}} {
				if modelValid(f) {
					continue
				}
				if next, e := apply(t, c, f); e != api.ErrInvalid || !reflect.DeepEqual(next, api.Compressor{}) {
					t.Errorf("mode %d, %+v: %+v, %d", mode, f, next, e)
				}
			}
		}
	}
}

// What is written out here is Series, and what is behind the feedback.
func TestAck(t *testing.T) {
	type numbers []int
	for i, x := range []struct {
		mode         int
		references   numbers
		series       int
		number       int
		ends         bool
		left         numbers
		seriesBehind int
	}{
		// a packet before the series
		{api.ModeOptimistic, numbers{10, 11, 12}, 1, 10, false, numbers{10, 11, 12}, 1},
		{api.ModeReliable, numbers{10, 11, 12}, 1, 10, false, numbers{10, 11, 12}, 1},
		{api.ModeReliable, numbers{10, 11, 12}, 2, 11, false, numbers{11, 12}, 1},
		// the first one of the series, and later ones
		{api.ModeOptimistic, numbers{10, 11, 12}, 1, 11, true, numbers{10, 11, 12}, 1},
		{api.ModeOptimistic, numbers{10, 11, 12}, 1, 12, true, numbers{10, 11, 12}, 1},
		{api.ModeOptimistic, numbers{10, 11, 12}, 0, 10, true, numbers{10, 11, 12}, 0},
		{api.ModeReliable, numbers{10, 11, 12}, 1, 11, true, numbers{11, 12}, 0},
		{api.ModeReliable, numbers{10, 11, 12}, 1, 12, true, numbers{12}, 0},
		{api.ModeReliable, numbers{10, 11, 12}, 2, 12, true, numbers{12}, 0},
		{api.ModeReliable, numbers{10, 11, 12}, 0, 10, true, numbers{10, 11, 12}, 0},
		{api.ModeReliable, numbers{10, 11, 12}, 0, 11, true, numbers{11, 12}, 0},
		{api.ModeReliable, numbers{5}, 0, 5, true, numbers{5}, 0},
		// a series that begins with the next packet
		{api.ModeOptimistic, numbers{10, 11, 12}, 3, 12, false, numbers{10, 11, 12}, 3},
		{api.ModeReliable, numbers{10, 11, 12}, 3, 10, false, numbers{10, 11, 12}, 3},
		{api.ModeReliable, numbers{10, 11, 12}, 3, 12, false, numbers{12}, 1},
		// no such number
		{api.ModeOptimistic, numbers{10, 11, 12}, 0, 13, false, numbers{10, 11, 12}, 0},
		{api.ModeReliable, numbers{10, 11, 12}, 0, 9, false, numbers{10, 11, 12}, 0},
		{api.ModeReliable, numbers{10, 11, 12}, 1, 10 + 256, false, numbers{10, 11, 12}, 1},
		{api.ModeReliable, numbers{10, 11, 12}, 2, 12 ^ 0x4000, false, numbers{10, 11, 12}, 2}, // Id, which is no number of KindRtp
		// the last one of those with the number
		{api.ModeOptimistic, numbers{10, 11, 10}, 1, 10, true, numbers{10, 11, 10}, 1},
		{api.ModeOptimistic, numbers{10, 11, 10}, 2, 10, true, numbers{10, 11, 10}, 2},
		{api.ModeReliable, numbers{10, 11, 10, 12}, 3, 10, false, numbers{10, 12}, 1},
		{api.ModeReliable, numbers{7, 7, 7, 7}, 3, 7, true, numbers{7}, 0},
		// numbers at their limits
		{api.ModeReliable, numbers{65534, 65535, 0, 1}, 2, 65535, false, numbers{65535, 0, 1}, 1},
		{api.ModeReliable, numbers{65534, 65535, 0, 1}, 2, 0, true, numbers{0, 1}, 0},
	} {
		for _, header := range headersOf {
			for _, counts := range [][2]int{{4, 0}, {1, 0}, {0, 4}, {0, 1}, {0, 0}} {
				s := api.Sending{Full: counts[0], Refresh: counts[1], Series: x.series, Since: 5, Long: 2, References: flowOf(header, x.references...)}
				next := applied(t, holding(t, x.mode, 4, 6, s), api.Feedback{Context: 6, Number: x.number})
				want := s
				want.Series, want.References = x.seriesBehind, flowOf(header, x.left...)
				if x.ends {
					want.Full, want.Refresh = 0, 0
				}
				if !reflect.DeepEqual(next, holding(t, x.mode, 4, 6, want)) {
					t.Errorf("%d: %+v, and not %+v", i, next.Contexts[6], want)
				}
			}
		}
	}
}

func TestNack(t *testing.T) {
	for _, mode := range answeredModes {
		for _, x := range []struct{ kind, full, refresh, fullBehind, refreshBehind int }{
			{api.Nack, 0, 0, 0, 5},
			{api.Nack, 0, 1, 0, 5},
			{api.Nack, 0, 5, 0, 5},
			{api.Nack, 1, 0, 5, 0},
			{api.Nack, 5, 0, 5, 0},
			{api.StaticNack, 0, 0, 5, 0},
			{api.StaticNack, 0, 1, 5, 0},
			{api.StaticNack, 0, 5, 5, 0},
			{api.StaticNack, 1, 0, 5, 0},
			{api.StaticNack, 5, 0, 5, 0},
		} {
			for series := range 4 {
				for _, number := range []int{0, 20, 21, 22, 23, 65535} { // which does not matter
					s := api.Sending{Full: x.full, Refresh: x.refresh, Series: series, Since: 32, Long: 3, Dynamic: api.Dynamic{Stride: 160, Follow: 1}, References: flowOf(speech, 20, 21, 22)}
					next := applied(t, holding(t, mode, 5, 0, s), api.Feedback{Kind: x.kind, Number: number})
					want := s
					want.Full, want.Refresh, want.Series = x.fullBehind, x.refreshBehind, 3
					if !reflect.DeepEqual(next, holding(t, mode, 5, 0, want)) {
						t.Errorf("mode %d, %+v, Series %d, number %d: %+v", mode, x, series, number, next.Contexts[0])
					}
				}
			}
		}
	}
}

// Every kind of feedback, in each state of a series that is possible, for numbers of references from the least to the most.
func TestApplyAll(t *testing.T) {
	for _, mode := range answeredModes {
		for _, width := range []int{1, 2, 3, 8} {
			for n := 1; n <= width; n++ {
				checkAll(t, mode, width, n)
			}
		}
	}
	checkAll(t, api.ModeReliable, 2, 32)
}

// checkAll checks all feedback about a context with n references.
func checkAll(t *testing.T, mode, width, n int) {
	t.Helper()
	numbers := []int{}
	for i := range n {
		numbers = append(numbers, (65530+i)%65536)
	}
	for _, counts := range [][2]int{{0, 0}, {width, 0}, {0, width}, {1, 0}, {0, 1}} {
		for series := range n + 1 {
			s := api.Sending{Full: counts[0], Refresh: counts[1], Series: series, References: flowOf(plain, numbers...)}
			c := holding(t, mode, width, 1, s)
			for _, kind := range feedbackKinds {
				for _, number := range append(numbers, 65529, 100) {
					applied(t, c, api.Feedback{Context: 1, Kind: kind, Number: number})
				}
			}
		}
	}
}

// crowded returns a compressor with a flow in each context, in the same state but for a port.
func crowded(t testing.TB, mode int) api.Compressor {
	t.Helper()
	c, _ := compressor.New(mode, 4)
	for i := range c.Contexts {
		header := func(number int) api.Header {
			h := headersOf[i%2](number)
			h.ToPort = i
			return h
		}
		c.Contexts[i] = api.Sending{Active: true, Full: 3, Series: 1, Since: i, References: flowOf(header, 100, 101, 102, 103)}
	}
	if !compressor.Valid(c) {
		t.Fatal("not valid")
	}
	return c
}

func TestOtherContexts(t *testing.T) {
	for _, mode := range answeredModes {
		c := crowded(t, mode)
		for i := range c.Contexts {
			for _, kind := range feedbackKinds {
				next := applied(t, c, api.Feedback{Context: i, Kind: kind, Number: 102})
				for k := range c.Contexts {
					if reflect.DeepEqual(next.Contexts[k], c.Contexts[k]) != (k != i) {
						t.Errorf("mode %d, kind %d about %d: context %d is %+v", mode, kind, i, k, next.Contexts[k])
					}
				}
			}
		}
	}
}

// R2: the result shares no memory with the argument, nor do its contexts with each other.
func TestMemory(t *testing.T) {
	for _, mode := range answeredModes {
		for _, kind := range feedbackKinds {
			for _, number := range []int{50, 100, 102, 103} {
				c := crowded(t, mode)
				f := api.Feedback{Context: 5, Kind: kind, Number: number}
				next, _ := feedback.Apply(c, f)
				for i := range next.Contexts {
					s := &next.Contexts[i]
					s.References[0].Ttl = 1
					s.References = append(s.References, api.Header{})
					clear(s.References)
					*s = api.Sending{}
				}
				if !reflect.DeepEqual(c, crowded(t, mode)) {
					t.Fatalf("mode %d, %+v: a change of the result changes the argument", mode, f)
				}
				next, _ = feedback.Apply(c, f)
				want := copies.Compressor(next)
				for i := range c.Contexts {
					clear(c.Contexts[i].References)
				}
				clear(c.Contexts)
				if !reflect.DeepEqual(next, want) {
					t.Fatalf("mode %d, %+v: a change of the argument changes the result", mode, f)
				}
				next.Contexts[4].References = append(next.Contexts[4].References, api.Header{Ttl: 9})
				next.Contexts[5].References[0].Ttl = 9
				if !reflect.DeepEqual(next.Contexts[6], want.Contexts[6]) || next.Contexts[5].References[0].Ttl != 9 {
					t.Fatalf("mode %d, %+v: contexts share memory", mode, f)
				}
			}
		}
	}
}

// Consequences: what Apply returns is valid. Contexts by chance, some of them not valid, and feedback by chance.
func TestApplyMany(t *testing.T) {
	r := rand.New(rand.NewSource(2))
	seen := map[api.Errno]int{}
	for range 10000 {
		width := 1 + r.Intn(8)
		c, _ := compressor.New(modes[r.Intn(3)], width)
		for i := range 3 {
			c.Contexts[i] = someContext(r, width, i)
		}
		if r.Intn(10) == 0 {
			c.Contexts[0].Series += r.Intn(9) - 4
		}
		for range 5 {
			f := api.Feedback{Context: r.Intn(5), Kind: r.Intn(3), Number: r.Intn(12)}
			if r.Intn(10) == 0 {
				f.Kind += r.Intn(5) - 2
			}
			next, e := apply(t, c, f)
			seen[e]++
			if e == api.OK {
				c = next
			}
		}
	}
	for _, e := range []api.Errno{api.OK, api.ErrInvalid, api.ErrState, api.ErrContext} {
		if seen[e] < 1000 {
			t.Errorf("error %d came only %d times", e, seen[e])
		}
	}
}

// someContext returns a context by chance whose numbers are less than 12.
func someContext(r *rand.Rand, width, port int) api.Sending {
	if r.Intn(4) == 0 {
		return api.Sending{}
	}
	s := api.Sending{Active: true, Since: r.Intn(33), Long: r.Intn(4)}
	header := headersOf[r.Intn(2)]
	for range 1 + r.Intn(width) {
		h := header(r.Intn(12))
		h.ToPort = port
		s.References = append(s.References, h)
	}
	s.Series = r.Intn(len(s.References) + 1)
	switch r.Intn(3) {
	case 0:
		s.Full = r.Intn(width + 1)
	case 1:
		s.Refresh = r.Intn(width + 1)
	}
	return s
}

// Where nothing is said about it, a state stays as it is.
func TestNothingChanges(t *testing.T) {
	for _, mode := range answeredModes {
		c := crowded(t, mode)
		for _, number := range []int{0, 99, 104, 65535} {
			if next := applied(t, c, api.Feedback{Context: 2, Number: number}); !reflect.DeepEqual(next, c) {
				t.Errorf("mode %d, number %d: %+v", mode, number, next.Contexts[2])
			}
		}
	}
}
