package flow_test

import (
	"math"
	"testing"

	"radiolink/api"
	"radiolink/flow"
)

// field is a number of a header: whether it is static, what Changed counts for it, and the greatest value that it has for each kind.
type field struct {
	name     string
	static   bool
	changed  int
	udp, rtp int
	of       func(h *api.Header) *int
}

func (f field) most(kind int) int {
	if kind == api.KindRtp {
		return f.rtp
	}
	return f.udp
}

var kinds = []int{api.KindUdp, api.KindRtp}

// fields are all fields but Kind. Check counts only if it is 0 in one of two headers.
var fields = []field{
	{"Tos", false, 1, 255, 255, func(h *api.Header) *int { return &h.Tos }},
	{"Id", false, 0, 65535, 65535, func(h *api.Header) *int { return &h.Id }},
	{"Fixed", false, 4, 1, 1, func(h *api.Header) *int { return &h.Fixed }},
	{"Ttl", false, 2, 255, 255, func(h *api.Header) *int { return &h.Ttl }},
	{"From", true, 0, 4294967295, 4294967295, func(h *api.Header) *int { return &h.From }},
	{"To", true, 0, 4294967295, 4294967295, func(h *api.Header) *int { return &h.To }},
	{"FromPort", true, 0, 65535, 65535, func(h *api.Header) *int { return &h.FromPort }},
	{"ToPort", true, 0, 65535, 65535, func(h *api.Header) *int { return &h.ToPort }},
	{"Check", false, 16, 65535, 65535, func(h *api.Header) *int { return &h.Check }},
	{"Marker", false, 0, 0, 1, func(h *api.Header) *int { return &h.Marker }},
	{"Type", false, 8, 0, 127, func(h *api.Header) *int { return &h.Type }},
	{"Seq", false, 0, 0, 65535, func(h *api.Header) *int { return &h.Seq }},
	{"Time", false, 0, 0, 4294967295, func(h *api.Header) *int { return &h.Time }},
	{"Source", true, 0, 0, 4294967295, func(h *api.Header) *int { return &h.Source }},
}

// middle returns a header away from all limits, whose fields are all different.
func middle(kind int) api.Header {
	h := api.Header{Kind: kind, Tos: 184, Id: 4660, Fixed: 1, Ttl: 63, From: 167838211, To: 3232300669, FromPort: 23233, ToPort: 5020, Check: 40503}
	if kind == api.KindRtp {
		h.Marker, h.Type, h.Seq, h.Time, h.Source = 1, 96, 34661, 4275878552, 324508639
	}
	return h
}

// limit returns a header with all fields at their greatest values.
func limit(kind int) api.Header {
	h := api.Header{Kind: kind}
	for _, f := range fields {
		*f.of(&h) = f.most(kind)
	}
	return h
}

// strange returns headers that are not valid: with the same number in all fields, and kinds that there are none.
func strange() []api.Header {
	l := []api.Header{{}}
	for _, x := range []int{math.MinInt, -1 << 40, -65536, -1, 2, 65535, 1 << 40, math.MaxInt} {
		for _, kind := range []int{-1, 0, api.KindUdp, api.KindRtp, 3, x} {
			h := api.Header{Kind: kind}
			for _, f := range fields {
				*f.of(&h) = x
			}
			l = append(l, h)
		}
	}
	return l
}

func bases() []api.Header {
	l := []api.Header{}
	for _, kind := range kinds {
		l = append(l, api.Header{Kind: kind}, middle(kind), limit(kind))
	}
	return l
}

// headers returns valid headers of both kinds, with each field at and near its limits.
func headers() []api.Header {
	l := []api.Header{}
	for _, h := range bases() {
		l = append(l, h)
		for _, f := range fields {
			most := f.most(h.Kind)
			for _, x := range []int{0, 1, 255, 256, 32767, 32768, 65535, 65536, 1 << 31, most - 1, most} {
				if x >= 0 && x <= most {
					c := h
					*f.of(&c) = x
					l = append(l, c)
				}
			}
		}
	}
	return l
}

// outside returns h with one field out of its range, or with a kind that there is none.
func outside(h api.Header) []api.Header {
	l := []api.Header{}
	for _, f := range fields {
		most := f.most(h.Kind)
		for _, x := range []int{math.MinInt, -65536, -1, most + 1, most + 65536, most + 1<<32, math.MaxInt} {
			c := h
			*f.of(&c) = x
			l = append(l, c)
		}
	}
	for _, kind := range []int{math.MinInt, -1, 0, 3, 256 + api.KindRtp, 1<<32 + api.KindUdp, math.MaxInt} {
		c := h
		c.Kind = kind
		l = append(l, c)
	}
	return l
}

// others are values of a field that are all different from x, also those whose low bits are the same.
func others(x int) []int {
	return []int{x ^ 1, x ^ 1<<7, x ^ 1<<15, x ^ 1<<31, x ^ 1<<16, x ^ 1<<32, x ^ 1<<62, ^x}
}

// modulo is the model of numbers modulo a power of two.
func modulo(x, m int) int { return ((x % m) + m) % m }

// steps is the model of a step: the one of 65536 that leads from a number to another one.
func steps(from, to int) int {
	s := modulo(to, 65536) - modulo(from, 65536)
	for s >= 32768 {
		s -= 65536
	}
	for s < -32768 {
		s += 65536
	}
	return s
}

func number(h api.Header) int {
	if h.Kind == api.KindRtp {
		return h.Seq
	}
	return h.Id
}

// P6.1

func TestSame(t *testing.T) {
	for _, h := range append(bases(), strange()...) {
		if !flow.Same(h, h) {
			t.Errorf("%+v is not the same as itself", h)
		}
		for _, f := range fields {
			for _, x := range others(*f.of(&h)) {
				c := h
				*f.of(&c) = x
				if flow.Same(h, c) == f.static || flow.Same(c, h) == f.static {
					t.Errorf("%+v with %s %d: %t and %t", h, f.name, x, flow.Same(h, c), flow.Same(c, h))
				}
			}
		}
		for _, x := range others(h.Kind) {
			c := h
			c.Kind = x
			if flow.Same(h, c) || flow.Same(c, h) {
				t.Errorf("%+v with the kind %d is the same", h, x)
			}
		}
	}
}

// All other fields may be different at once; of the static ones each counts for itself.
func TestSameWithSeveralFieldsChanged(t *testing.T) {
	for _, h := range bases() {
		c := h
		for _, f := range fields {
			if !f.static {
				*f.of(&c) = *f.of(&h) + 77
			}
		}
		if !flow.Same(h, c) {
			t.Errorf("%+v and %+v are not the same", h, c)
		}
		for i, f := range fields {
			for _, g := range fields[:i] {
				c := h
				*f.of(&c), *g.of(&c) = *g.of(&h), *f.of(&h)
				want := !f.static && !g.static || *f.of(&h) == *g.of(&h)
				if flow.Same(h, c) != want {
					t.Errorf("%+v with %s and %s exchanged: %t", h, f.name, g.name, !want)
				}
			}
		}
	}
}

func TestStatic(t *testing.T) {
	for _, h := range append(headers(), strange()...) {
		want := api.Header{Kind: h.Kind, From: h.From, To: h.To, FromPort: h.FromPort, ToPort: h.ToPort, Source: h.Source}
		if got := flow.Static(h); got != want {
			t.Errorf("%+v: %+v; want %+v", h, got, want)
		}
	}
}

func TestStaticWithEachField(t *testing.T) {
	for _, kind := range kinds {
		for _, f := range fields {
			h, want := api.Header{Kind: kind}, api.Header{Kind: kind}
			*f.of(&h) = 5
			if f.static {
				*f.of(&want) = 5
			}
			if got := flow.Static(h); got != want {
				t.Errorf("kind %d, %s: %+v", kind, f.name, got)
			}
		}
	}
}

func TestNumber(t *testing.T) {
	for _, x := range []int{0, 1, 255, 256, 32767, 32768, 65534, 65535, 65536, 65537, -1, -2, -65535, -65536, -65537, 1 << 32, 1<<40 + 3, math.MinInt, math.MinInt + 5, math.MaxInt} {
		for _, kind := range []int{-1, 0, api.KindUdp, api.KindRtp, 3, 256 + api.KindRtp, 1<<32 + api.KindRtp, math.MaxInt} {
			h := middle(api.KindRtp)
			h.Kind = kind
			h.Id, h.Seq = x, 7
			want := modulo(x, 65536)
			if kind == api.KindRtp {
				h.Id, h.Seq = 7, x
			}
			if got := flow.Number(h); got != want {
				t.Errorf("kind %d, %d: %d; want %d", kind, x, got, want)
			}
		}
	}
	for _, h := range headers() {
		if got := flow.Number(h); got != number(h) {
			t.Errorf("%+v: %d; want %d", h, got, number(h))
		}
	}
}

// P6.2

func TestChangedWithEachField(t *testing.T) {
	for _, h := range append(headers(), strange()...) {
		if got := flow.Changed(h, h); got != 0 {
			t.Errorf("%+v and itself: %d", h, got)
		}
		for _, f := range fields {
			for _, x := range others(*f.of(&h)) {
				c := h
				*f.of(&c) = x
				want := f.changed
				if f.name == "Check" && (h.Check == 0) == (x == 0) {
					want = 0
				}
				if got, back := flow.Changed(h, c), flow.Changed(c, h); got != want || back != want {
					t.Errorf("%+v with %s %d: %d and %d; want %d", h, f.name, x, got, back, want)
				}
			}
		}
		for _, kind := range others(h.Kind) {
			c := h
			c.Kind = kind
			if got := flow.Changed(h, c); got != 0 {
				t.Errorf("%+v with the kind %d: %d", h, kind, got)
			}
		}
	}
}

func TestChangedWithAllSetsOfFields(t *testing.T) {
	for _, h := range bases() {
		for set := range 1 << len(fields) {
			c, want := h, 0
			for i, f := range fields {
				if set>>i&1 == 0 {
					continue
				}
				if f.name == "Check" && h.Check != 0 {
					c.Check = 0
				} else {
					*f.of(&c)++
				}
				want += f.changed
			}
			if got := flow.Changed(h, c); got != want {
				t.Fatalf("%+v and %+v: %d; want %d", h, c, got, want)
			}
		}
	}
}

func TestChangedCountsWhetherThereIsACheck(t *testing.T) {
	values := []int{0, 1, 2, 255, 256, 32768, 65535, 65536, 1 << 32, -1, math.MinInt, math.MaxInt}
	for _, x := range values {
		for _, y := range values {
			a, b := middle(api.KindRtp), middle(api.KindRtp)
			a.Check, b.Check = x, y
			want := 0
			if x != y && (x == 0 || y == 0) {
				want = 16
			}
			if got := flow.Changed(a, b); got != want {
				t.Errorf("Check %d and %d: %d; want %d", x, y, got, want)
			}
		}
	}
}

// P6.3

func dynamics() []api.Dynamic {
	l := []api.Dynamic{}
	for _, follow := range []int{0, 1} {
		for _, stride := range []int{0, 1, 2, 159, 160, 255, 256, 32767, 32768, 65534, 65535} {
			l = append(l, api.Dynamic{Stride: stride, Follow: follow})
		}
	}
	return l
}

// predicted is the model of a predicted header.
func predicted(d api.Dynamic, last api.Header, to int) api.Header {
	h := last
	h.Marker = 0
	h.Check = 0
	s := steps(number(last), to)
	switch {
	case h.Kind == api.KindUdp:
		h.Id = modulo(to, 65536)
	case d.Follow == 1:
		h.Id = modulo(last.Id+s, 65536)
		fallthrough
	default:
		h.Seq = modulo(to, 65536)
		h.Time = modulo(last.Time+d.Stride*s, 4294967296)
	}
	return h
}

func wantPredicted(t *testing.T, d api.Dynamic, last api.Header, to int) {
	t.Helper()
	if got, want := flow.Predict(d, last, to), predicted(d, last, to); got != want {
		t.Fatalf("%+v, %+v, %d: %+v; want %+v", d, last, to, got, want)
	}
}

func TestPredict(t *testing.T) {
	for _, h := range headers() {
		for _, d := range dynamics() {
			for _, s := range []int{0, 1, 2, 3, 255, 32766, 32767, 32768, 32769, 65535, 65536, 65537, -1, -2, -32767, -32768, -32769, -65536} {
				wantPredicted(t, d, h, number(h)+s)
				wantPredicted(t, d, h, modulo(number(h)+s, 65536))
			}
		}
	}
}

func TestPredictWithEachNumber(t *testing.T) {
	for _, h := range bases() {
		for _, d := range []api.Dynamic{{}, {Follow: 1}, {Stride: 160}, {Stride: 160, Follow: 1}, {Stride: 65535, Follow: 1}} {
			for to := range 65536 {
				wantPredicted(t, d, h, to)
			}
		}
	}
}

func TestPredictTakesTheNumberModulo(t *testing.T) {
	d := api.Dynamic{Stride: 160, Follow: 1}
	for _, h := range bases() {
		for _, to := range []int{0, 1, 77, 32767, 32768, 65535} {
			want := flow.Predict(d, h, to)
			if want.Kind != h.Kind {
				t.Fatalf("%+v, %d: %+v", h, to, want)
			}
			for _, more := range []int{65536, -65536, 1 << 20, -1 << 20, 1 << 32, -1 << 32, 1 << 62, math.MinInt, math.MaxInt - 65535} {
				if got := flow.Predict(d, h, to+more); got != want {
					t.Errorf("%+v, %d: %+v; want %+v", h, to+more, got, want)
				}
			}
		}
		wantPredicted(t, d, h, math.MinInt)
		wantPredicted(t, d, h, math.MaxInt)
	}
}

// Written out, with steps ahead, back, over the end of all numbers, and exactly half away.
func TestPredictValues(t *testing.T) {
	last := api.Header{Kind: api.KindRtp, Tos: 1, Ttl: 2, Id: 65530, Fixed: 1, From: 3, To: 4, FromPort: 5, ToPort: 6, Check: 7, Marker: 1, Type: 8, Seq: 65533, Time: 4294967000, Source: 9}
	for _, x := range []struct {
		d                     api.Dynamic
		to, id, seq, timeWant int
	}{
		{api.Dynamic{Stride: 160, Follow: 1}, 65533, 65530, 65533, 4294967000},
		{api.Dynamic{Stride: 160, Follow: 1}, 65534, 65531, 65534, 4294967160},
		{api.Dynamic{Stride: 160, Follow: 1}, 65535, 65532, 65535, 24},
		{api.Dynamic{Stride: 160, Follow: 1}, 0, 65533, 0, 184},
		{api.Dynamic{Stride: 160, Follow: 1}, 3, 0, 3, 664},
		{api.Dynamic{Stride: 160, Follow: 0}, 3, 65530, 3, 664},
		{api.Dynamic{Stride: 0, Follow: 1}, 3, 0, 3, 4294967000},
		{api.Dynamic{Stride: 160, Follow: 1}, 65532, 65529, 65532, 4294966840},
		{api.Dynamic{Stride: 1, Follow: 1}, 32764, 32761, 32764, 4294967000 + 32767 - 4294967296},
		{api.Dynamic{Stride: 1, Follow: 1}, 32765, 32762, 32765, 4294967000 - 32768},
	} {
		want := last
		want.Marker, want.Check, want.Id, want.Seq, want.Time = 0, 0, x.id, x.seq, x.timeWant
		if got := flow.Predict(x.d, last, x.to); got != want {
			t.Errorf("%+v, %d: %+v; want %+v", x.d, x.to, got, want)
		}
	}
	last = api.Header{Kind: api.KindUdp, Tos: 1, Ttl: 2, Id: 65530, Fixed: 1, From: 3, To: 4, FromPort: 5, ToPort: 6, Check: 7}
	for _, d := range dynamics() {
		want := last
		want.Check, want.Id = 0, 12
		if got := flow.Predict(d, last, 12); got != want {
			t.Errorf("%+v: %+v; want %+v", d, got, want)
		}
	}
}

func TestPredictOfWhatIsNotValid(t *testing.T) {
	for _, h := range bases() {
		for _, c := range outside(h) {
			for _, d := range []api.Dynamic{{}, {Stride: 160, Follow: 1}} {
				if got := flow.Predict(d, c, 5); got != (api.Header{}) {
					t.Errorf("%+v: %+v", c, got)
				}
			}
		}
		for _, d := range []api.Dynamic{
			{Stride: -1}, {Stride: 65536}, {Stride: 65537}, {Stride: 65536 + 160}, {Stride: 1<<32 + 160}, {Stride: math.MinInt}, {Stride: math.MaxInt},
			{Follow: -1}, {Follow: 2}, {Follow: 257}, {Follow: 1<<32 + 1}, {Follow: math.MinInt}, {Follow: math.MaxInt},
			{Stride: 160, Follow: 2}, {Stride: -1, Follow: 1}, {Stride: 65536, Follow: 1}, {Stride: -1, Follow: -1},
		} {
			for _, to := range []int{0, 5, number(h), number(h) + 1} {
				if got := flow.Predict(d, h, to); got != (api.Header{}) {
					t.Errorf("%+v, %+v, %d: %+v", d, h, to, got)
				}
			}
		}
	}
}

// P6.4

// learned is the model of Learn: it looks for the quotient by multiplying.
func learned(a, b api.Header) api.Dynamic {
	d := api.Dynamic{}
	s := steps(a.Seq, b.Seq)
	grown := modulo(b.Time-a.Time, 4294967296)
	if grown >= 2147483648 {
		grown -= 4294967296
	}
	if s != 0 {
		for _, x := range []int{grown/s - 1, grown / s, grown/s + 1} {
			if x >= 0 && x <= 65535 && x*s == grown {
				d.Stride = x
			}
		}
	}
	if (a.Id+s-b.Id)%65536 == 0 {
		d.Follow = 1
	}
	return d
}

func wantLearned(t *testing.T, a, b api.Header, want api.Dynamic) {
	t.Helper()
	if got := flow.Learn(a, b); got != want {
		t.Fatalf("%+v, %+v: %+v; want %+v", a, b, got, want)
	}
}

// ahead returns h with Seq s steps, Time by time, and Id by id ahead.
func ahead(h api.Header, s, time, id int) api.Header {
	h.Seq = modulo(h.Seq+s, 65536)
	h.Time = modulo(h.Time+time, 4294967296)
	h.Id = modulo(h.Id+id, 65536)
	return h
}

var rtps = []api.Header{{Kind: api.KindRtp}, middle(api.KindRtp), limit(api.KindRtp)}

func TestLearn(t *testing.T) {
	for _, h := range rtps {
		for _, s := range []int{0, 1, 2, 3, 7, 255, 32766, 32767, -32768, -32767, -255, -7, -2, -1} {
			for _, stride := range []int{0, 1, 2, 160, 32768, 65534, 65535, 65536, 65537, -1, -160, -65535} {
				for _, rest := range []int{-2, -1, 0, 1, 2} {
					for _, id := range []int{0, 1, s - 1, s, s + 1, s + 32768, -s} {
						b := ahead(h, s, s*stride+rest, id)
						wantLearned(t, h, b, learned(h, b))
					}
				}
			}
		}
	}
}

// Written out: the step, by how much Time and Id grow, and what is learned.
func TestLearnValues(t *testing.T) {
	for _, x := range []struct{ s, time, id, stride, follow int }{
		{1, 160, 1, 160, 1},
		{1, 160, 0, 160, 0},
		{2, 320, 2, 160, 1},
		{2, 320, 1, 160, 0},
		{2, 321, 2, 0, 1},
		{3, 320, 3, 0, 1},
		{1, 0, 1, 0, 1},
		{1, 65535, 0, 65535, 0},
		{1, 65536, 0, 0, 0},
		{2, 131070, 0, 65535, 0},
		{2, 131071, 0, 0, 0},
		{2, 131072, 0, 0, 0},
		{1, -1, 0, 0, 0},
		{1, -160, 1, 0, 1},
		{2, -320, 2, 0, 1},
		{-1, -160, -1, 160, 1},
		{-1, 160, -1, 0, 1},
		{-2, -320, 0, 160, 0},
		{-2, -321, 0, 0, 0},
		{-3, -320, 0, 0, 0},
		{-1, -65535, 0, 65535, 0},
		{-1, -65536, 0, 0, 0},
		{0, 0, 0, 0, 1},
		{0, 0, 1, 0, 0},
		{0, 160, 0, 0, 1},
		{0, 160, 5, 0, 0},
		{0, -160, -1, 0, 0},
		{32767, 32767 * 65535, 32767, 65535, 1},
		{32767, 32767 * 65536, 32767, 0, 1},
		{32768, -32768 * 65535, 32768, 65535, 1},
		{32768, 32768 * 65535, 32768, 0, 1},
		{32768, -32768 * 160, -32768, 160, 1},
		{32768, 1 << 31, 0, 0, 0},
		{1, 1 << 31, 0, 0, 0},
		{-1, 1 << 31, 0, 0, 0},
		{1, 1<<31 - 1, 0, 0, 0},
		{65535, -160, 65535, 160, 1},
	} {
		for _, h := range rtps {
			wantLearned(t, h, ahead(h, x.s, x.time, x.id), api.Dynamic{Stride: x.stride, Follow: x.follow})
		}
	}
}

func TestLearnWithEachNumber(t *testing.T) {
	for _, h := range rtps {
		for s := -32768; s < 32768; s++ {
			want := api.Dynamic{Stride: 160, Follow: 1}
			if s == 0 {
				want.Stride = 0
			}
			wantLearned(t, h, ahead(h, s, 160*s, s), want)
			b := ahead(h, s, 160*s+1, s+1)
			wantLearned(t, h, b, learned(h, b))
		}
	}
}

// What changes slowly, Marker and Check do not matter.
func TestLearnDependsOnNothingElse(t *testing.T) {
	want := api.Dynamic{Stride: 160, Follow: 1}
	for _, h := range rtps {
		b := ahead(h, 3, 480, 3)
		for _, f := range fields {
			if f.static || f.name == "Seq" || f.name == "Time" || f.name == "Id" {
				continue
			}
			for _, x := range []int{0, 1, f.rtp} {
				c, d := h, b
				*f.of(&c) = x
				wantLearned(t, c, b, want)
				*f.of(&d) = x
				wantLearned(t, h, d, want)
			}
		}
	}
}

func TestLearnOfOtherHeaders(t *testing.T) {
	zero := api.Dynamic{}
	for _, h := range rtps {
		b := ahead(h, 3, 480, 3)
		for _, f := range fields {
			if !f.static {
				continue
			}
			for _, x := range []int{0, 1, 2, 32768, f.rtp} {
				if c := b; x != *f.of(&b) {
					*f.of(&c) = x
					wantLearned(t, h, c, zero)
					wantLearned(t, c, h, zero)
				}
			}
		}
		for _, c := range outside(h) {
			wantLearned(t, c, b, zero)
			wantLearned(t, c, c, zero)
		}
		for _, c := range outside(b) {
			wantLearned(t, h, c, zero)
			wantLearned(t, c, c, zero)
		}
	}
	for _, h := range []api.Header{{Kind: api.KindUdp}, middle(api.KindUdp), limit(api.KindUdp)} {
		wantLearned(t, h, h, zero)
		b := h
		b.Id = modulo(h.Id+1, 65536)
		wantLearned(t, h, b, zero)
		for _, c := range rtps {
			wantLearned(t, h, c, zero)
			wantLearned(t, c, h, zero)
		}
	}
	wantLearned(t, api.Header{}, api.Header{}, zero)
}

// R1 and R4

func TestHeadersThatAreNotValid(t *testing.T) {
	for _, a := range strange() {
		for _, b := range append(strange(), bases()...) {
			flow.Same(a, b)
			flow.Changed(a, b)
			wantLearned(t, a, b, api.Dynamic{})
			wantLearned(t, b, a, api.Dynamic{})
		}
		for _, x := range []int{math.MinInt, -1, 0, 1, math.MaxInt} {
			if got := flow.Predict(api.Dynamic{Stride: 160, Follow: 1}, a, x); got != (api.Header{}) {
				t.Errorf("%+v, %d: %+v", a, x, got)
			}
		}
	}
}

// Consequences

func TestThePredictionWithWhatIsLearned(t *testing.T) {
	for _, h := range rtps {
		for _, s := range []int{0, 1, 2, 3, 100, 32767, -1, -2, -100, -32768} {
			for _, stride := range []int{0, 1, 160, 3000, 65535} {
				for _, id := range []int{0, s} {
					b := ahead(h, s, s*stride, id)
					b.Marker, b.Check = 0, 0
					if got := flow.Predict(flow.Learn(h, b), h, flow.Number(b)); got != b {
						t.Errorf("%+v, %+v: %+v", h, b, got)
					}
				}
			}
		}
	}
}

// A flow goes on as it was learned from its first two packets, with some of them lost.
func TestAFlowThatGoesOn(t *testing.T) {
	first := api.Header{Kind: api.KindRtp, Tos: 184, Id: 65000, Ttl: 64, From: 1, To: 2, FromPort: 3, ToPort: 4, Type: 96, Seq: 65100, Time: 4294900000, Source: 5}
	for _, follow := range []int{0, 1} {
		d := flow.Learn(first, ahead(first, 1, 160, follow))
		if d != (api.Dynamic{Stride: 160, Follow: follow}) {
			t.Fatalf("%+v", d)
		}
		last := first
		for i := 1; i < 1000; i += 1 + i%7 {
			want := ahead(first, i, 160*i, follow*i)
			if got := flow.Predict(d, last, flow.Number(want)); got != want {
				t.Fatalf("packet %d: %+v; want %+v", i, got, want)
			}
			last = want
		}
	}
}

// Examples

func TestExamples(t *testing.T) {
	a := api.Header{Kind: api.KindRtp, Id: 10, Ttl: 64, From: 1, To: 2, FromPort: 5004, ToPort: 5006, Type: 96, Seq: 100, Time: 8000, Source: 3}
	b := a
	b.Id, b.Seq, b.Time = 11, 101, 8160
	d := flow.Learn(a, b)
	if d != (api.Dynamic{Stride: 160, Follow: 1}) {
		t.Errorf("%+v", d)
	}
	c := b
	c.Id, c.Seq, c.Time = 13, 103, 8480
	if got := flow.Predict(d, b, 103); got != c {
		t.Errorf("%+v; want %+v", got, c)
	}
}
