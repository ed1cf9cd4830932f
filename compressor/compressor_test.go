package compressor_test

import (
	"bytes"
	"encoding/hex"
	"fmt"
	"math"
	"math/rand"
	"reflect"
	"strings"
	"testing"

	"radiolink/api"
	"radiolink/compressor"
	"radiolink/flow"
	"radiolink/format"
	"radiolink/packet"
)

var modes = []int{api.ModeOneWay, api.ModeOptimistic, api.ModeReliable}

var kinds = []int{api.KindUdp, api.KindRtp}

var smallFormats = []int{api.FormatTiny, api.FormatShort, api.FormatLong}

const (
	word = 1<<16 - 1
	long = 1<<32 - 1
)

// extremes are numbers that are none of a compressor's.
var extremes = []int{math.MinInt, -1 << 40, -1, 1 << 16, 1 << 32, 1 << 40, math.MaxInt}

func speech() api.Header {
	return api.Header{Kind: api.KindRtp, Tos: 184, Id: 65533, Fixed: 1, Ttl: 64, From: 0x0a000001, To: 0xc0a80102, FromPort: 5004, ToPort: 5006,
		Type: 96, Seq: 65530, Time: long - 300, Source: 0x11223344}
}

func plain() api.Header {
	return api.Header{Kind: api.KindUdp, Id: 65530, Ttl: 64, From: 1, To: 2, FromPort: 3, ToPort: 4}
}

func first(kind int) api.Header {
	if kind == api.KindRtp {
		return speech()
	}
	return plain()
}

// later returns the header that is some regular steps of 160 behind another one, with Id following.
func later(h api.Header, steps int) api.Header { return flow.Predict(rule(h), h, flow.Number(h)+steps) }

// rule returns the parameters by which later goes on.
func rule(h api.Header) api.Dynamic {
	if h.Kind == api.KindUdp {
		return api.Dynamic{}
	}
	return api.Dynamic{Stride: 160, Follow: 1}
}

// regular returns n headers that go on regularly.
func regular(h api.Header, n int) []api.Header {
	l := []api.Header{}
	for i := range n {
		l = append(l, later(h, i))
	}
	return l
}

// plus returns a header with changes.
func plus(h api.Header, changes ...func(h *api.Header)) api.Header {
	for _, f := range changes {
		f(&h)
	}
	return h
}

func build(t testing.TB, h api.Header, payload ...byte) []byte {
	t.Helper()
	b, e := packet.Build(h, payload)
	if e != api.OK {
		t.Fatalf("Build of %+v: error %d", h, e)
	}
	return b
}

func fresh(t testing.TB, mode, width int) api.Compressor {
	t.Helper()
	c, e := compressor.New(mode, width)
	if e != api.OK {
		t.Fatalf("New(%d, %d): error %d", mode, width, e)
	}
	return c
}

// same tells whether two compressors are equal, with no references as nil or not.
func same(a, b api.Compressor) bool {
	return reflect.DeepEqual(tidy(a), tidy(b))
}

func tidy(c api.Compressor) api.Compressor {
	if len(c.Contexts) == 0 {
		c.Contexts = nil
		return c
	}
	return modelClone(c)
}

// letters stand for the formats in the tests.
const letters = "?TSLRFW"

func letterOf(t testing.TB, b []byte) string {
	t.Helper()
	_, f, e := format.Peek(b)
	if e != api.OK {
		t.Fatalf("Peek of %x: error %d", b, e)
	}
	return letters[f : f+1]
}

// send compresses a packet, compares with the model, and returns the letter of its format.
func send(t testing.TB, c api.Compressor, b []byte) (api.Compressor, string) {
	t.Helper()
	next, out, e := compressor.Compress(c, b)
	want, wantOut, wantE := modelCompress(c, b)
	if !same(next, want) || !bytes.Equal(out, wantOut) || e != wantE {
		t.Fatalf("Compress of %x by %+v:\n%+v, %x, %d, and not\n%+v, %x, %d", b, c, next, out, e, want, wantOut, wantE)
	}
	if e != api.OK {
		t.Fatalf("Compress of %x: error %d", b, e)
	}
	if !compressor.Valid(next) {
		t.Fatalf("behind %x not valid: %+v", b, next)
	}
	return next, letterOf(t, out)
}

// sendAll compresses packets of headers, and returns the letters of their formats.
func sendAll(t testing.TB, c api.Compressor, headers []api.Header) (api.Compressor, string) {
	t.Helper()
	text, letter := "", ""
	for i, h := range headers {
		c, letter = send(t, c, build(t, h, byte(i), 2, 3))
		text += letter
	}
	return c, text
}

// acknowledged returns a compressor whose first context has got the acknowledgement of its last packet, as chapter 11 says.
func acknowledged(c api.Compressor) api.Compressor {
	c = modelClone(c)
	s := &c.Contexts[0]
	s.Full, s.Refresh, s.Series = 0, 0, 0
	s.References = s.References[len(s.References)-1:]
	return c
}

// repeated returns letters: pairs of a letter and a number.
func repeated(pairs ...any) string {
	text := ""
	for i := 0; i < len(pairs); i += 2 {
		text += strings.Repeat(pairs[i].(string), pairs[i+1].(int))
	}
	return text
}

// P9.1

func TestNew(t *testing.T) {
	for _, mode := range append([]int{0, 1, 2, 3, 4, 5, 17}, extremes...) {
		for _, width := range append([]int{0, 1, 2, 3, 4, 5, 6, 7, 8, 9, 10, 32}, extremes...) {
			c, e := compressor.New(mode, width)
			if !between(mode, 1, 3) || !between(width, 1, 8) {
				if e != api.ErrRange || !reflect.DeepEqual(c, api.Compressor{}) {
					t.Errorf("New(%d, %d): %+v, %d", mode, width, c, e)
				}
				continue
			}
			if e != api.OK || c.Mode != mode || c.Width != width || len(c.Contexts) != 16 || !compressor.Valid(c) {
				t.Errorf("New(%d, %d): %+v, %d", mode, width, c, e)
			}
			for i, s := range c.Contexts {
				if !modelZero(s) {
					t.Errorf("New(%d, %d): context %d is %+v", mode, width, i, s)
				}
			}
		}
	}
}

// sample returns a valid compressor with three flows.
func sample(t testing.TB, mode, width int) api.Compressor {
	c := fresh(t, mode, width)
	other := plus(speech(), func(h *api.Header) { h.Source = 9 })
	c.Contexts[0] = api.Sending{Active: true, Refresh: 1, Since: 7, Long: 1, Dynamic: api.Dynamic{Stride: 160, Follow: 1}, References: regular(speech(), width)}
	c.Contexts[3] = api.Sending{Active: true, Since: 32, References: regular(plain(), 1)}
	c.Contexts[15] = api.Sending{Active: true, Full: width, Series: 1, Long: 3, Since: 1, References: []api.Header{other}}
	return c
}

func TestValidSample(t *testing.T) {
	for _, mode := range modes {
		for width := 1; width <= 8; width++ {
			if !compressor.Valid(sample(t, mode, width)) {
				t.Errorf("mode %d, width %d: not valid", mode, width)
			}
		}
	}
	if compressor.Valid(api.Compressor{}) {
		t.Error("the zero compressor is valid")
	}
}

// checkValid compares Valid with the model and with what is expected, and Compress with it.
func checkValid(t *testing.T, name string, c api.Compressor, want bool) {
	t.Helper()
	if got := compressor.Valid(c); got != want || got != modelValid(c) {
		t.Errorf("%s: Valid is %v, and not %v (model: %v)", name, got, want, modelValid(c))
	}
	next, out, e := compressor.Compress(c, build(t, plain()))
	if (e == api.OK) != want || (e == api.ErrInvalid) == want {
		t.Errorf("%s: Compress gives error %d", name, e)
	}
	if !want && (!reflect.DeepEqual(next, api.Compressor{}) || out != nil) {
		t.Errorf("%s: Compress gives %+v, %x with an error", name, next, out)
	}
}

func TestValidNumbers(t *testing.T) {
	for _, x := range []struct {
		name        string
		least, most int
		of          func(c *api.Compressor) *int
	}{
		{"Mode", 1, 3, func(c *api.Compressor) *int { return &c.Mode }},
		{"Width", 4, 8, func(c *api.Compressor) *int { return &c.Width }}, // Full is 4
		{"Full", 0, 4, func(c *api.Compressor) *int { return &c.Contexts[15].Full }},
		{"Refresh", 0, 4, func(c *api.Compressor) *int { return &c.Contexts[0].Refresh }},
		{"Series", 0, 4, func(c *api.Compressor) *int { return &c.Contexts[0].Series }},
		{"Series", 0, 1, func(c *api.Compressor) *int { return &c.Contexts[3].Series }},
		{"Since", 0, 32, func(c *api.Compressor) *int { return &c.Contexts[0].Since }},
		{"Long", 0, 3, func(c *api.Compressor) *int { return &c.Contexts[0].Long }},
		{"Long of KindUdp", 0, 3, func(c *api.Compressor) *int { return &c.Contexts[3].Long }},
		{"Stride", 0, 65535, func(c *api.Compressor) *int { return &c.Contexts[0].Dynamic.Stride }},
		{"Follow", 0, 1, func(c *api.Compressor) *int { return &c.Contexts[0].Dynamic.Follow }},
		{"Stride of KindUdp", 0, 0, func(c *api.Compressor) *int { return &c.Contexts[3].Dynamic.Stride }},
		{"Follow of KindUdp", 0, 0, func(c *api.Compressor) *int { return &c.Contexts[3].Dynamic.Follow }},
		{"Full beside Refresh", 0, 0, func(c *api.Compressor) *int { return &c.Contexts[0].Full }},
		{"Refresh beside Full", 0, 0, func(c *api.Compressor) *int { return &c.Contexts[15].Refresh }},
		{"Full of none", 0, 0, func(c *api.Compressor) *int { return &c.Contexts[1].Full }},
		{"Refresh of none", 0, 0, func(c *api.Compressor) *int { return &c.Contexts[1].Refresh }},
		{"Series of none", 0, 0, func(c *api.Compressor) *int { return &c.Contexts[1].Series }},
		{"Since of none", 0, 0, func(c *api.Compressor) *int { return &c.Contexts[1].Since }},
		{"Long of none", 0, 0, func(c *api.Compressor) *int { return &c.Contexts[1].Long }},
		{"Stride of none", 0, 0, func(c *api.Compressor) *int { return &c.Contexts[1].Dynamic.Stride }},
		{"Follow of none", 0, 0, func(c *api.Compressor) *int { return &c.Contexts[1].Dynamic.Follow }},
		{"Ttl of a reference", 0, 255, func(c *api.Compressor) *int { return &c.Contexts[0].References[2].Ttl }},
		{"Marker of a reference", 0, 1, func(c *api.Compressor) *int { return &c.Contexts[0].References[3].Marker }},
		{"Seq of KindUdp", 0, 0, func(c *api.Compressor) *int { return &c.Contexts[3].References[0].Seq }},
		{"Kind of a reference", 2, 2, func(c *api.Compressor) *int { return &c.Contexts[0].References[1].Kind }},
	} {
		for _, v := range append([]int{x.least - 1, x.least, x.least + 1, x.most - 1, x.most, x.most + 1, 2 * x.most}, extremes...) {
			c := sample(t, api.ModeOptimistic, 4)
			*x.of(&c) = v
			checkValid(t, fmt.Sprintf("%s = %d", x.name, v), c, between(v, x.least, x.most))
		}
	}
}

func TestValidReferences(t *testing.T) {
	for _, mode := range modes {
		for width := 1; width <= 8; width++ {
			for n := range 40 {
				c := fresh(t, mode, width)
				c.Contexts[2] = api.Sending{Active: true, References: regular(speech(), n)}
				most := width
				if mode == api.ModeReliable {
					most = 32
				}
				checkValid(t, fmt.Sprintf("mode %d, width %d, %d references", mode, width, n), c, between(n, 1, most))
			}
		}
	}
	for i, change := range []func(h *api.Header){
		func(h *api.Header) { h.From++ },
		func(h *api.Header) { h.To++ },
		func(h *api.Header) { h.FromPort++ },
		func(h *api.Header) { h.ToPort++ },
		func(h *api.Header) { h.Source++ },
		func(h *api.Header) { *h = plain() },
	} {
		for k := range 4 {
			c := sample(t, api.ModeReliable, 4)
			change(&c.Contexts[0].References[k])
			checkValid(t, fmt.Sprintf("change %d of reference %d", i, k), c, false)
		}
	}
	c := sample(t, api.ModeReliable, 4)
	c.Contexts[0].References[1] = plus(speech(), func(h *api.Header) { h.Tos, h.Type, h.Check, h.Seq, h.Time, h.Id = 1, 2, 3, 4, 5, 6 })
	checkValid(t, "references that are far apart", c, true)
}

func TestValidContexts(t *testing.T) {
	for _, n := range []int{0, 1, 15, 17, 32} {
		c := fresh(t, api.ModeOptimistic, 4)
		c.Contexts = make([]api.Sending, n)
		checkValid(t, fmt.Sprintf("%d contexts", n), c, false)
	}
	for _, width := range append([]int{0, 1, 8, 9}, extremes...) {
		c := fresh(t, api.ModeOptimistic, 4)
		c.Width = width
		checkValid(t, fmt.Sprintf("width %d", width), c, between(width, 1, 8))
	}
	for i := range 16 {
		for k := range 16 {
			c := fresh(t, api.ModeOptimistic, 4)
			c.Contexts[i] = api.Sending{Active: true, References: []api.Header{speech()}}
			c.Contexts[k] = api.Sending{Active: true, References: []api.Header{later(speech(), 50)}}
			checkValid(t, fmt.Sprintf("the same flow in %d and %d", i, k), c, i == k)
		}
	}
	c := sample(t, api.ModeOptimistic, 4)
	c.Contexts[3].Active = false
	checkValid(t, "references of a context that is not active", c, false)
	c = sample(t, api.ModeOptimistic, 4)
	c.Contexts[1].Active = true
	checkValid(t, "an active context without references", c, false)
	c = sample(t, api.ModeOptimistic, 4)
	c.Contexts[1].References = []api.Header{}
	checkValid(t, "empty references", c, true)
}

// P9.2

func TestErrors(t *testing.T) {
	good, bad := fresh(t, api.ModeOptimistic, 4), api.Compressor{}
	for i, x := range []struct {
		c    api.Compressor
		b    []byte
		want api.Errno
	}{
		{bad, nil, api.ErrInvalid},
		{bad, make([]byte, 1501), api.ErrInvalid},
		{bad, build(t, plain()), api.ErrInvalid},
		{good, nil, api.ErrSize},
		{good, []byte{}, api.ErrSize},
		{good, make([]byte, 1501), api.ErrSize},
		{good, make([]byte, 100000), api.ErrSize},
	} {
		next, out, e := compressor.Compress(x.c, x.b)
		if e != x.want || out != nil || !reflect.DeepEqual(next, api.Compressor{}) {
			t.Errorf("%d: %+v, %x, %d", i, next, out, e)
		}
	}
}

func TestRaw(t *testing.T) {
	full := make([]byte, 1500)
	for _, b := range [][]byte{{0}, {0x45}, make([]byte, 27), make([]byte, 28), full, append(build(t, plain()), 0), bytes.Repeat([]byte{0xff}, 1500)} {
		for _, mode := range modes {
			c := sample(t, mode, 4)
			next, out, e := compressor.Compress(c, b)
			if e != api.OK || !bytes.Equal(out, append([]byte{0xd2}, b...)) || !same(next, c) {
				t.Errorf("mode %d, %x: %+v, %x, %d", mode, b, next, out, e)
			}
		}
	}
}

func TestFirstBytes(t *testing.T) {
	for i, x := range []struct {
		h       api.Header
		payload string
		want    string
	}{
		{speech(), "aabb", "d1" + "02" + "0a000001" + "c0a80102" + "138c" + "138e" + "11223344" + "b840" + "80" + "60" + "fffa" + "fffd" + "fffffed3" + "0000"},
		{plain(), "", "d1" + "01" + "00000001" + "00000002" + "0003" + "0004" + "0040" + "00" + "fffa"},
	} {
		payload, _ := hex.DecodeString(x.payload)
		head, _ := hex.DecodeString(x.want)
		b := build(t, x.h, payload...)
		_, out, e := compressor.Compress(fresh(t, api.ModeOptimistic, 2), b)
		if e != api.OK || len(out) != len(head)+1+len(payload) || !bytes.Equal(out[:len(head)], head) || !bytes.Equal(out[len(head)+1:], payload) {
			t.Errorf("%d: %x, %d", i, out, e)
		}
	}
}

func TestRegular(t *testing.T) {
	for width := 1; width <= 8; width++ {
		for _, x := range []struct {
			name string
			h    []api.Header
			want string
		}{
			{"Id follows", regular(speech(), 100), repeated("F", width, "L", 3, "R", width, "T", 97-2*width)},
			{"a plain flow", regular(plain(), 100), repeated("F", width, "T", 100-width)},
			{"Id is constant", withId(regular(speech(), 100), 5), repeated("F", width, "S", 3, "R", width, "T", 97-2*width)},
			{"Time is constant, too", withTime(withId(regular(speech(), 100), 5), 7), repeated("F", width, "T", 100-width)},
			{"with checksums", withCheck(regular(speech(), 100)), repeated("F", width, "L", 3, "R", width, "T", 97-2*width)},
		} {
			if _, got := sendAll(t, fresh(t, api.ModeOptimistic, width), x.h); got != x.want {
				t.Errorf("width %d, %s: %s, and not %s", width, x.name, got, x.want)
			}
		}
	}
}

func withId(l []api.Header, id int) []api.Header {
	for i := range l {
		l[i].Id = id
	}
	return l
}

func withTime(l []api.Header, time int) []api.Header {
	for i := range l {
		l[i].Time = time
	}
	return l
}

func withCheck(l []api.Header) []api.Header {
	for i := range l {
		l[i].Check = 1 + i*997%word
	}
	return l
}

func TestOneWay(t *testing.T) {
	for width := 1; width <= 8; width++ {
		_, got := sendAll(t, fresh(t, api.ModeOneWay, width), regular(plain(), 200))
		cycle := repeated("F", width, "T", 32)
		if want := strings.Repeat(cycle, 200)[:200]; got != want {
			t.Errorf("width %d: %s, and not %s", width, got, want)
		}
		_, got = sendAll(t, fresh(t, api.ModeOneWay, width), regular(speech(), 200))
		want := repeated("F", width, "L", 3, "R", width, "T", 29-width) + strings.Repeat(cycle, 200)
		if want = want[:200]; got != want {
			t.Errorf("width %d: %s, and not %s", width, got, want)
		}
	}
}

// In ModeOneWay a series of FormatRefresh gives way to one of FormatFull that is due.
func TestOneWayInsteadOfRefresh(t *testing.T) {
	l := regular(plain(), 50)
	for i := 30; i < len(l); i++ {
		l[i].Tos = 7
	}
	if _, got := sendAll(t, fresh(t, api.ModeOneWay, 4), l); got != repeated("F", 4, "T", 26, "R", 4, "T", 2, "F", 4, "T", 10) {
		t.Errorf("changed before: %s", got)
	}
	for i := 30; i < 34; i++ {
		l[i].Tos = 0
	}
	if _, got := sendAll(t, fresh(t, api.ModeOneWay, 4), l); got != repeated("F", 4, "T", 30, "R", 2, "F", 4, "T", 10) {
		t.Errorf("in the middle of a series: %s", got)
	}
	for i := 34; i < 36; i++ {
		l[i].Tos = 0
	}
	c, got := sendAll(t, fresh(t, api.ModeOneWay, 4), l[:37])
	if got != repeated("F", 4, "T", 32, "F", 1) || c.Contexts[0].Full != 3 || c.Contexts[0].Refresh != 0 {
		t.Errorf("with the same packet: %s, %+v", got, c.Contexts[0])
	}
}

func TestReliable(t *testing.T) {
	for width := 1; width <= 8; width++ {
		// Without acknowledgements a series does not end, and begins anew when no more references can be kept.
		c, got := sendAll(t, fresh(t, api.ModeReliable, width), regular(speech(), 70))
		if got != repeated("F", 70) || c.Contexts[0].Full != width || len(c.Contexts[0].References) != 6 || c.Contexts[0].Series != 0 {
			t.Errorf("width %d, without acknowledgements: %s, %+v", width, got, c.Contexts[0])
		}
		if c.Contexts[0].Dynamic != rule(speech()) {
			t.Errorf("width %d: what was forgotten has taught nothing: %+v", width, c.Contexts[0].Dynamic)
		}
		c, got = sendAll(t, acknowledged(c), regular(later(speech(), 70), 32))
		if got != repeated("T", 14, "S", 14, "L", 3, "F", 1) || len(c.Contexts[0].References) != 1 {
			t.Errorf("width %d, acknowledged once: %s, %+v", width, got, c.Contexts[0])
		}
	}
}

// From a reference 14 steps are understood in FormatTiny, 28 in FormatShort, 224 in FormatLong.
func TestSteps(t *testing.T) {
	for _, kind := range kinds {
		c := fresh(t, api.ModeReliable, 4)
		c.Contexts[0] = api.Sending{Active: true, Dynamic: rule(first(kind)), References: []api.Header{first(kind)}}
		for steps := -400; steps <= 400; steps++ {
			want := "W"
			switch {
			case between(steps, 1, 14):
				want = "T"
			case between(steps, 1, 28):
				want = "S"
			case between(steps, 1, 224), kind == api.KindUdp && between(steps, 1, 255):
				want = "L"
			case between(steps, 1, 255):
				want = "R"
			}
			next, got := send(t, c, build(t, later(first(kind), steps)))
			if got != want {
				t.Errorf("kind %d, %d steps: %s, and not %s", kind, steps, got, want)
			}
			if got == "W" && !same(next, c) {
				t.Errorf("kind %d, %d steps: FormatRaw has changed the compressor", kind, steps)
			}
		}
	}
}

// In the other modes a step may be any.
func TestAnySteps(t *testing.T) {
	for _, mode := range []int{api.ModeOneWay, api.ModeOptimistic} {
		for _, kind := range kinds {
			c := fresh(t, mode, 4)
			c.Contexts[0] = api.Sending{Active: true, Dynamic: rule(first(kind)), References: []api.Header{first(kind)}}
			for steps, want := range map[int]string{
				-40000: "RL", -300: "RL", -32: "RL", -31: "LL", -4: "LL", -3: "SS", -2: "SS", -1: "TT", 0: "TT", 14: "TT", 15: "SS", 28: "SS", 29: "LL", 224: "LL", 225: "RL", 30000: "RL",
			} {
				if _, got := send(t, c, build(t, later(first(kind), steps))); got != want[2-kind:3-kind] {
					t.Errorf("mode %d, kind %d, %d steps: %s, and not %s", mode, kind, steps, got, want)
				}
			}
		}
	}
}

func TestNoContext(t *testing.T) {
	for _, mode := range modes {
		c := fresh(t, mode, 2)
		of := func(i, number int) api.Header {
			return plus(later(plain(), number), func(h *api.Header) { h.FromPort = i })
		}
		letter := ""
		for i := range 16 {
			c, letter = send(t, c, build(t, of(i, 0)))
			if letter != "F" || !c.Contexts[i].Active || c.Contexts[i].References[0].FromPort != i {
				t.Fatalf("flow %d: %s, %+v", i, letter, c)
			}
		}
		if _, letter := send(t, c, build(t, of(16, 0))); letter != "W" {
			t.Errorf("mode %d: the flow 17 has a context", mode)
		}
		for i := 15; i >= 0; i-- {
			c, letter = send(t, c, build(t, of(i, 1)))
			if letter != "F" || len(c.Contexts[i].References) != 2 {
				t.Fatalf("flow %d goes on: %s, %+v", i, letter, c)
			}
		}
		c.Contexts[4] = api.Sending{}
		c.Contexts[9] = api.Sending{}
		if c, letter = send(t, c, build(t, of(12, 2))); letter == "W" || len(c.Contexts[12].References) < 2 {
			t.Errorf("mode %d: a flow behind a free context: %s", mode, letter)
		}
		if c, letter = send(t, c, build(t, of(17, 0))); letter != "F" || c.Contexts[4].References[0].FromPort != 17 || c.Contexts[9].Active {
			t.Errorf("mode %d: not the first free context", mode)
		}
	}
}

func TestContextByte(t *testing.T) {
	c := fresh(t, api.ModeOptimistic, 2)
	for i := range 16 {
		h := plus(plain(), func(h *api.Header) { h.To = i })
		next, out, e := compressor.Compress(c, build(t, h))
		if context, _, _ := format.Peek(out); e != api.OK || context != i {
			t.Errorf("flow %d: context %d, error %d", i, context, e)
		}
		c = next
	}
}

// Each of the slowly changing fields makes a series, of FormatFull if one is going on.
func TestChanged(t *testing.T) {
	for i, change := range []func(h *api.Header){
		func(h *api.Header) { h.Tos++ },
		func(h *api.Header) { h.Ttl-- },
		func(h *api.Header) { h.Fixed = 1 - h.Fixed },
		func(h *api.Header) { h.Check = 5 },
		func(h *api.Header) { h.Type++ },
	} {
		for _, h := range []api.Header{speech(), plain()} {
			if h.Kind == api.KindUdp && i == 4 {
				continue
			}
			l := regular(h, 40)
			for k := 20; k < len(l); k++ {
				change(&l[k])
			}
			_, got := sendAll(t, fresh(t, api.ModeOptimistic, 3), l)
			if want := repeated("R", 3, "T", 17); got[20:] != want || got[19:20] != "T" {
				t.Errorf("change %d: %s", i, got)
			}
			_, got = sendAll(t, fresh(t, api.ModeOptimistic, 3), l[18:])
			if got != repeated("F", 5, "T", 17) {
				t.Errorf("change %d in a series: %s", i, got)
			}
		}
	}
}

// A flow that changes within a series of FormatRefresh lets it begin anew.
func TestChangedTwice(t *testing.T) {
	l := regular(plain(), 40)
	for k := range l {
		l[k].Tos = min(max(k-19, 0), 2)
	}
	if _, got := sendAll(t, fresh(t, api.ModeOptimistic, 3), l); got != repeated("F", 3, "T", 17, "R", 4, "T", 16) {
		t.Errorf("%s", got)
	}
}

func TestIrregular(t *testing.T) {
	base := func() []api.Header { return regular(speech(), 60) } // in FormatTiny from 30 on
	for _, x := range []struct {
		name   string
		change func(l []api.Header)
		want   string // from 28 on
	}{
		{"nothing", func(l []api.Header) {}, "TTTTTTTT"},
		{"a marker", func(l []api.Header) { l[30].Marker = 1 }, "TTSTTTTT"},
		{"three markers, and the rule stays", func(l []api.Header) { l[30].Marker, l[31].Marker, l[32].Marker = 1, 1, 1 }, "TTSSSTTT"},
		{"four markers", func(l []api.Header) { l[30].Marker, l[31].Marker, l[32].Marker, l[33].Marker = 1, 1, 1, 1 }, "TTSSSSTT"},
		{"Time is a bit late once", func(l []api.Header) { l[30].Time += 100 }, "TTSSSTTT"},
		{"Time is far away once", func(l []api.Header) { l[30].Time = (l[30].Time + 1<<20) & long }, "TTLLLTTT"},
		{"Id jumps once", func(l []api.Header) { l[30].Id = 99 }, "TTLLLTTT"},
		{"Time jumps and stays", func(l []api.Header) { jump(l[30:], 100, 0) }, "TTSSTTTT"},
		{"Id jumps and stays", func(l []api.Header) { jump(l[30:], 0, 100) }, "TTLLTTTT"},
		{"Time jumps far and stays", func(l []api.Header) { jump(l[30:], 1<<30, 0) }, "TTLLTTTT"},
		{"another stride", func(l []api.Header) { stretch(l[30:], 20) }, "TTTSSSRR" + "TT"},
		{"Id stays from now on", func(l []api.Header) { withId(l[30:], l[29].Id) }, "TTLLLRRT"},
		{"a loss before", func(l []api.Header) { copy(l[30:], regular(later(l[30], 5), 30)) }, "TTTTTTTT"},
		{"a long loss before", func(l []api.Header) { copy(l[30:], regular(later(l[30], 20), 30)) }, "TTSSTTTT"},
		{"a longer loss before", func(l []api.Header) { copy(l[30:], regular(later(l[30], 100), 30)) }, "TTLLTTTT"},
		{"an endless loss before", func(l []api.Header) { copy(l[30:], regular(later(l[30], 1000), 30)) }, "TTRRTTTT"},
		{"in another order", func(l []api.Header) { l[30], l[31] = l[31], l[30] }, "TTTTTTTT"},
		{"again", func(l []api.Header) { l[31] = l[30] }, "TTTTTTTT"},
	} {
		l := base()
		x.change(l)
		if _, got := sendAll(t, fresh(t, api.ModeOptimistic, 2), l); got[28:28+len(x.want)] != x.want {
			t.Errorf("%s: %s, and not %s", x.name, got[28:], x.want)
		}
	}
}

func jump(l []api.Header, time, id int) {
	for i := range l {
		l[i].Time = (l[i].Time + time) & long
		l[i].Id = (l[i].Id + id) & word
	}
}

func stretch(l []api.Header, more int) {
	for i := range l {
		l[i].Time = (l[i].Time + i*more) & long
	}
}

// What a context remembers is not visible in the formats alone.
func TestCounts(t *testing.T) {
	c, _ := sendAll(t, fresh(t, api.ModeOptimistic, 4), regular(speech(), 2))
	want := api.Sending{Active: true, Full: 2, References: regular(speech(), 2)}
	if !reflect.DeepEqual(c.Contexts[0], want) {
		t.Errorf("in the first series: %+v", c.Contexts[0])
	}
	c, _ = sendAll(t, fresh(t, api.ModeOptimistic, 4), regular(speech(), 7))
	want = api.Sending{Active: true, Since: 3, Long: 3, References: regular(later(speech(), 3), 4)}
	if !reflect.DeepEqual(c.Contexts[0], want) {
		t.Errorf("behind three packets in FormatLong: %+v", c.Contexts[0])
	}
	c, _ = sendAll(t, fresh(t, api.ModeOptimistic, 4), regular(speech(), 8))
	want = api.Sending{Active: true, Refresh: 3, Series: 3, Since: 4, Dynamic: rule(speech()), References: regular(later(speech(), 4), 4)}
	if !reflect.DeepEqual(c.Contexts[0], want) {
		t.Errorf("behind the first packet in FormatRefresh: %+v", c.Contexts[0])
	}
	c, _ = sendAll(t, fresh(t, api.ModeOptimistic, 4), regular(speech(), 10))
	if s := c.Contexts[0]; s.Refresh != 1 || s.Series != 1 || s.Since != 6 || s.Long != 0 {
		t.Errorf("behind the third one: %+v", s)
	}
	c, _ = sendAll(t, fresh(t, api.ModeOptimistic, 4), regular(speech(), 100))
	if s := c.Contexts[0]; s.Refresh != 0 || s.Series != 0 || s.Since != 32 || s.Long != 0 {
		t.Errorf("behind many: %+v", s)
	}
}

// A series for which feedback has asked begins with the next packet, and is taught anew by it.
func TestAskedFor(t *testing.T) {
	for _, mode := range modes {
		for _, full := range []bool{true, false} {
			c := fresh(t, mode, 3)
			s := api.Sending{Active: true, Series: 2, Dynamic: api.Dynamic{Stride: 9}, References: regular(speech(), 2)}
			if full {
				s.Full = 3
			} else {
				s.Refresh = 3
			}
			c.Contexts[0] = s
			next, _ := send(t, c, build(t, later(speech(), 2)))
			if got := next.Contexts[0]; got.Dynamic != rule(speech()) || got.Series != 2 {
				t.Errorf("mode %d: %+v", mode, got)
			}
			c.Contexts[0].Series = 1 // it is going on
			next, _ = send(t, c, build(t, later(speech(), 2)))
			if got := next.Contexts[0]; got.Dynamic != (api.Dynamic{Stride: 9}) || got.Series != 1 {
				t.Errorf("mode %d, in a series: %+v", mode, got)
			}
			c.Contexts[0].Series, c.Contexts[0].Full, c.Contexts[0].Refresh = 2, 0, 0 // none is due
			next, _ = send(t, c, build(t, later(speech(), 2)))
			if got := next.Contexts[0]; got.Dynamic != (api.Dynamic{Stride: 9}) || got.Series != 2 {
				t.Errorf("mode %d, without a series: %+v", mode, got)
			}
		}
	}
}

// P9.3

func TestPossibleRefused(t *testing.T) {
	good := api.Sending{Active: true, Dynamic: rule(speech()), References: regular(speech(), 32)}
	h := later(speech(), 32)
	l := api.FormatLong
	if !compressor.Possible(good, h, l) {
		t.Fatal("FormatLong is not possible")
	}
	for i, change := range []func(s *api.Sending){
		func(s *api.Sending) { *s = api.Sending{} },
		func(s *api.Sending) { s.Active = false },
		func(s *api.Sending) { s.References = nil },
		func(s *api.Sending) { s.References = regular(speech(), 33) },
		func(s *api.Sending) { s.References[31].Tos = 256 },
		func(s *api.Sending) { s.References[31].Source = 9 },
		func(s *api.Sending) { s.Full = 9 },
		func(s *api.Sending) { s.Refresh = 9 },
		func(s *api.Sending) { s.Full, s.Refresh = 1, 1 },
		func(s *api.Sending) { s.Series = 33 },
		func(s *api.Sending) { s.Series = -1 },
		func(s *api.Sending) { s.Since = 33 },
		func(s *api.Sending) { s.Long = 4 },
		func(s *api.Sending) { s.Dynamic.Stride = 65536 },
		func(s *api.Sending) { s.Dynamic.Follow = 2 },
	} {
		s := good
		s.References = regular(speech(), 32)
		change(&s)
		if compressor.Possible(s, h, l) {
			t.Errorf("change %d of the context", i)
		}
	}
	for i, change := range []func(s *api.Sending){
		func(s *api.Sending) { s.Full = 8 },
		func(s *api.Sending) { s.Refresh = 8 },
		func(s *api.Sending) { s.Series = 32 },
		func(s *api.Sending) { s.Since, s.Long = 32, 3 },
	} {
		s := good
		change(&s)
		if !compressor.Possible(s, h, l) {
			t.Errorf("change %d of the context does not matter", i)
		}
	}
	for i, change := range []func(h *api.Header){
		func(h *api.Header) { *h = api.Header{} },
		func(h *api.Header) { h.Kind = api.KindUdp },
		func(h *api.Header) { h.Kind = 3 },
		func(h *api.Header) { h.From++ },
		func(h *api.Header) { h.ToPort++ },
		func(h *api.Header) { h.Source++ },
		func(h *api.Header) { h.Id = 65536 },
		func(h *api.Header) { h.Time = -1 },
		func(h *api.Header) { h.Check = 65536 },
	} {
		if compressor.Possible(good, plus(h, change), l) {
			t.Errorf("change %d of the header", i)
		}
	}
	for _, f := range append([]int{0, api.FormatRefresh, api.FormatFull, api.FormatRaw, 7}, extremes...) {
		if compressor.Possible(good, h, f) || compressor.Possible(api.Sending{Active: true, References: regular(plain(), 1)}, later(plain(), 1), f) {
			t.Errorf("format %d is possible", f)
		}
	}
}

// checkPossible compares which of the formats are possible, as letters.
func checkPossible(t *testing.T, name string, s api.Sending, h api.Header, want string) {
	t.Helper()
	got := ""
	for _, f := range smallFormats {
		if compressor.Possible(s, h, f) {
			got += letters[f : f+1]
		}
	}
	if got != want {
		t.Errorf("%s: %q, and not %q", name, got, want)
	}
}

func TestPossible(t *testing.T) {
	one := api.Sending{Active: true, Dynamic: rule(speech()), References: regular(speech(), 1)}
	h := later(speech(), 1)
	for _, x := range []struct {
		name   string
		change func(h *api.Header)
		want   string
	}{
		{"nothing", func(h *api.Header) {}, "TSL"},
		{"Tos", func(h *api.Header) { h.Tos = 1 }, ""},
		{"Ttl", func(h *api.Header) { h.Ttl = 1 }, ""},
		{"Fixed", func(h *api.Header) { h.Fixed = 0 }, ""},
		{"Type", func(h *api.Header) { h.Type = 1 }, ""},
		{"Check", func(h *api.Header) { h.Check = 1 }, ""},
		{"Marker", func(h *api.Header) { h.Marker = 1 }, "SL"},
		{"Id", func(h *api.Header) { h.Id++ }, "L"},
		{"Id as before", func(h *api.Header) { h.Id-- }, "L"},
		{"Time", func(h *api.Header) { h.Time++ }, "SL"},
		{"Time 8191 before", func(h *api.Header) { h.Time = speech().Time - 8191 }, "SL"},
		{"Time 8192 before", func(h *api.Header) { h.Time = speech().Time - 8192 }, "L"},
		{"Time 57344 later", func(h *api.Header) { h.Time = (speech().Time + 57344) & long }, "SL"},
		{"Time 57345 later", func(h *api.Header) { h.Time = (speech().Time + 57345) & long }, "L"},
		{"another regular one", func(h *api.Header) { *h = later(speech(), 14) }, "TSL"},
		{"15 steps", func(h *api.Header) { *h = later(speech(), 15) }, "SL"},
		{"28 steps", func(h *api.Header) { *h = later(speech(), 28) }, "SL"},
		{"29 steps", func(h *api.Header) { *h = later(speech(), 29) }, "L"},
		{"224 steps", func(h *api.Header) { *h = later(speech(), 224) }, "L"},
		{"225 steps", func(h *api.Header) { *h = later(speech(), 225) }, ""},
		{"a step back", func(h *api.Header) { *h = later(speech(), -1) }, "TSL"},
		{"two steps back", func(h *api.Header) { *h = later(speech(), -2) }, "SL"},
		{"31 steps back", func(h *api.Header) { *h = later(speech(), -31) }, "L"},
		{"32 steps back", func(h *api.Header) { *h = later(speech(), -32) }, ""},
	} {
		checkPossible(t, x.name, one, plus(h, x.change), x.want)
	}
	udp := api.Sending{Active: true, References: regular(plain(), 1)}
	for steps, want := range map[int]string{0: "TSL", 14: "TSL", 15: "SL", 28: "SL", 29: "L", 1000: "L", 32768: "L", -1: "TSL", -2: "SL", -3: "SL", -4: "L", -30000: "L"} {
		checkPossible(t, fmt.Sprintf("%d steps of a plain flow", steps), udp, later(plain(), steps), want)
	}
	checkPossible(t, "another Tos of a plain flow", udp, plus(later(plain(), 1), func(h *api.Header) { h.Tos = 1 }), "")
}

// All references count, wherever they stand.
func TestPossibleForAll(t *testing.T) {
	for at := range 4 {
		for _, x := range []struct {
			name   string
			change func(h *api.Header)
			want   string
		}{
			{"nothing", func(h *api.Header) {}, "TSL"},
			{"Tos", func(h *api.Header) { h.Tos = 1 }, ""},
			{"Check", func(h *api.Header) { h.Check = 1 }, ""},
			{"Marker", func(h *api.Header) { h.Marker = 1 }, "TSL"},
			{"Id", func(h *api.Header) { h.Id ^= 1 }, "L"},
			{"Time", func(h *api.Header) { h.Time++ }, "SL"},
			{"Time far away", func(h *api.Header) { h.Time = 1 << 31 }, "L"},
			{"15 steps before", func(h *api.Header) { *h = later(speech(), 4-15) }, "SL"},
			{"29 steps before", func(h *api.Header) { *h = later(speech(), 4-29) }, "L"},
			{"225 steps before", func(h *api.Header) { *h = later(speech(), 4-225) }, ""},
		} {
			s := api.Sending{Active: true, Dynamic: rule(speech()), References: regular(speech(), 4)}
			x.change(&s.References[at])
			checkPossible(t, fmt.Sprintf("%s in reference %d", x.name, at), s, later(speech(), 4), x.want)
		}
	}
}

// Packets and contexts by chance, compared with the model.

// wander returns the header behind another one: mostly a regular one.
func wander(r *rand.Rand, h api.Header) api.Header {
	h = plus(later(h, 1), func(n *api.Header) { n.Check = h.Check })
	if h.Check != 0 {
		h.Check = 1 + r.Intn(word)
	}
	switch r.Intn(40) {
	case 0:
		h.Tos = r.Intn(256)
	case 1:
		h.Ttl = r.Intn(256)
	case 2:
		h.Check = r.Intn(2) * (1 + r.Intn(word))
	case 3, 4:
		h = later(h, r.Intn(40)-5)
	case 5:
		h = later(h, r.Intn(400)-100)
	case 6:
		h.Id = r.Intn(word + 1)
	case 7:
		h.Fixed = r.Intn(2)
	}
	if h.Kind == api.KindUdp {
		return h
	}
	switch r.Intn(25) {
	case 0, 1:
		h.Marker = 1
	case 2:
		h.Time = r.Intn(long + 1)
	case 3:
		h.Time = (h.Time + r.Intn(2000)) & long
	case 4:
		h.Type = r.Intn(128)
	}
	return h
}

// told returns the compressor behind feedback by chance, as chapter 11 says.
func told(r *rand.Rand, c api.Compressor) api.Compressor {
	c = modelClone(c)
	s := &c.Contexts[r.Intn(4)]
	if !s.Active || c.Mode == api.ModeOneWay {
		return c
	}
	switch r.Intn(12) {
	case 0:
		s.Full, s.Refresh, s.Series = c.Width, 0, len(s.References)
	case 1, 2:
		if s.Full == 0 {
			s.Refresh = c.Width
		} else {
			s.Full = c.Width
		}
		s.Series = len(s.References)
	case 3, 4, 5, 6:
		k := r.Intn(len(s.References))
		if k >= s.Series {
			s.Full, s.Refresh = 0, 0
		}
		if c.Mode == api.ModeReliable {
			s.References = s.References[k:]
			s.Series = max(s.Series-k, 0)
		}
	}
	return c
}

func TestManyPackets(t *testing.T) {
	r := rand.New(rand.NewSource(9))
	seen := map[string]int{}
	for _, mode := range modes {
		for width := 1; width <= 8; width++ {
			c := fresh(t, mode, width)
			flows := []api.Header{}
			for i := range 20 {
				flows = append(flows, plus(first(kinds[i%2]), func(h *api.Header) { h.ToPort = i }))
			}
			for range 500 {
				i := r.Intn(min(1+r.Intn(20), 1+r.Intn(20)))
				flows[i] = wander(r, flows[i])
				b := build(t, flows[i], make([]byte, r.Intn(4))...)
				if r.Intn(50) == 0 {
					b[r.Intn(20)]++
				}
				letter := ""
				c, letter = send(t, c, b)
				seen[letter]++
				c = told(r, c)
			}
		}
	}
	for _, letter := range "TSLRFW" {
		if seen[string(letter)] < 100 {
			t.Errorf("format %c was chosen only %d times", letter, seen[string(letter)])
		}
	}
}

// chance returns a valid context by chance, and the next header.
func chance(r *rand.Rand, mode, width int) (api.Sending, api.Header) {
	h := first(kinds[r.Intn(2)])
	most := width
	if mode == api.ModeReliable {
		most = 32
	}
	s := api.Sending{Active: true, Since: r.Intn(2) * (31 + r.Intn(2)), Long: r.Intn(4)}
	if r.Intn(3) > 0 {
		s.Dynamic = rule(h)
	}
	for range max(most*r.Intn(2), 1+r.Intn(most)) {
		s.References = append(s.References, h)
		h = wander(r, h)
	}
	s.Series = r.Intn(len(s.References) + 1)
	switch r.Intn(4) {
	case 0:
		s.Full = 1 + r.Intn(width)
	case 1:
		s.Refresh = 1 + r.Intn(width)
	}
	return s, h
}

func TestManyContexts(t *testing.T) {
	r := rand.New(rand.NewSource(10))
	possible := map[int]int{}
	for range 15000 {
		mode, width := modes[r.Intn(3)], 1+r.Intn(8)
		s, h := chance(r, mode, width)
		c := fresh(t, mode, width)
		c.Contexts[r.Intn(16)] = s
		send(t, c, build(t, h))
		for _, f := range smallFormats {
			got := compressor.Possible(s, h, f)
			if got != modelPossible(s, h, f) {
				t.Fatalf("Possible(%+v, %+v, %d) is %v", s, h, f, got)
			}
			if got {
				possible[f]++
			}
		}
	}
	for _, f := range smallFormats {
		if possible[f] < 1000 || possible[f] > 14000 {
			t.Errorf("format %d was possible %d times", f, possible[f])
		}
	}
}

// Every state between valid and not: numbers by chance, compared with the model.
func TestManyInvalid(t *testing.T) {
	r := rand.New(rand.NewSource(11))
	valid := 0
	for range 20000 {
		c := sample(t, modes[r.Intn(3)], 1+r.Intn(8))
		for range r.Intn(3) {
			s := &c.Contexts[[]int{0, 1, 3, 15}[r.Intn(4)]]
			x := r.Intn(36) - 1
			switch r.Intn(8) {
			case 0:
				s.Full = x % 10
			case 1:
				s.Refresh = x % 10
			case 2:
				s.Series = x % 10
			case 3:
				s.Since = x
			case 4:
				s.Long = x % 6
			case 5:
				s.Dynamic.Follow = x % 3
			case 6:
				s.Active = !s.Active
			case 7:
				s.References = regular(first(kinds[r.Intn(2)]), r.Intn(10))
			}
		}
		want := modelValid(c)
		if compressor.Valid(c) != want {
			t.Fatalf("Valid(%+v) is not %v", c, want)
		}
		if want {
			valid++
		}
	}
	if valid < 2000 || valid > 18000 {
		t.Errorf("%d of them are valid", valid)
	}
}

// R1, R2, R3, R4

// roomy returns a compressor with room behind all slices, and what stands in it.
func roomy(c api.Compressor) (api.Compressor, func() string) {
	contexts := make([]api.Sending, 0, 40)
	rooms := [][]api.Header{}
	for _, s := range c.Contexts {
		room := make([]api.Header, 0, len(s.References)+20)
		room = append(room, s.References...)
		rooms = append(rooms, room[:cap(room)])
		s.References = room
		contexts = append(contexts, s)
	}
	c.Contexts = contexts
	return c, func() string { return fmt.Sprint(c, contexts[:cap(contexts)], rooms) }
}

func TestMemory(t *testing.T) {
	for _, mode := range modes {
		for _, h := range []api.Header{later(speech(), 4), later(plain(), 1), plus(speech(), func(h *api.Header) { h.FromPort = 1 }), plus(later(speech(), 4), func(h *api.Header) { h.Tos = 1 })} {
			c, text := roomy(sample(t, mode, 4))
			b := make([]byte, 0, 2000)
			b = append(b, build(t, h, 1, 2, 3)...)
			room := fmt.Sprint(b[:cap(b)])
			before := text()
			one, out, _ := compressor.Compress(c, b)
			two, out2, _ := compressor.Compress(c, b)
			if text() != before || fmt.Sprint(b[:cap(b)]) != room {
				t.Fatalf("mode %d: the arguments are changed", mode)
			}
			scratch(one, out)
			if text() != before || fmt.Sprint(b[:cap(b)]) != room {
				t.Errorf("mode %d: the result shares memory with the arguments", mode)
			}
			three, out3, _ := compressor.Compress(c, b)
			if !same(two, three) || !bytes.Equal(out2, out3) {
				t.Errorf("mode %d: the results share memory with each other", mode)
			}
		}
	}
	one, two := fresh(t, api.ModeOptimistic, 3), fresh(t, api.ModeOptimistic, 3)
	scratch(one, nil)
	if !same(two, fresh(t, api.ModeOptimistic, 3)) {
		t.Error("New returns the same memory twice")
	}
}

// scratch writes into all memory of a result.
func scratch(c api.Compressor, out []byte) {
	for i := range c.Contexts {
		l := c.Contexts[i].References
		for k := range l[:cap(l)] {
			l[:cap(l)][k].Tos = 77
		}
		c.Contexts[i].Long = 55
	}
	for i := range out[:cap(out)] {
		out[:cap(out)][i] = 99
	}
}

// The contexts of a result share no memory with each other: what is written into one is not in another.
func TestMemoryOfContexts(t *testing.T) {
	c := sample(t, api.ModeReliable, 4)
	next, _, _ := compressor.Compress(c, build(t, later(speech(), 4)))
	_ = append(next.Contexts[0].References, plain(), plain())
	_ = append(next.Contexts[3].References, speech(), speech())
	if got := next.Contexts[15].References[0]; got != c.Contexts[15].References[0] {
		t.Errorf("%+v", got)
	}
}

func TestRawMemory(t *testing.T) {
	b := []byte{1, 2, 3}
	c, text := roomy(sample(t, api.ModeReliable, 4))
	before := text()
	next, out, _ := compressor.Compress(c, b)
	scratch(next, out)
	if text() != before || !bytes.Equal(b, []byte{1, 2, 3}) {
		t.Error("a packet in FormatRaw shares memory with the arguments")
	}
}

// Consequences

func TestTinyFrom(t *testing.T) {
	for width := 1; width <= 8; width++ {
		for stride := 0; stride <= word; stride += 4369 {
			for follow := range 2 {
				h := plus(speech(), func(h *api.Header) { h.Seq = stride & word })
				d := api.Dynamic{Stride: stride, Follow: follow}
				l := []api.Header{}
				for i := range 60 {
					l = append(l, flow.Predict(d, h, h.Seq+i))
				}
				_, got := sendAll(t, fresh(t, api.ModeOptimistic, width), l)
				if tiny := got[2*width+3:]; strings.Trim(tiny, "T") != "" {
					t.Fatalf("width %d, %+v: %s", width, d, got)
				}
			}
		}
	}
}

// Whatever reference the other side has, it can read the packet: its number, its prediction.
func TestUnderstood(t *testing.T) {
	r := rand.New(rand.NewSource(12))
	for range 3000 {
		s, h := chance(r, api.ModeReliable, 8)
		for _, last := range s.References {
			if compressor.Possible(s, h, api.FormatTiny) {
				predicted := flow.Predict(s.Dynamic, last, flow.Number(h))
				predicted.Check = h.Check
				if predicted != h {
					t.Fatalf("%+v is predicted from %+v as %+v", h, last, predicted)
				}
			}
		}
	}
}

// Examples

func TestExamples(t *testing.T) {
	if _, letter := send(t, fresh(t, api.ModeOneWay, 1), build(t, speech())); letter != "F" {
		t.Errorf("the first packet of a flow is sent in %s", letter)
	}
	b := build(t, speech())
	b[0] = 0x60
	if _, letter := send(t, fresh(t, api.ModeOneWay, 1), b); letter != "W" {
		t.Errorf("a packet that is none of IPv4 is sent in %s", letter)
	}
}
