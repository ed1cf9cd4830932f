package feedback_test

import (
	"bytes"
	"encoding/hex"
	"math"
	"math/rand"
	"testing"

	"radiolink/api"
	"radiolink/feedback"
)

var feedbackKinds = []int{api.Ack, api.Nack, api.StaticNack}

// extremes are numbers that are none of feedback.
var extremes = []int{math.MinInt, -1 << 40, -65536, -256, -16, -1, 1 << 16, 1 << 32, 1 << 40, math.MaxInt}

// someNumbers are at the limits of bytes.
var someNumbers = []int{0, 1, 2, 127, 128, 254, 255, 256, 257, 0x1234, 0x7fff, 0x8000, 0xe000, 0xf0f0, 0xff00, 65534, 65535}

// everyFeedback returns valid feedback of every context and kind, with some numbers.
func everyFeedback() []api.Feedback {
	l := []api.Feedback{}
	for context := range 16 {
		for _, kind := range feedbackKinds {
			for _, number := range someNumbers {
				l = append(l, api.Feedback{Context: context, Kind: kind, Number: number})
			}
		}
	}
	return l
}

func encode(t testing.TB, f api.Feedback) []byte {
	t.Helper()
	b, e := feedback.Encode(f)
	if e != api.OK {
		t.Fatalf("Encode of %+v: error %d", f, e)
	}
	return b
}

// checkDecode compares Decode with the model, and returns the error.
func checkDecode(t testing.TB, b []byte) api.Errno {
	t.Helper()
	before := bytes.Clone(b)
	f, e := feedback.Decode(b)
	if want, wantE := modelDecode(before); f != want || e != wantE {
		t.Fatalf("Decode of %x: %+v, %d, and not %+v, %d", before, f, e, want, wantE)
	}
	if !bytes.Equal(b, before) {
		t.Fatalf("Decode of %x changes it to %x", before, b)
	}
	return e
}

// P11.1

// The bytes were written out from the definition, and their check values computed with a table by another program.
func TestBytes(t *testing.T) {
	for _, x := range []struct {
		f    api.Feedback
		want string
	}{
		{api.Feedback{}, "f0000047"},
		{api.Feedback{Kind: api.Nack, Number: 1}, "f100012b"},
		{api.Feedback{Kind: api.StaticNack, Number: 65535}, "f2ffffb5"},
		{api.Feedback{Context: 1, Number: 0x1234}, "e1f012343e"},
		{api.Feedback{Context: 9, Kind: api.Nack, Number: 0xff00}, "e9f1ff00c3"},
		{api.Feedback{Context: 15, Kind: api.StaticNack, Number: 0x00ff}, "eff200ff2e"},
	} {
		want, _ := hex.DecodeString(x.want)
		if b, e := feedback.Encode(x.f); e != api.OK || !bytes.Equal(b, want) {
			t.Errorf("Encode of %+v: %x, %d, and not %s", x.f, b, e, x.want)
		}
		if f, e := feedback.Decode(want); e != api.OK || f != x.f {
			t.Errorf("Decode of %s: %+v, %d, and not %+v", x.want, f, e, x.f)
		}
	}
}

func TestEncode(t *testing.T) {
	for _, f := range everyFeedback() {
		want, _ := modelEncode(f)
		if b, e := feedback.Encode(f); e != api.OK || !bytes.Equal(b, want) {
			t.Errorf("Encode of %+v: %x, %d, and not %x", f, b, e, want)
		}
	}
}

func TestEncodeInvalid(t *testing.T) {
	good := api.Feedback{Context: 3, Kind: api.Nack, Number: 500}
	for _, x := range []struct {
		name string
		most int
		of   func(f *api.Feedback) *int
	}{
		{"Context", 15, func(f *api.Feedback) *int { return &f.Context }},
		{"Kind", 2, func(f *api.Feedback) *int { return &f.Kind }},
		{"Number", 65535, func(f *api.Feedback) *int { return &f.Number }},
	} {
		for _, v := range append([]int{-2, 0, 1, 3, 4, 14, 16, 17, 255, 256, x.most, x.most + 1}, extremes...) {
			f := good
			*x.of(&f) = v
			b, e := feedback.Encode(f)
			if between(v, 0, x.most) {
				if want, _ := modelEncode(f); e != api.OK || !bytes.Equal(b, want) {
					t.Errorf("%s = %d: %x, %d", x.name, v, b, e)
				}
				continue
			}
			if e != api.ErrInvalid || b != nil {
				t.Errorf("%s = %d: %x, %d", x.name, v, b, e)
			}
		}
	}
}

// Consequences: Decode of Encode is the feedback.
func TestDecodeOfEncode(t *testing.T) {
	for _, context := range []int{0, 15} {
		for number := range 1 << 16 {
			f := api.Feedback{Context: context, Kind: number % 3, Number: number}
			if got, e := feedback.Decode(encode(t, f)); e != api.OK || got != f {
				t.Fatalf("%+v: %+v, %d", f, got, e)
			}
		}
	}
	for _, f := range everyFeedback() {
		if got, e := feedback.Decode(encode(t, f)); e != api.OK || got != f {
			t.Errorf("%+v: %+v, %d", f, got, e)
		}
	}
}

func TestEncodeSharesNothing(t *testing.T) {
	f := api.Feedback{Context: 1, Number: 2}
	b := encode(t, f)
	clear(b)
	if want, _ := modelEncode(f); !bytes.Equal(encode(t, f), want) {
		t.Error("another call sees what was done to a result")
	}
}

// Too few bytes are ErrEnd whatever they are, and too many ErrForm.
func TestDecodeSizes(t *testing.T) {
	if e := checkDecode(t, nil); e != api.ErrEnd {
		t.Errorf("nil: error %d", e)
	}
	if e := checkDecode(t, []byte{}); e != api.ErrEnd {
		t.Errorf("no byte: error %d", e)
	}
	for first := range 256 {
		asked := 4
		if first>>4 == 0b1110 {
			asked = 5
		}
		for n := 1; n <= 8; n++ {
			for _, other := range []byte{0, 0xe1, 0xf0, 0xff} {
				b := append([]byte{byte(first)}, bytes.Repeat([]byte{other}, n-1)...)
				e := checkDecode(t, b)
				if n < asked && e != api.ErrEnd || n > asked && e != api.ErrForm || n == asked && e == api.ErrEnd {
					t.Errorf("%x: error %d", b, e)
				}
			}
		}
	}
}

func TestDecodeCut(t *testing.T) {
	for _, f := range everyFeedback() {
		b := encode(t, f)
		for n := range b {
			if e := checkDecode(t, b[:n]); e != api.ErrEnd {
				t.Errorf("%d bytes of %x: error %d", n, b, e)
			}
		}
		for _, more := range [][]byte{{0}, {0xf0}, {0, 0}, b, make([]byte, 3000)} {
			if e := checkDecode(t, append(bytes.Clone(b), more...)); e != api.ErrForm {
				t.Errorf("%d bytes behind %x: error %d", len(more), b, e)
			}
		}
	}
}

// Bytes that are not those of a context and a kind are ErrForm, whether or not the check value fits.
func TestDecodeForm(t *testing.T) {
	for second := range 256 {
		if second>>4 != 0b1110 { // that would ask for a byte more
			checkForm(t, between(second, 0xf0, 0xf2), byte(second), 1, 2)
		}
		for first := range 256 {
			checkForm(t, between(first, 0xe1, 0xef) && between(second, 0xf0, 0xf2), byte(first), byte(second), 1, 2)
		}
	}
}

// checkForm decodes bytes with a check value that fits, and with one that does not.
func checkForm(t *testing.T, good bool, b ...byte) {
	t.Helper()
	right := checkOf(b)
	for _, sum := range []byte{right, right ^ 1} {
		want := api.ErrForm
		if good && sum == right {
			want = api.OK
		} else if good {
			want = api.ErrCheck
		}
		if e := checkDecode(t, append(bytes.Clone(b), sum)); e != want {
			t.Fatalf("%x%02x: error %d, and not %d", b, sum, e, want)
		}
	}
}

// checkOf returns the check value of bytes.
func checkOf(b []byte) byte {
	register := byte(0xff)
	for _, x := range b {
		register ^= x
		for range 8 {
			over := register >> 7
			register = register<<1 ^ over*7
		}
	}
	return register
}

func TestDecodeContextZero(t *testing.T) {
	b := []byte{0xe0, 0xf0, 1, 2}
	if e := checkDecode(t, b); e != api.ErrEnd {
		t.Errorf("%x: error %d", b, e)
	}
	b = append(b, checkOf(b))
	if e := checkDecode(t, b); e != api.ErrForm {
		t.Errorf("%x: error %d", b, e)
	}
}

func TestDecodeCheck(t *testing.T) {
	for _, f := range everyFeedback() {
		b := encode(t, f)
		right := b[len(b)-1]
		for sum := range 256 {
			b[len(b)-1] = byte(sum)
			want := api.ErrCheck
			if byte(sum) == right {
				want = api.OK
			}
			if e := checkDecode(t, b); e != want {
				t.Fatalf("%x: error %d", b, e)
			}
		}
	}
}

// One wrong bit, or wrong ones that stand near each other, are always noticed.
func TestDecodeDamaged(t *testing.T) {
	for i, f := range everyFeedback() {
		if i%7 != 0 {
			continue
		}
		b := encode(t, f)
		for at := range 8 * len(b) {
			for burst := 1; burst < 256; burst += 2 {
				damaged := bytes.Clone(b)
				for k := 0; k < 8 && at+k < 8*len(b); k++ {
					damaged[(at+k)/8] ^= byte(burst>>k&1) << (7 - (at+k)%8)
				}
				if e := checkDecode(t, damaged); e == api.OK {
					t.Fatalf("%x as %x: no error", b, damaged)
				}
			}
		}
	}
}

func TestDecodeMany(t *testing.T) {
	r := rand.New(rand.NewSource(1))
	firsts := []byte{0xe0, 0xe1, 0xef, 0xf0, 0xf1, 0xf2, 0xf3, 0xff, 0}
	seen := map[api.Errno]int{}
	for range 200000 {
		b := make([]byte, r.Intn(7))
		r.Read(b)
		for i := 0; i < 2 && i < len(b); i++ {
			if r.Intn(4) > 0 {
				b[i] = firsts[r.Intn(len(firsts))]
			}
		}
		if len(b) > 0 && r.Intn(2) == 0 {
			b[len(b)-1] = checkOf(b[:len(b)-1])
		}
		seen[checkDecode(t, b)]++
	}
	for _, e := range []api.Errno{api.OK, api.ErrEnd, api.ErrForm, api.ErrCheck} {
		if seen[e] < 1000 {
			t.Errorf("error %d came only %d times", e, seen[e])
		}
	}
}
