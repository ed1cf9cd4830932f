package check_test

import (
	"bytes"
	"math"
	"math/big"
	"slices"
	"testing"

	"radiolink/api"
	"radiolink/check"
)

// kinds are the five widths with their polynomials.
var kinds = []struct{ kind, polynomial int }{{3, 3}, {7, 9}, {8, 7}, {16, 0x1021}, {24, 0x864cfb}}

// remainder is the model against which the tests compare: the bits are a polynomial, the register stands before them, and the result is what a division leaves.
func remainder(kind, polynomial, register int, b []byte) int {
	rest := new(big.Int).Lsh(new(big.Int).SetBytes(b), uint(kind))
	rest.Xor(rest, new(big.Int).Lsh(big.NewInt(int64(register)), uint(8*len(b))))
	divisor := big.NewInt(int64(1<<kind | polynomial))
	for rest.BitLen() > kind {
		rest.Xor(rest, new(big.Int).Lsh(divisor, uint(rest.BitLen()-1-kind)))
	}
	return int(rest.Int64())
}

func isKind(kind int) bool {
	for _, k := range kinds {
		if k.kind == kind {
			return true
		}
	}
	return false
}

// badKinds are all small numbers that are none of the widths, numbers whose low bits are a width, and the ends of int.
func badKinds() []int {
	l := []int{math.MinInt, math.MinInt + 3, math.MaxInt - 1, math.MaxInt, -1 << 32, 1 << 32, 1<<32 + 8, -1<<32 + 8, 1<<40 + 24}
	for kind := -300; kind <= 300; kind++ {
		if !isKind(kind) {
			l = append(l, kind)
		}
	}
	return l
}

// samples returns strings of several lengths: the same byte all along, and mixed ones.
func samples() [][]byte {
	l := [][]byte{nil, {}, []byte("123456789"), []byte("radiolink")}
	for _, n := range []int{1, 2, 3, 4, 7, 8, 40, 300} {
		mixed := make([]byte, n)
		for i := range mixed {
			mixed[i] = byte(i*i*37 + i*11 + n)
		}
		l = append(l, mixed, make([]byte, n), bytes.Repeat([]byte{0xff}, n), bytes.Repeat([]byte{0x80}, n), bytes.Repeat([]byte{1}, n))
	}
	return l
}

// registers returns all registers of the narrow kinds, and those of the wide ones at both limits and in between.
func registers(kind int) []int {
	if kind <= 8 {
		l := make([]int, 1<<kind)
		for i := range l {
			l[i] = i
		}
		return l
	}
	most := 1<<kind - 1
	l := []int{0, 1, 2, most, most - 1, most / 2, most/2 + 1, 0x5a5a5a & most, 0xb704ce & most, 0x123456 & most}
	slices.Sort(l)
	return slices.Compact(l)
}

func sum(t *testing.T, kind int, b []byte) int {
	t.Helper()
	v, e := check.Sum(kind, b)
	if e != api.OK {
		t.Fatalf("Sum %d, %x: error %d", kind, b, e)
	}
	return v
}

func next(t *testing.T, kind, register int, b []byte) int {
	t.Helper()
	v, e := check.Next(kind, register, b)
	if e != api.OK {
		t.Fatalf("Next %d, %x, %x: error %d", kind, register, b, e)
	}
	return v
}

// P3.1

func TestSumIsTheRemainder(t *testing.T) {
	for _, k := range kinds {
		for _, b := range samples() {
			if got, want := sum(t, k.kind, b), remainder(k.kind, k.polynomial, 1<<k.kind-1, b); got != want {
				t.Errorf("Sum %d, %x: %x; want %x", k.kind, b, got, want)
			}
		}
	}
}

func TestSumOfOneAndTwoBytes(t *testing.T) {
	for _, k := range kinds {
		for x := range 256 {
			for _, b := range [][]byte{{byte(x)}, {byte(x), 0xa5}, {0x3c, byte(x)}} {
				if got, want := sum(t, k.kind, b), remainder(k.kind, k.polynomial, 1<<k.kind-1, b); got != want {
					t.Errorf("Sum %d, %x: %x; want %x", k.kind, b, got, want)
				}
			}
		}
	}
}

func TestSumValues(t *testing.T) {
	for _, x := range []struct {
		kind int
		b    []byte
		want int
	}{
		{3, nil, 7}, {7, nil, 0x7f}, {8, nil, 0xff}, {16, nil, 0xffff}, {24, nil, 0xffffff},
		{3, []byte{}, 7}, {7, []byte{}, 0x7f}, {8, []byte{}, 0xff}, {16, []byte{}, 0xffff}, {24, []byte{}, 0xffffff},
		{3, []byte{0}, 5},
		{8, []byte{0}, 0xf3},
		{8, []byte{0xff}, 0},
		{16, []byte{0xff, 0xff}, 0},
		{24, []byte{0xff, 0xff, 0xff}, 0},
		{16, []byte("123456789"), 0x29b1},
	} {
		if got := sum(t, x.kind, x.b); got != x.want {
			t.Errorf("Sum %d, %x: %x; want %x", x.kind, x.b, got, x.want)
		}
	}
}

func TestSumErrKind(t *testing.T) {
	for _, kind := range badKinds() {
		for _, b := range [][]byte{nil, {0}, []byte("123456789")} {
			if got, e := check.Sum(kind, b); got != 0 || e != api.ErrKind {
				t.Errorf("Sum %d, %x: %x, %d", kind, b, got, e)
			}
		}
	}
}

// P3.2

func TestNextIsTheRemainder(t *testing.T) {
	for _, k := range kinds {
		for _, b := range samples() {
			for _, register := range registers(k.kind) {
				if got, want := next(t, k.kind, register, b), remainder(k.kind, k.polynomial, register, b); got != want {
					t.Errorf("Next %d, %x, %x: %x; want %x", k.kind, register, b, got, want)
				}
			}
		}
	}
}

func TestNextOfEachRegister(t *testing.T) {
	for _, kind := range []int{3, 7, 8, 16} {
		seen := make([]bool, 1<<kind)
		for register := range 1 << kind {
			got := next(t, kind, register, []byte{0x4b})
			if got < 0 || got >= 1<<kind || seen[got] {
				t.Fatalf("Next %d, %x: %x, which is out of range or comes from two registers", kind, register, got)
			}
			seen[got] = true
		}
	}
}

// The values of 123456789 are those that are published for these polynomials.
func TestNextValues(t *testing.T) {
	digits := []byte("123456789")
	for _, x := range []struct {
		kind, register int
		b              []byte
		want           int
	}{
		{3, 0, digits, 3}, {7, 0, digits, 0x75}, {8, 0, digits, 0xf4}, {16, 0, digits, 0x31c3}, {24, 0, digits, 0xcde703},
		{16, 0xffff, digits, 0x29b1}, {16, 0x1d0f, digits, 0xe5cc}, {24, 0xb704ce, digits, 0x21cf02},
		{8, 0xff, []byte{0}, 0xf3},
		{3, 0, []byte{1}, 3}, {7, 0, []byte{1}, 9}, {8, 0, []byte{1}, 7}, {16, 0, []byte{1}, 0x1021}, {24, 0, []byte{1}, 0x864cfb},
	} {
		if got := next(t, x.kind, x.register, x.b); got != x.want {
			t.Errorf("Next %d, %x, %x: %x; want %x", x.kind, x.register, x.b, got, x.want)
		}
	}
}

func TestNextOfNoBytesIsTheRegister(t *testing.T) {
	for _, k := range kinds {
		for _, register := range registers(k.kind) {
			for _, b := range [][]byte{nil, {}} {
				if got := next(t, k.kind, register, b); got != register {
					t.Errorf("Next %d, %x: %x", k.kind, register, got)
				}
			}
		}
	}
}

func TestNextErrRange(t *testing.T) {
	for _, k := range kinds {
		for _, register := range []int{-1, -2, -1 << k.kind, math.MinInt, 1 << k.kind, 1<<k.kind + 1, 2 << k.kind, 1 << 32, -1 << 32, math.MaxInt} {
			for _, b := range [][]byte{nil, {0}, []byte("123456789")} {
				if got, e := check.Next(k.kind, register, b); got != 0 || e != api.ErrRange {
					t.Errorf("Next %d, %x, %x: %x, %d", k.kind, register, b, got, e)
				}
			}
		}
	}
}

func TestNextErrKindComesFirst(t *testing.T) {
	for _, kind := range badKinds() {
		for _, register := range []int{0, 1, 7, 255, -1, 1 << 24, math.MinInt, math.MaxInt} {
			for _, b := range [][]byte{nil, {0}, []byte("123456789")} {
				if got, e := check.Next(kind, register, b); got != 0 || e != api.ErrKind {
					t.Errorf("Next %d, %x, %x: %x, %d", kind, register, b, got, e)
				}
			}
		}
	}
}

// Both

func TestOnlyTheLengthIsSeenAndNothingIsChanged(t *testing.T) {
	all := []byte{1, 2, 3, 4}
	for _, k := range kinds {
		if got, want := sum(t, k.kind, all[1:3]), sum(t, k.kind, []byte{2, 3}); got != want {
			t.Errorf("Sum %d: %x; want %x", k.kind, got, want)
		}
		if got, want := next(t, k.kind, 5, all[1:3]), next(t, k.kind, 5, []byte{2, 3}); got != want {
			t.Errorf("Next %d: %x; want %x", k.kind, got, want)
		}
	}
	if !bytes.Equal(all, []byte{1, 2, 3, 4}) {
		t.Errorf("the argument is now %x", all)
	}
}

// Consequences

func TestNextGoesOn(t *testing.T) {
	b := []byte("123456789 radiolink, terminal to gateway")
	for _, k := range kinds {
		for at := range len(b) + 1 {
			if got, want := next(t, k.kind, sum(t, k.kind, b[:at]), b[at:]), sum(t, k.kind, b); got != want {
				t.Errorf("Next %d behind Sum of %d bytes: %x; want %x", k.kind, at, got, want)
			}
			for _, register := range registers(k.kind) {
				if got, want := next(t, k.kind, next(t, k.kind, register, b[:at]), b[at:]), next(t, k.kind, register, b); got != want {
					t.Errorf("Next %d from %x, behind %d bytes: %x; want %x", k.kind, register, at, got, want)
				}
			}
		}
	}
}

// changed returns b with the bits of pattern exclusive-ored, so that the lowest one meets the bit that is low bits before the end.
func changed(b []byte, pattern, low int) []byte {
	x := new(big.Int).Lsh(big.NewInt(int64(pattern)), uint(low))
	x.Xor(x, new(big.Int).SetBytes(b))
	return x.FillBytes(make([]byte, len(b)))
}

// difference returns the exclusive or of strings of the same length.
func difference(b, c []byte) []byte {
	d := make([]byte, len(b))
	for i := range d {
		d[i] = b[i] ^ c[i]
	}
	return d
}

func TestSameSumExactlyIfTheDifferenceLeadsFromZeroToZero(t *testing.T) {
	b := []byte("radiolink")
	for _, k := range kinds {
		l := [][]byte{b}
		for pattern := range 1 << 12 {
			l = append(l, changed(b, pattern, 13))
		}
		multiples := 8*len(b) - k.kind
		for low := range multiples {
			l = append(l, changed(b, 1<<k.kind|k.polynomial, low))
		}
		count := 0
		for _, c := range l {
			same := sum(t, k.kind, b) == sum(t, k.kind, c)
			if leads := next(t, k.kind, 0, difference(b, c)); (leads == 0) != same {
				t.Errorf("%d, %x, %x: the same sum: %v, but the exclusive or leads to %x", k.kind, b, c, same, leads)
			}
			if same {
				count++
			}
		}
		if count < multiples || count == len(l) {
			t.Errorf("%d: %d strings of %d have the same sum", k.kind, count, len(l))
		}
	}
}

func TestPairsOfBytesWithTheSameSum(t *testing.T) {
	for _, kind := range []int{3, 7} {
		for x := range 256 {
			for y := range 256 {
				same := sum(t, kind, []byte{byte(x)}) == sum(t, kind, []byte{byte(y)})
				if leads := next(t, kind, 0, []byte{byte(x ^ y)}); (leads == 0) != same {
					t.Fatalf("%d, %x, %x: the same sum: %v, but the exclusive or leads to %x", kind, x, y, same, leads)
				}
			}
		}
	}
}

// The multiple of the polynomial that is one bit longer than the width is the shortest change that is not seen.
func TestChangesOfOneBitMoreThanTheWidth(t *testing.T) {
	b := []byte("radiolink")
	for _, k := range kinds {
		for low := range 8*len(b) - k.kind {
			if c := changed(b, 1<<k.kind|k.polynomial, low); sum(t, k.kind, b) != sum(t, k.kind, c) {
				t.Errorf("%d: %x and %x have different sums", k.kind, b, c)
			}
		}
	}
}

// bursts returns all changes within the narrow widths, and many within the wide ones.
func bursts(kind int) []int {
	if kind <= 8 {
		return registers(kind)[1:]
	}
	most := 1<<kind - 1
	l := []int{}
	for i := range kind {
		for j := range kind {
			l = append(l, 1<<i|1<<j, most>>i, most>>i^1<<j&most, (0x9e3779b9>>i^0x5bd1e995<<j)&most)
		}
	}
	slices.Sort(l)
	return slices.DeleteFunc(slices.Compact(l), func(x int) bool { return x == 0 })
}

func TestChangesWithinTheWidthAreSeen(t *testing.T) {
	for _, b := range [][]byte{[]byte("radiolink"), make([]byte, 4), bytes.Repeat([]byte{0xff}, 3)} {
		for _, k := range kinds {
			before := sum(t, k.kind, b)
			for low := range 8*len(b) - k.kind + 1 {
				for _, pattern := range bursts(k.kind) {
					if c := changed(b, pattern, low); sum(t, k.kind, c) == before {
						t.Fatalf("%d: %x and %x have the same sum", k.kind, b, c)
					}
				}
			}
		}
	}
}
