package serial_test

import (
	"math"
	"math/big"
	"testing"

	"radiolink/serial"
)

// mod is the model against which the tests compare: b - a modulo 2^n without a mask and without wraparound.
func mod(n, a, b int) int {
	size := new(big.Int).Exp(big.NewInt(2), big.NewInt(int64(n)), nil)
	d := new(big.Int).Sub(big.NewInt(int64(b)), big.NewInt(int64(a)))
	return int(d.Mod(d, size).Int64())
}

func power(n int) int {
	p := 1
	for range n {
		p *= 2
	}
	return p
}

func badWidths() []int {
	return []int{0, -1, -2, -32, math.MinInt, math.MinInt + 1, 33, 34, 63, 64, 65, 256, 1<<32 + 1, math.MaxInt}
}

// edges returns numbers around 0, around each power of two, and at the ends of int.
func edges() []int {
	l := []int{math.MinInt, math.MinInt + 1, math.MaxInt - 1, math.MaxInt, 0x123456789abcdef, -0x123456789abcdef}
	for _, n := range []int{0, 1, 2, 4, 5, 8, 16, 31, 32, 33, 40, 62} {
		for d := -1; d <= 1; d++ {
			l = append(l, power(n)+d, -power(n)+d)
		}
	}
	return l
}

// P2.1

func TestLowIsTheNumberModuloThePower(t *testing.T) {
	for n := 1; n <= 32; n++ {
		for _, x := range edges() {
			if got, want := serial.Low(n, x), mod(n, 0, x); got != want {
				t.Errorf("Low %d, %d: %d; want %d", n, x, got, want)
			}
		}
	}
	for n := 1; n <= 5; n++ {
		for x := -100; x <= 100; x++ {
			if got, want := serial.Low(n, x), mod(n, 0, x); got != want {
				t.Errorf("Low %d, %d: %d; want %d", n, x, got, want)
			}
		}
	}
}

func TestLowValues(t *testing.T) {
	for _, x := range []struct{ n, x, want int }{
		{1, 0, 0}, {1, 1, 1}, {1, 2, 0}, {1, -1, 1}, {1, -2, 0},
		{8, 255, 255}, {8, 256, 0}, {8, 257, 1}, {8, -1, 255}, {8, -256, 0}, {8, -257, 255},
		{31, -1, 1<<31 - 1}, {31, 1 << 31, 0},
		{32, 1<<32 - 1, 1<<32 - 1}, {32, 1 << 32, 0}, {32, -1, 1<<32 - 1}, {32, 1 << 31, 1 << 31},
		{32, math.MaxInt, 1<<32 - 1}, {32, math.MinInt, 0}, {32, math.MinInt + 1, 1},
		{1, math.MaxInt, 1}, {1, math.MinInt, 0},
	} {
		if got := serial.Low(x.n, x.x); got != x.want {
			t.Errorf("Low %d, %d: %d; want %d", x.n, x.x, got, x.want)
		}
	}
}

func TestDistanceIsTheDifferenceModuloThePower(t *testing.T) {
	l := edges()
	for n := 1; n <= 32; n++ {
		for _, a := range l {
			for _, b := range l {
				if got, want := serial.Distance(n, a, b), mod(n, a, b); got != want {
					t.Fatalf("Distance %d, %d, %d: %d; want %d", n, a, b, got, want)
				}
			}
		}
	}
}

func TestDistanceValues(t *testing.T) {
	for _, x := range []struct{ n, a, b, want int }{
		{8, 250, 3, 9}, {8, 3, 250, 247}, {8, 7, 7, 0}, {8, 7, 263, 0}, {8, 0, 255, 255}, {8, 255, 0, 1}, {8, -1, 0, 1}, {8, 0, -1, 255},
		{1, 0, 1, 1}, {1, 1, 0, 1}, {1, 1, 3, 0},
		{32, 1<<32 - 1, 0, 1}, {32, 0, 1<<32 - 1, 1<<32 - 1}, {32, 1, 0, 1<<32 - 1},
		{32, math.MaxInt, math.MinInt, 1}, {32, math.MinInt, math.MaxInt, 1<<32 - 1}, {5, math.MaxInt, math.MinInt, 1},
	} {
		if got := serial.Distance(x.n, x.a, x.b); got != x.want {
			t.Errorf("Distance %d, %d, %d: %d; want %d", x.n, x.a, x.b, got, x.want)
		}
	}
}

func TestLowAndDistanceOfWidthsThatAreNotValid(t *testing.T) {
	for _, n := range badWidths() {
		for _, x := range edges() {
			if got := serial.Low(n, x); got != -1 {
				t.Errorf("Low %d, %d: %d", n, x, got)
			}
			for _, a := range []int{0, x, -5, math.MaxInt, math.MinInt} {
				if got := serial.Distance(n, a, x); got != -1 {
					t.Errorf("Distance %d, %d, %d: %d", n, a, x, got)
				}
			}
		}
	}
}

// P2.2

// lies looks for x in the half window from base on, number by number.
func lies(n, base, x int) bool {
	for k := range power(n - 1) {
		if mod(n, base+k, x) == 0 {
			return true
		}
	}
	return false
}

func TestInsideIsTheHalfWindow(t *testing.T) {
	for n := 1; n <= 5; n++ {
		for base := -40; base <= 40; base++ {
			for x := -40; x <= 40; x++ {
				if got, want := serial.Inside(n, base, x), lies(n, base, x); got != want {
					t.Fatalf("Inside %d, %d, %d: %t; want %t", n, base, x, got, want)
				}
			}
		}
	}
}

func TestInsideAtTheEndsOfTheHalfWindow(t *testing.T) {
	for n := 1; n <= 32; n++ {
		h := power(n - 1)
		for _, base := range edges() {
			for _, x := range []struct {
				ahead int
				want  bool
			}{{0, true}, {h - 1, true}, {h, false}, {2*h - 1, false}, {-1, false}, {-h, false}, {2 * h, true}, {-2 * h, true}, {3*h - 1, true}, {3 * h, false}} {
				if got := serial.Inside(n, base, base+x.ahead); got != x.want {
					t.Errorf("Inside %d, %d, %d: %t; want %t", n, base, base+x.ahead, got, x.want)
				}
			}
		}
	}
}

func TestInsideAcrossTheEndsOfInt(t *testing.T) {
	for n := 2; n <= 32; n++ {
		if !serial.Inside(n, math.MaxInt, math.MinInt) {
			t.Errorf("width %d: the least int follows the greatest one", n)
		}
		if serial.Inside(n, math.MinInt, math.MaxInt) {
			t.Errorf("width %d: the greatest int is one before the least", n)
		}
	}
}

func TestSignedIsTheDifferenceNearestToZero(t *testing.T) {
	l := edges()
	for n := 1; n <= 32; n++ {
		h := power(n - 1)
		for _, a := range l {
			for _, b := range l {
				want := mod(n, a, b)
				if want >= h {
					want -= power(n)
				}
				got := serial.Signed(n, a, b)
				if got != want {
					t.Fatalf("Signed %d, %d, %d: %d; want %d", n, a, b, got, want)
				}
				if got < -h || got >= h || mod(n, a, b) != mod(n, 0, got) {
					t.Fatalf("Signed %d, %d, %d: %d is not in the range, or another number", n, a, b, got)
				}
			}
		}
	}
}

func TestSignedValues(t *testing.T) {
	for _, x := range []struct{ n, a, b, want int }{
		{8, 3, 250, -9}, {8, 250, 3, 9}, {8, 7, 7, 0}, {8, 0, 127, 127}, {8, 0, 128, -128}, {8, 0, 129, -127}, {8, 128, 0, -128}, {8, 0, 255, -1}, {8, 0, 256, 0},
		{1, 0, 0, 0}, {1, 0, 1, -1}, {1, 1, 0, -1}, {2, 0, 1, 1}, {2, 0, 2, -2}, {2, 0, 3, -1},
		{32, 0, 1<<31 - 1, 1<<31 - 1}, {32, 0, 1 << 31, -1 << 31}, {32, 0, 1<<32 - 1, -1}, {32, 0, -1, -1},
		{32, math.MaxInt, math.MinInt, 1}, {32, math.MinInt, math.MaxInt, -1},
	} {
		if got := serial.Signed(x.n, x.a, x.b); got != x.want {
			t.Errorf("Signed %d, %d, %d: %d; want %d", x.n, x.a, x.b, got, x.want)
		}
	}
}

func TestInsideAndSignedOfWidthsThatAreNotValid(t *testing.T) {
	for _, n := range badWidths() {
		for _, x := range edges() {
			for _, a := range []int{0, x, -5, math.MaxInt, math.MinInt} {
				if serial.Inside(n, a, x) {
					t.Errorf("Inside %d, %d, %d", n, a, x)
				}
				if got := serial.Signed(n, a, x); got != 0 {
					t.Errorf("Signed %d, %d, %d: %d", n, a, x, got)
				}
			}
		}
	}
}

// P2.3

const most = 1 << 40

func counts() []int {
	l := []int{-most, -most + 1, most - 1, most}
	for _, c := range edges() {
		if c > -most && c < most {
			l = append(l, c)
		}
	}
	return l
}

func TestNearestLooksThroughItsRange(t *testing.T) {
	for n := 1; n <= 5; n++ {
		h := power(n - 1)
		for _, count := range counts() {
			for x := -40; x <= 40; x++ {
				found := 0
				for c := count - h; c <= count+h-1; c++ {
					if mod(n, c, x) != 0 {
						continue
					}
					found++
					if got, ok := serial.Nearest(n, count, x); got != c || !ok {
						t.Fatalf("Nearest %d, %d, %d: %d, %t; want %d", n, count, x, got, ok, c)
					}
				}
				if found != 1 {
					t.Fatalf("the model finds %d numbers for %d, %d, %d", found, n, count, x)
				}
			}
		}
	}
}

func TestNearestOfAnyNumber(t *testing.T) {
	for n := 1; n <= 32; n++ {
		h := power(n - 1)
		for _, count := range counts() {
			for _, x := range edges() {
				c, ok := serial.Nearest(n, count, x)
				if !ok || c < count-h || c > count+h-1 || mod(n, c, x) != 0 {
					t.Fatalf("Nearest %d, %d, %d: %d, %t", n, count, x, c, ok)
				}
			}
		}
	}
}

func TestNearestValues(t *testing.T) {
	for _, x := range []struct{ n, count, x, want int }{
		{5, 100, 1, 97}, {5, 100, 4, 100}, {5, 100, 33, 97}, {5, 100, -31, 97}, {5, 100, 19, 115}, {5, 100, 20, 84}, {5, 100, 3, 99}, {5, 100, 5, 101},
		{5, 0, 31, -1}, {5, 0, 16, -16}, {5, 0, 15, 15}, {5, -100, 1, -95}, {5, -1, 0, 0},
		{1, 0, 0, 0}, {1, 0, 1, -1}, {1, 7, 0, 6}, {1, 7, 1, 7}, {1, -7, 0, -8},
		{32, 0, 1<<31 - 1, 1<<31 - 1}, {32, 0, 1 << 31, -1 << 31}, {32, 1 << 32, 1<<32 - 1, 1<<32 - 1}, {32, 1<<32 - 1, 0, 1 << 32},
		{8, most, 255, most - 1}, {8, most, 127, most + 127}, {8, most, 128, most - 128}, {8, -most, 255, -most - 1}, {8, -most, 128, -most - 128},
		{32, most, 1<<31 - 1, most + 1<<31 - 1}, {32, -most, 1 << 31, -most - 1<<31},
		{8, 5, math.MaxInt, -1}, {8, 5, math.MinInt, 0}, {8, 5, math.MinInt + 1, 1},
	} {
		if got, ok := serial.Nearest(x.n, x.count, x.x); got != x.want || !ok {
			t.Errorf("Nearest %d, %d, %d: %d, %t; want %d", x.n, x.count, x.x, got, ok, x.want)
		}
	}
}

func TestNearestOfArgumentsThatAreNotValid(t *testing.T) {
	badCounts := []int{most + 1, most + 2, 2 * most, 1 << 62, math.MaxInt, -most - 1, -most - 2, -2 * most, math.MinInt + 1, math.MinInt}
	for _, x := range []int{0, 1, -1, most, -most, math.MaxInt, math.MinInt} {
		for n := 1; n <= 32; n++ {
			for _, count := range badCounts {
				if got, ok := serial.Nearest(n, count, x); got != 0 || ok {
					t.Errorf("Nearest %d, %d, %d: %d, %t", n, count, x, got, ok)
				}
			}
		}
		for _, n := range badWidths() {
			for _, count := range append(badCounts, counts()...) {
				if got, ok := serial.Nearest(n, count, x); got != 0 || ok {
					t.Errorf("Nearest %d, %d, %d: %d, %t", n, count, x, got, ok)
				}
			}
		}
	}
}

// The consequences

func TestOneOfTwoNumbersIsInsideTheOther(t *testing.T) {
	check := func(n, a, b int) {
		d := mod(n, a, b)
		forth, back := serial.Inside(n, a, b), serial.Inside(n, b, a)
		switch {
		case d == 0 && !(forth && back):
			t.Fatalf("width %d: %d and %d are the same number, Inside: %t, %t", n, a, b, forth, back)
		case d == power(n-1) && (forth || back):
			t.Fatalf("width %d: %d and %d are half apart, Inside: %t, %t", n, a, b, forth, back)
		case d != 0 && d != power(n-1) && forth == back:
			t.Fatalf("width %d: %d and %d, Inside: %t, %t", n, a, b, forth, back)
		}
	}
	for n := 1; n <= 6; n++ {
		for a := range power(n) {
			for b := range power(n) {
				check(n, a, b)
			}
		}
	}
	for n := 1; n <= 32; n++ {
		for _, a := range edges() {
			for _, b := range edges() {
				check(n, a, b)
			}
		}
	}
}

func TestNearestBringsBackWhatLowCut(t *testing.T) {
	check := func(n, c, d int) {
		if got, ok := serial.Nearest(n, c, serial.Low(n, c+d)); got != c+d || !ok {
			t.Fatalf("width %d, count %d, difference %d: %d, %t", n, c, d, got, ok)
		}
	}
	for _, c := range counts() {
		for n := 1; n <= 10; n++ {
			h := power(n - 1)
			for d := -h; d < h; d++ {
				check(n, c, d)
			}
		}
		for n := 11; n <= 32; n++ {
			h := power(n - 1)
			for _, d := range []int{-h, -h + 1, -1, 0, 1, h - 2, h - 1} {
				check(n, c, d)
			}
		}
	}
}
