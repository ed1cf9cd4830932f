package lsb_test

import (
	"math"
	"slices"
	"testing"

	"radiolink/api"
	"radiolink/lsb"
)

var widths = []int{8, 16, 32}

// noWidths are numbers that are no widths.
var noWidths = []int{math.MinInt, -16, -8, -1, 0, 1, 3, 7, 9, 10, 12, 15, 17, 24, 31, 33, 40, 64, 256 + 8, 1<<32 + 16, math.MaxInt}

func pow(n int) int {
	x := 1
	for range n {
		x *= 2
	}
	return x
}

// modulo is the model of numbers modulo another one.
func modulo(x, m int) int { return ((x % m) + m) % m }

// below is the model of how far below a reference the values begin.
func below(k int) int { return pow(k-3) - 1 }

// understood is the model of Fits for one reference: whether value is one of those from reference - p to reference + 2^k - 1 - p.
func understood(width, reference, k, value int) bool {
	return modulo(value-(reference-below(k)), pow(width)) < pow(k)
}

// bitCounts returns the numbers of bits for a width.
func bitCounts(width int) []int {
	l := []int{}
	for k := 3; k <= width; k++ {
		l = append(l, k)
	}
	return l
}

// noBits returns numbers that are no numbers of bits for a width.
func noBits(width int) []int {
	return []int{math.MinInt, -width, -3, -1, 0, 1, 2, width + 1, width + 3, 2 * width, 33, 64, 67, 1<<32 + 3, 1 << 40, math.MaxInt}
}

// numbers returns numbers of a width, at the limits, at powers of two and between them.
func numbers(width int) []int {
	l := []int{0, 1, 2, 3, 100, pow(width) / 3, pow(width) / 5 * 4}
	for n := 2; n <= width; n++ {
		l = append(l, pow(n)-1, modulo(pow(n), pow(width)), modulo(pow(n)+1, pow(width)), pow(width)-pow(n))
	}
	slices.Sort(l)
	return slices.Compact(l)
}

// outside returns numbers that are not of a width.
func outside(width int) []int {
	m := pow(width)
	return []int{math.MinInt, -m, 1 - m, -2, -1, m, m + 1, m + 100, 2 * m, 1 << 40, 1 << 62, math.MaxInt}
}

// P7.1

func TestOffset(t *testing.T) {
	for k := 3; k <= 32; k++ {
		if got := lsb.Offset(k); got != below(k) {
			t.Errorf("%d: %d; want %d", k, got, below(k))
		}
	}
	for _, k := range []int{math.MinInt, -1 << 32, -3, -1, 0, 1, 2, 33, 34, 35, 63, 64, 66, 67, 68, 1<<32 + 3, math.MaxInt} {
		if got := lsb.Offset(k); got != -1 {
			t.Errorf("%d: %d; want -1", k, got)
		}
	}
}

// P7.2

func wantDecoded(t *testing.T, width, reference, k, low, want int, wantE api.Errno) {
	t.Helper()
	if got, e := lsb.Decode(width, reference, k, low); got != want || e != wantE {
		t.Fatalf("%d, %d, %d, %d: %d, %d; want %d, %d", width, reference, k, low, got, e, want, wantE)
	}
}

// Each value from reference - p to reference + 2^k - 1 - p is decoded from its low bits, and there are no other ones.
func TestDecodeWithWidth8(t *testing.T) {
	for reference := range 256 {
		for k := 3; k <= 8; k++ {
			lows := make([]bool, pow(k))
			for i := range pow(k) {
				value := modulo(reference-below(k)+i, 256)
				low := value % pow(k)
				wantDecoded(t, 8, reference, k, low, value, api.OK)
				lows[low] = true
			}
			if slices.Contains(lows, false) {
				t.Fatalf("the test leaves out low bits for %d, %d", reference, k)
			}
		}
	}
}

func TestDecode(t *testing.T) {
	for _, width := range widths {
		for _, reference := range numbers(width) {
			for _, k := range bitCounts(width) {
				first := reference - below(k)
				for _, i := range []int{0, 1, 2, 6, 7, below(k) - 1, below(k), below(k) + 1, pow(k-1) - 1, pow(k - 1), pow(k-1) + 1, pow(k) - 2, pow(k) - 1} {
					if i >= 0 && i < pow(k) {
						value := modulo(first+i, pow(width))
						wantDecoded(t, width, reference, k, value%pow(k), value, api.OK)
					}
				}
			}
		}
	}
}

func TestDecodeWithAllBits(t *testing.T) {
	for _, width := range widths {
		for _, reference := range numbers(width) {
			for _, low := range numbers(width) {
				wantDecoded(t, width, reference, width, low, low, api.OK)
			}
		}
	}
}

func TestDecodeWithWidthsThatThereAreNot(t *testing.T) {
	for _, width := range noWidths {
		for _, k := range []int{math.MinInt, -1, 2, 3, 8, width, math.MaxInt} {
			for _, x := range []int{math.MinInt, -1, 0, 5, math.MaxInt} {
				wantDecoded(t, width, x, k, 0, 0, api.ErrKind)
				wantDecoded(t, width, 0, k, x, 0, api.ErrKind)
			}
		}
	}
}

func TestDecodeOutOfRange(t *testing.T) {
	for _, width := range widths {
		for _, k := range noBits(width) {
			for _, low := range []int{-1, 0, 1, 7, 255} {
				wantDecoded(t, width, 5, k, low, 0, api.ErrRange)
			}
		}
		for _, k := range bitCounts(width) {
			for _, reference := range outside(width) {
				wantDecoded(t, width, reference, k, 1, 0, api.ErrRange)
			}
			for _, low := range outside(k) {
				wantDecoded(t, width, 5, k, low, 0, api.ErrRange)
			}
			wantDecoded(t, width, 0, k, 0, 0, api.OK)
			if _, e := lsb.Decode(width, pow(width)-1, k, pow(k)-1); e != api.OK {
				t.Errorf("width %d, %d bits: the greatest numbers: %d", width, k, e)
			}
		}
	}
}

// P7.3

func wantFits(t *testing.T, width int, references []int, k, value int, want bool) {
	t.Helper()
	if got := lsb.Fits(width, references, k, value); got != want {
		t.Fatalf("%d, %v, %d, %d: %t", width, references, k, value, got)
	}
}

func TestFitsWithWidth8(t *testing.T) {
	for reference := range 256 {
		for value := range 256 {
			for k := 3; k <= 8; k++ {
				wantFits(t, 8, []int{reference}, k, value, understood(8, reference, k, value))
			}
		}
	}
}

func TestFits(t *testing.T) {
	for _, width := range widths {
		for _, reference := range numbers(width) {
			for _, k := range bitCounts(width) {
				first := reference - below(k)
				for _, i := range []int{-pow(k), -2, -1, 0, 1, below(k), pow(k) - 1, pow(k), pow(k) + 1, 2*pow(k) - 1} {
					value := modulo(first+i, pow(width))
					wantFits(t, width, []int{reference}, k, value, understood(width, reference, k, value))
				}
			}
		}
	}
}

// All references decide, wherever in the list the one stands that does not fit.
func TestFitsWithSeveralReferences(t *testing.T) {
	for _, width := range widths {
		for _, k := range []int{3, 4, 5, 7} {
			for _, base := range numbers(width) {
				for _, d := range []int{-pow(k), -below(k) - 1, -below(k), 0, 1, below(k), pow(k) - 1, pow(k)} {
					last := modulo(base+d, pow(width))
					l := []int{base, base, last}
					for _, references := range [][]int{l, {last, base, base}, {base, last, base}, {last, last}} {
						for _, value := range []int{base, last, modulo(base+1, pow(width)), modulo(last-1, pow(width))} {
							want := true
							for _, r := range references {
								want = want && understood(width, r, k, value)
							}
							wantFits(t, width, references, k, value, want)
						}
					}
				}
			}
		}
	}
}

func TestFitsWithoutReferences(t *testing.T) {
	for _, width := range widths {
		for _, references := range [][]int{nil, {}} {
			for _, k := range bitCounts(width) {
				for _, value := range numbers(width) {
					wantFits(t, width, references, k, value, true)
				}
				for _, value := range outside(width) {
					wantFits(t, width, references, k, value, false)
				}
			}
			for _, k := range noBits(width) {
				wantFits(t, width, references, k, 0, false)
				wantFits(t, width, references, k, 5, false)
			}
		}
	}
	for _, width := range noWidths {
		for _, k := range []int{3, 4, 8, width} {
			wantFits(t, width, nil, k, 0, false)
			wantFits(t, width, nil, k, 5, false)
		}
	}
}

func TestFitsWithInvalidArguments(t *testing.T) {
	for _, width := range widths {
		for _, k := range noBits(width) {
			wantFits(t, width, []int{0}, k, 0, false)
			wantFits(t, width, []int{5}, k, 5, false)
		}
		for _, k := range bitCounts(width) {
			for _, x := range outside(width) {
				wantFits(t, width, []int{modulo(x, pow(width))}, k, x, false)
				wantFits(t, width, []int{x}, k, x, false)
				wantFits(t, width, []int{x}, k, modulo(x, pow(width)), false)
				wantFits(t, width, []int{x}, k, 0, false)
				wantFits(t, width, []int{0, 0, x}, k, 0, false)
				wantFits(t, width, []int{x, 0, 0}, k, 0, false)
			}
		}
	}
	for _, width := range noWidths {
		for _, k := range []int{math.MinInt, 3, 4, 8, width, math.MaxInt} {
			wantFits(t, width, []int{0}, k, 0, false)
			wantFits(t, width, []int{5, 5}, k, 5, false)
		}
	}
}

// least is the model of Least for valid arguments.
func least(width int, references []int, value int) int {
	k := 3
	for _, r := range references {
		for !understood(width, r, k, value) {
			k++
		}
	}
	return k
}

func wantLeast(t *testing.T, width int, references []int, value, want int) {
	t.Helper()
	if got := lsb.Least(width, references, value); got != want {
		t.Fatalf("%d, %v, %d: %d; want %d", width, references, value, got, want)
	}
}

func TestLeastWithWidth8(t *testing.T) {
	for reference := range 256 {
		for value := range 256 {
			l := []int{reference}
			wantLeast(t, 8, l, value, least(8, l, value))
		}
	}
}

func TestLeast(t *testing.T) {
	for _, width := range widths {
		for _, value := range numbers(width) {
			wantLeast(t, width, nil, value, 3)
			wantLeast(t, width, []int{}, value, 3)
			for i, r := range numbers(width) {
				l := []int{r}
				wantLeast(t, width, l, value, least(width, l, value))
				l = []int{r, value, modulo(value+i, pow(width)), modulo(r-i, pow(width))}
				wantLeast(t, width, l, value, least(width, l, value))
				slices.Reverse(l)
				wantLeast(t, width, l, value, least(width, l, value))
			}
		}
	}
}

// Each number of bits is the least one, for the values at its limits.
func TestLeastWithEachNumberOfBits(t *testing.T) {
	for _, width := range widths {
		for _, reference := range numbers(width) {
			for k := 4; k <= width; k++ {
				lowest, highest := -below(k), pow(k)-1-below(k)
				if k == width {
					// Further ones are those of the other side.
					lowest, highest = -below(k-1)-1, pow(k-1)-below(k-1)
				}
				for _, d := range []int{lowest, -below(k-1) - 1, pow(k-1) - below(k-1), highest} {
					wantLeast(t, width, []int{reference}, modulo(reference+d, pow(width)), k)
				}
			}
		}
	}
}

func TestLeastWithInvalidArguments(t *testing.T) {
	for _, width := range noWidths {
		for _, x := range []int{math.MinInt, -1, 0, 5, 255, math.MaxInt} {
			wantLeast(t, width, nil, x, 0)
			wantLeast(t, width, []int{x}, x, 0)
		}
	}
	for _, width := range widths {
		for _, x := range outside(width) {
			wantLeast(t, width, nil, x, 0)
			wantLeast(t, width, []int{5}, x, 0)
			wantLeast(t, width, []int{x}, x, 0)
			wantLeast(t, width, []int{x}, modulo(x, pow(width)), 0)
			wantLeast(t, width, []int{x, 5}, 5, 0)
			wantLeast(t, width, []int{5, 5, x}, 5, 0)
			wantLeast(t, width, []int{5, x}, 200, 0)
		}
	}
}

// R2

func TestReferencesStayAsTheyAre(t *testing.T) {
	for _, l := range [][]int{{104, 100, 100, 3}, {-1, 70000, 5}} {
		c := slices.Clone(l)
		lsb.Fits(16, l, 4, 105)
		lsb.Least(16, l, 105)
		if !slices.Equal(l, c) {
			t.Errorf("%v became %v", c, l)
		}
	}
}

// Consequences

func TestAllBitsFit(t *testing.T) {
	for _, width := range widths {
		for _, value := range numbers(width) {
			wantFits(t, width, numbers(width), width, value, true)
		}
	}
}

func TestMoreBitsFit(t *testing.T) {
	for _, width := range widths {
		for _, value := range numbers(width) {
			for _, r := range numbers(width) {
				references := []int{r, modulo(r+3, pow(width))}
				for k := lsb.Least(width, references, value); k <= width; k++ {
					wantFits(t, width, references, k, value, true)
				}
			}
		}
	}
}

func TestFewerReferencesNeedNoMoreBits(t *testing.T) {
	for _, width := range widths {
		for _, value := range numbers(width) {
			l := numbers(width)
			most := lsb.Least(width, l, value)
			for len(l) > 0 {
				l = l[1:]
				k := lsb.Least(width, l, value)
				if k > most {
					t.Fatalf("width %d, %v, %d: %d bits, and %d with one reference more", width, l, value, k, most)
				}
				most = k
			}
		}
	}
}

// Examples

func TestExamples(t *testing.T) {
	for value := 99; value <= 114; value++ {
		wantDecoded(t, 16, 100, 4, value%16, value, api.OK)
	}
	wantDecoded(t, 16, 100, 4, 3, 99, api.OK)
	wantFits(t, 16, []int{100}, 4, 98, false)
	wantFits(t, 16, []int{100}, 4, 115, false)
	wantLeast(t, 16, []int{100, 104}, 105, 3)
	wantDecoded(t, 16, 100, 3, 1, 105, api.OK)
	wantDecoded(t, 16, 104, 3, 1, 105, api.OK)
}
