package checksum_test

import (
	"bytes"
	"math"
	"math/big"
	"testing"

	"radiolink/api"
	"radiolink/checksum"
)

const most = 65535

// word is the model of a folded sum: to move the upper part down is to subtract multiples of 65535, so a number above 0 becomes its remainder by 65535, from 1 on.
func word(sum *big.Int) int {
	if sum.Sign() <= 0 {
		return 0
	}
	rest := new(big.Int).Sub(sum, big.NewInt(1))
	return int(rest.Mod(rest, big.NewInt(most)).Int64()) + 1
}

// total returns the words of b added up: a byte at an even index is worth 256 times as much.
func total(b []byte) *big.Int {
	upper, lower := 0, 0
	for i, x := range b {
		if i%2 == 0 {
			upper += int(x)
		} else {
			lower += int(x)
		}
	}
	sum := new(big.Int).Mul(big.NewInt(int64(upper)), big.NewInt(256))
	return sum.Add(sum, big.NewInt(int64(lower)))
}

func wantAdd(sum int, b []byte) int {
	if sum < 0 {
		sum = 0
	}
	return word(new(big.Int).Add(big.NewInt(int64(sum)), total(b)))
}

func wantSum(b []byte) int { return most - word(total(b)) }

// numbers are sums at the limits of a word, of two words, and of int, and others in between.
func numbers() []int {
	l := []int{math.MinInt, math.MinInt + 1, -1 << 32, -65537, -65536, -65535, -2, -1, math.MaxInt, math.MaxInt - 1, 0x123456789abcdef, 131069, 131070, 131071}
	for at := range 63 {
		l = append(l, 1<<at-1, 1<<at, 1<<at+1, 1<<at*3/2)
	}
	for at := range 47 {
		l = append(l, most<<at, most<<at+1, most<<at-1)
	}
	return l
}

// samples returns strings of even and odd lengths: the same byte all along, and mixed ones.
func samples() [][]byte {
	l := [][]byte{nil, {}, []byte("radiolink"), []byte("123456789"), {0xff, 0xff, 0, 1}, {0xff, 0xfe, 0, 1}, {0x80, 0, 0x7f, 0xff}}
	for _, n := range []int{1, 2, 3, 4, 5, 8, 19, 20, 21, 40, 1499, 1500} {
		mixed := make([]byte, n)
		for i := range mixed {
			mixed[i] = byte(i*i*37 + i*11 + n)
		}
		l = append(l, mixed, make([]byte, n), bytes.Repeat([]byte{0xff}, n), bytes.Repeat([]byte{1}, n))
	}
	return l
}

// edges are words at both limits and others.
var edges = []int{0, 1, 2, 0xff, 0x100, 0x1234, 0x7ffe, 0x7fff, 0x8000, 0x8001, 0xabcd, 0xfffd, 0xfffe, most}

func pair(x int) []byte { return []byte{byte(x >> 8), byte(x)} }

func update(t *testing.T, sum, from, to int) int {
	t.Helper()
	got, e := checksum.Update(sum, from, to)
	if e != api.OK {
		t.Fatalf("Update %d, %d, %d: error %d", sum, from, to, e)
	}
	return got
}

// P4.1: Fold

func TestFold(t *testing.T) {
	for _, x := range numbers() {
		if got, want := checksum.Fold(x), word(big.NewInt(int64(x))); got != want {
			t.Errorf("Fold %d: %d; want %d", x, got, want)
		}
	}
}

func TestFoldOfSmallNumbers(t *testing.T) {
	for x := -1000; x < 300000; x++ {
		if got, want := checksum.Fold(x), word(big.NewInt(int64(x))); got != want {
			t.Fatalf("Fold %d: %d; want %d", x, got, want)
		}
	}
}

// The last numbers have to be folded more than once.
func TestFoldValues(t *testing.T) {
	for _, x := range []struct{ x, want int }{
		{0, 0}, {1, 1}, {most, most},
		{65536, 1}, {65537, 2}, {131070, most}, {131071, 1}, {131072, 2},
		{0xffffffff, most}, {0x1ffff, 1}, {0xffff0001, 1}, {0x100000000, 1}, {0xffff0000, most},
		{math.MaxInt, 0x7fff},
		{-1, 0}, {-65535, 0}, {-65536, 0}, {-65537, 0}, {math.MinInt, 0},
	} {
		if got := checksum.Fold(x.x); got != x.want {
			t.Errorf("Fold %d: %d; want %d", x.x, got, x.want)
		}
	}
}

// P4.1: Add

func TestAdd(t *testing.T) {
	for _, b := range samples() {
		for _, sum := range numbers() {
			if got, want := checksum.Add(sum, b), wantAdd(sum, b); got != want {
				t.Errorf("Add %d, %x: %d; want %d", sum, b, got, want)
			}
		}
	}
}

func TestAddValues(t *testing.T) {
	for _, x := range []struct {
		sum  int
		b    []byte
		want int
	}{
		{0, nil, 0}, {0, []byte{}, 0}, {5, nil, 5}, {most, nil, most}, {65536, nil, 1}, {-7, nil, 0}, {math.MinInt, nil, 0}, {math.MaxInt, nil, 0x7fff},
		{0, []byte{1}, 0x100}, {0, []byte{0, 1}, 1}, {0, []byte{1, 2, 3}, 0x402}, {0, []byte{0, 0, 0xff}, 0xff00},
		{most, []byte{0, 0}, most}, {most, []byte{0, 1}, 1}, {most, []byte{0xff, 0xff}, most}, {0, []byte{0xff, 0xff}, most}, {1, []byte{0xff, 0xff}, 1},
		{-1, []byte{0, 3}, 3}, {math.MinInt, []byte{0xff, 0xff, 0, 1}, 1}, {math.MaxInt, []byte{0x80, 1}, 1}, {math.MaxInt, []byte{0x80, 0}, most},
	} {
		if got := checksum.Add(x.sum, x.b); got != x.want {
			t.Errorf("Add %d, %x: %d; want %d", x.sum, x.b, got, x.want)
		}
	}
}

func TestAddOfEachWord(t *testing.T) {
	for x := range most + 1 {
		for _, sum := range []int{0, 1, 0x8000, most, 65536, -1} {
			if got, want := checksum.Add(sum, pair(x)), wantAdd(sum, pair(x)); got != want {
				t.Fatalf("Add %d, %x: %d; want %d", sum, x, got, want)
			}
		}
	}
}

func TestAddGoesOnBehindAnEvenNumberOfBytes(t *testing.T) {
	for _, b := range samples() {
		for at := 0; at <= len(b); at += 2 {
			for _, sum := range []int{0, 1, most, -9, math.MaxInt} {
				if got, want := checksum.Add(checksum.Add(sum, b[:at]), b[at:]), checksum.Add(sum, b); got != want {
					t.Fatalf("Add %d, %x, in parts of %d and %d bytes: %d; want %d", sum, b, at, len(b)-at, got, want)
				}
			}
		}
	}
}

// P4.1: Sum

func TestSum(t *testing.T) {
	for _, b := range samples() {
		if got, want := checksum.Sum(b), wantSum(b); got != want {
			t.Errorf("Sum %x: %d; want %d", b, got, want)
		}
	}
}

// The header of IPv4 is one whose checksum is published.
func TestSumValues(t *testing.T) {
	for _, x := range []struct {
		b    []byte
		want int
	}{
		{nil, most}, {[]byte{}, most}, {make([]byte, 30), most}, {[]byte{0}, most},
		{[]byte{0, 1}, 65534}, {[]byte{1}, 65279}, {[]byte{1, 0}, 65279}, {[]byte{0xff}, 255},
		{[]byte{0xff, 0xff}, 0}, {bytes.Repeat([]byte{0xff}, 1500), 0}, {bytes.Repeat([]byte{0xff}, 3), 255},
		{[]byte{0x45, 0, 0, 0x73, 0, 0, 0x40, 0, 0x40, 0x11, 0, 0, 0xc0, 0xa8, 0, 1, 0xc0, 0xa8, 0, 0xc7}, 0xb861},
		{[]byte{0, 1, 0xf2, 3, 0xf4, 0xf5, 0xf6, 0xf7}, 0x220d},
	} {
		if got := checksum.Sum(x.b); got != x.want {
			t.Errorf("Sum %x: %d; want %d", x.b, got, x.want)
		}
	}
}

func TestSumOfALastByteAlone(t *testing.T) {
	for _, b := range samples() {
		if len(b)%2 == 1 {
			if got, want := checksum.Sum(b), checksum.Sum(append(bytes.Clone(b), 0)); got != want {
				t.Errorf("Sum %x: %d; with a byte 0 behind it %d", b, got, want)
			}
		}
	}
}

// More words than a sum of 32 bits could take.
func TestSumOfManyBytes(t *testing.T) {
	b := bytes.Repeat([]byte{0xff, 0xfe, 0xff, 0xfd}, 1<<20)
	if got, want := checksum.Sum(b), wantSum(b); got != want {
		t.Errorf("Sum of %d bytes: %d; want %d", len(b), got, want)
	}
}

func TestOnlyTheLengthIsSeenAndNothingIsChanged(t *testing.T) {
	all := []byte{1, 2, 3, 4, 5}
	for _, x := range []struct{ from, to int }{{0, 0}, {0, 1}, {1, 3}, {1, 4}, {4, 5}, {5, 5}} {
		part := bytes.Clone(all[x.from:x.to])
		if got, want := checksum.Sum(all[x.from:x.to]), checksum.Sum(part); got != want {
			t.Errorf("Sum of the bytes from %d to %d: %d; want %d", x.from, x.to, got, want)
		}
		if got, want := checksum.Add(7, all[x.from:x.to]), checksum.Add(7, part); got != want {
			t.Errorf("Add of the bytes from %d to %d: %d; want %d", x.from, x.to, got, want)
		}
	}
	if !bytes.Equal(all, []byte{1, 2, 3, 4, 5}) {
		t.Errorf("the argument is now %x", all)
	}
}

// P4.2

func wantUpdate(sum, from, to int) int {
	return most - word(big.NewInt(int64(most-sum+most-from+to)))
}

func TestUpdate(t *testing.T) {
	for _, sum := range edges {
		for _, from := range edges {
			for _, to := range edges {
				if got, want := update(t, sum, from, to), wantUpdate(sum, from, to); got != want {
					t.Errorf("Update %d, %d, %d: %d; want %d", sum, from, to, got, want)
				}
			}
		}
	}
}

func TestUpdateOfEachWord(t *testing.T) {
	for x := range most + 1 {
		for _, l := range [][3]int{{x, 0x1234, 0xfedc}, {0x4321, x, 0x00ff}, {0x8000, 0x7fff, x}, {x, x, x}, {0, x, most - x}} {
			if got, want := update(t, l[0], l[1], l[2]), wantUpdate(l[0], l[1], l[2]); got != want {
				t.Fatalf("Update %v: %d; want %d", l, got, want)
			}
		}
	}
}

// Only the sum 0 gives the checksum 65535: a word that is replaced by 0 in bytes of which all others are 0 leads to 0.
func TestUpdateValues(t *testing.T) {
	for _, x := range []struct{ sum, from, to, want int }{
		{most, most, 0, most}, {most, 0, 0, 0}, {most, 0, 1, 65534}, {0, 0, 0, 0}, {0, most, most, 0}, {0, most, 0, 0},
		{65534, 1, 0, 0}, {65534, 1, 1, 65534}, {65534, 1, 2, 65533}, {most, most, most, 0}, {most, most, 1, 65534},
		{0xdd2f, 0x5555, 0x3285, 0},
		{0xb861, 0x4011, 0x3f11, 0xb961},
	} {
		if got := update(t, x.sum, x.from, x.to); got != x.want {
			t.Errorf("Update %d, %d, %d: %d; want %d", x.sum, x.from, x.to, got, x.want)
		}
	}
}

func TestUpdateErrRange(t *testing.T) {
	bad := []int{-1, -2, -65535, -65536, math.MinInt, math.MinInt + most, 65536, 65537, 131071, 1 << 32, -1 << 32, 1<<32 + 5, math.MaxInt}
	for _, x := range bad {
		for _, good := range []int{0, 1, 0x8000, most} {
			for _, l := range [][3]int{
				{x, good, good}, {good, x, good}, {good, good, x},
				{x, x, good}, {x, good, x}, {good, x, x}, {x, x, x}, {x, -x, good}, {x, good, -x}, {good, x, -x},
			} {
				if got, e := checksum.Update(l[0], l[1], l[2]); got != 0 || e != api.ErrRange {
					t.Errorf("Update %v: %d, %d", l, got, e)
				}
			}
		}
	}
}

// Consequences

func TestBytesFollowedByTheirChecksum(t *testing.T) {
	for _, b := range samples() {
		if len(b)%2 == 0 {
			if got := checksum.Sum(append(bytes.Clone(b), pair(checksum.Sum(b))...)); got != 0 {
				t.Errorf("%x followed by its checksum: %d", b, got)
			}
		}
	}
	for x := range most + 1 {
		if got := checksum.Sum(append(pair(x), pair(checksum.Sum(pair(x)))...)); got != 0 {
			t.Fatalf("%x followed by its checksum: %d", x, got)
		}
	}
}

func TestTheOrderOfWordsDoesNotMatter(t *testing.T) {
	for _, b := range samples() {
		if len(b)%2 != 0 {
			continue
		}
		c := []byte{}
		for at := len(b); at > 0; at -= 2 {
			c = append(c, b[at-2:at]...)
		}
		if got, want := checksum.Sum(c), checksum.Sum(b); got != want {
			t.Errorf("%x: %d; its words from the last to the first: %d", b, want, got)
		}
		for at := 0; at+4 <= len(b); at += 2 {
			c := bytes.Clone(b)
			copy(c[at:], b[at+2:at+4])
			copy(c[at+2:], b[at:at+2])
			if got, want := checksum.Add(77, c), checksum.Add(77, b); got != want {
				t.Errorf("%x: %d; with two words exchanged at %d: %d", b, want, at, got)
			}
		}
	}
	if checksum.Sum([]byte{1, 2}) == checksum.Sum([]byte{2, 1}) {
		t.Errorf("the order of the bytes of a word does not matter")
	}
}

func TestUpdateGivesTheChecksumOfTheChangedBytes(t *testing.T) {
	for _, b := range samples() {
		for at := 0; at+2 <= len(b) && at < 60; at += 2 {
			others := append(bytes.Clone(b[:at]), b[at+2:]...)
			if checksum.Add(0, others) == 0 {
				continue
			}
			from := int(b[at])<<8 | int(b[at+1])
			for _, to := range edges {
				c := bytes.Clone(b)
				copy(c[at:], pair(to))
				if got, want := update(t, checksum.Sum(b), from, to), checksum.Sum(c); got != want {
					t.Errorf("%x with %d at %d: %d; want %d", b, to, at, got, want)
				}
			}
		}
	}
}

// Where all other words are 0, the sum is lost in the one case that the consequence leaves out: the word becomes 0.
func TestUpdateOfTheOnlyWordThatIsNot0(t *testing.T) {
	for _, from := range edges {
		sum := checksum.Sum(append(pair(from), 0, 0))
		for _, to := range edges[1:] {
			if got, want := update(t, sum, from, to), checksum.Sum(pair(to)); got != want {
				t.Errorf("%d becomes %d: %d; want %d", from, to, got, want)
			}
		}
		if got := update(t, sum, from, 0); got != 0 {
			t.Errorf("%d becomes 0: %d", from, got)
		}
	}
}
