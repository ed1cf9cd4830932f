package bits_test

import (
	"bytes"
	"math"
	"slices"
	"strconv"
	"strings"
	"testing"

	"radiolink/api"
	"radiolink/bits"
)

// text writes bytes as a text of the digits 0 and 1: the model against which the tests compare.
func text(b []byte) string {
	s := ""
	for _, x := range b {
		d := strconv.FormatInt(int64(x), 2)
		s += strings.Repeat("0", 8-len(d)) + d
	}
	return s
}

func digits(n, v int) string {
	if n == 0 {
		return ""
	}
	d := strconv.FormatInt(int64(v), 2)
	return strings.Repeat("0", n-len(d)) + d
}

func value(s string) int {
	if s == "" {
		return 0
	}
	v, err := strconv.ParseInt(s, 2, 64)
	if err != nil {
		panic(err)
	}
	return int(v)
}

// some returns numbers of n bits: the least, the greatest and several patterns.
func some(n int) []int {
	most := 1<<n - 1
	l := []int{0, 1 & most, most, most - 1&most, 0x55555555 & most, 0x2aaaaaaa & most, 0x9e3779b9 & most, (most + 1) / 2 & most}
	slices.Sort(l)
	return slices.Compact(l)
}

func patterns() [][]byte {
	return [][]byte{
		{0, 0, 0, 0, 0, 0, 0},
		{0xff, 0xff, 0xff, 0xff, 0xff, 0xff, 0xff},
		{0x80, 0x01, 0xa5, 0x3c, 0x7e, 0x12, 0xef},
	}
}

// P1.1

func TestReadReturnsTheNumberInTheBits(t *testing.T) {
	for _, b := range patterns() {
		s := text(b)
		for n := range 33 {
			for at := range len(s) - n + 1 {
				want := value(s[at : at+n])
				if got, e := bits.Read(b, at, n); got != want || e != api.OK {
					t.Fatalf("Read %x, %d, %d: %d, %d; want %d", b, at, n, got, e, want)
				}
			}
		}
	}
}

func TestReadExample(t *testing.T) {
	if got, e := bits.Read([]byte{0x80, 0x01}, 12, 4); got != 1 || e != api.OK {
		t.Errorf("%d, %d", got, e)
	}
}

func TestReadEdges(t *testing.T) {
	long := make([]byte, 5000)
	long[4999] = 5
	for _, x := range []struct {
		b           []byte
		at, n, want int
		err         api.Errno
	}{
		{nil, 0, 0, 0, api.OK},
		{[]byte{}, 0, 0, 0, api.OK},
		{[]byte{0xff}, 0, 0, 0, api.OK},
		{[]byte{0xff}, 7, 0, 0, api.OK},
		{[]byte{0xff}, 8, 0, 0, api.OK},
		{[]byte{0xff}, 0, 8, 255, api.OK},
		{[]byte{0xff}, 7, 1, 1, api.OK},
		{[]byte{0xff, 0xff, 0xff, 0xff}, 0, 32, 1<<32 - 1, api.OK},
		{[]byte{0x01, 0xff, 0xff, 0xff, 0xfe}, 7, 32, 1<<32 - 1, api.OK},
		{long, 39992, 8, 5, api.OK},
		{long, 39992, 9, 0, api.ErrEnd},
		{nil, 0, 1, 0, api.ErrEnd},
		{nil, 1, 0, 0, api.ErrEnd},
		{[]byte{0xff}, 0, 9, 0, api.ErrEnd},
		{[]byte{0xff}, 8, 1, 0, api.ErrEnd},
		{[]byte{0xff}, 9, 0, 0, api.ErrEnd},
		{[]byte{0xff}, 9, 1, 0, api.ErrEnd},
		{[]byte{0xff, 0xff, 0xff, 0xff}, 1, 32, 0, api.ErrEnd},
		{[]byte{0xff}, math.MaxInt, 0, 0, api.ErrEnd},
		{[]byte{0xff}, math.MaxInt, 1, 0, api.ErrEnd},
		{[]byte{0xff}, math.MaxInt, 32, 0, api.ErrEnd},
		{[]byte{0xff}, math.MaxInt - 31, 32, 0, api.ErrEnd},
	} {
		if got, e := bits.Read(x.b, x.at, x.n); got != x.want || e != x.err {
			t.Errorf("Read of %d bytes, %d, %d: %d, %d; want %d, %d", len(x.b), x.at, x.n, got, e, x.want, x.err)
		}
	}
}

func TestReadErrRangeComesFirst(t *testing.T) {
	b := []byte{0xff, 0xff, 0xff, 0xff, 0xff, 0xff}
	for _, x := range [][2]int{
		{0, 33}, {0, -1}, {0, math.MinInt}, {0, math.MaxInt}, {0, 64},
		{-1, 0}, {-1, 1}, {-1, 8}, {-8, 16}, {-1, 32}, {math.MinInt, 0}, {math.MinInt, 32}, {-1, -1}, {-1, 33},
		{99, 33}, {99, -1}, {math.MaxInt, 33}, {math.MaxInt, math.MaxInt}, {math.MaxInt, math.MinInt},
	} {
		for _, b := range [][]byte{nil, b} {
			if got, e := bits.Read(b, x[0], x[1]); got != 0 || e != api.ErrRange {
				t.Errorf("Read of %d bytes, %d, %d: %d, %d", len(b), x[0], x[1], got, e)
			}
		}
	}
}

func TestReadSeesOnlyTheLength(t *testing.T) {
	b := []byte{1, 2, 3, 4}
	if got, e := bits.Read(b[:2], 8, 16); got != 0 || e != api.ErrEnd {
		t.Errorf("%d, %d", got, e)
	}
	if got, e := bits.Read(b[1:3], 0, 16); got != 0x0203 || e != api.OK {
		t.Errorf("%d, %d", got, e)
	}
	if !bytes.Equal(b, []byte{1, 2, 3, 4}) {
		t.Errorf("the argument is now %x", b)
	}
}

// P1.2

func TestWriteReplacesTheBitsAndNoOthers(t *testing.T) {
	for _, b := range patterns() {
		s := text(b)
		for n := range 33 {
			for at := range len(s) - n + 1 {
				for _, v := range some(n) {
					got, e := bits.Write(b, at, n, v)
					if want := s[:at] + digits(n, v) + s[at+n:]; text(got) != want || e != api.OK {
						t.Fatalf("Write %x, %d, %d, %d: %x, %d; want %s", b, at, n, v, got, e, want)
					}
					if r, e := bits.Read(got, at, n); r != v || e != api.OK {
						t.Fatalf("Read of Write %x, %d, %d, %d: %d, %d", b, at, n, v, r, e)
					}
				}
			}
		}
		if text(b) != s {
			t.Fatalf("the argument is now %x", b)
		}
	}
}

func TestWriteEdges(t *testing.T) {
	for _, x := range []struct {
		b        []byte
		at, n, v int
		want     []byte
		err      api.Errno
	}{
		{nil, 0, 0, 0, nil, api.OK},
		{[]byte{0xa5}, 0, 0, 0, []byte{0xa5}, api.OK},
		{[]byte{0xa5}, 8, 0, 0, []byte{0xa5}, api.OK},
		{[]byte{0xa5}, 0, 8, 0x5a, []byte{0x5a}, api.OK},
		{[]byte{0xa5}, 7, 1, 0, []byte{0xa4}, api.OK},
		{[]byte{0, 0, 0, 0}, 0, 32, 1<<32 - 1, []byte{255, 255, 255, 255}, api.OK},
		{[]byte{255, 255, 255, 255}, 0, 32, 0, []byte{0, 0, 0, 0}, api.OK},
		{nil, 0, 1, 0, nil, api.ErrEnd},
		{nil, 1, 0, 0, nil, api.ErrEnd},
		{[]byte{0xa5}, 9, 0, 0, nil, api.ErrEnd},
		{[]byte{0xa5}, 8, 1, 1, nil, api.ErrEnd},
		{[]byte{0xa5}, 0, 9, 1, nil, api.ErrEnd},
		{[]byte{0xa5}, 1, 8, 1, nil, api.ErrEnd},
		{[]byte{0xa5}, math.MaxInt, 0, 0, nil, api.ErrEnd},
		{[]byte{0xa5}, math.MaxInt, 1, 1, nil, api.ErrEnd},
		{[]byte{0xa5}, math.MaxInt, 32, 1, nil, api.ErrEnd},
	} {
		if got, e := bits.Write(x.b, x.at, x.n, x.v); !bytes.Equal(got, x.want) || e != x.err {
			t.Errorf("Write %x, %d, %d, %d: %x, %d; want %x, %d", x.b, x.at, x.n, x.v, got, e, x.want, x.err)
		}
	}
}

func TestWriteErrRangeComesFirst(t *testing.T) {
	b := []byte{0, 0, 0, 0, 0, 0}
	for _, x := range [][3]int{
		{0, 33, 0}, {0, -1, 0}, {0, math.MinInt, 0}, {0, math.MaxInt, 0}, {0, 64, 1},
		{-1, 0, 0}, {-1, 1, 1}, {-8, 16, 1}, {math.MinInt, 0, 0}, {math.MinInt, 32, 1},
		{0, 0, 1}, {0, 0, -1}, {0, 1, 2}, {0, 3, 8}, {0, 3, -1}, {0, 8, 256}, {0, 31, 1 << 31}, {0, 32, 1 << 32}, {0, 32, -1},
		{0, 32, math.MaxInt}, {0, 32, math.MinInt}, {0, 1, math.MinInt}, {0, 0, math.MaxInt},
		{99, 33, 0}, {99, -1, 0}, {99, 3, 8}, {99, 3, -1}, {math.MaxInt, 0, 1}, {math.MaxInt, 33, 0}, {47, 2, 4},
	} {
		for _, b := range [][]byte{nil, b} {
			if got, e := bits.Write(b, x[0], x[1], x[2]); len(got) != 0 || e != api.ErrRange {
				t.Errorf("Write to %d bytes, %v: %x, %d", len(b), x, got, e)
			}
		}
	}
}

func TestWriteReturnsNewMemory(t *testing.T) {
	all := []byte{1, 2, 3, 4}
	for _, n := range []int{0, 8} {
		got, e := bits.Write(all[:2], 0, n, 0)
		if len(got) != 2 || e != api.OK {
			t.Fatalf("%x, %d", got, e)
		}
		for i := range got {
			got[i] = 0xee
		}
		_ = append(got, 0xee)
		if !bytes.Equal(all, []byte{1, 2, 3, 4}) {
			t.Errorf("%d bits: the argument is now %x", n, all)
		}
	}
	if got, e := bits.Write(all[:1], 8, 8, 9); len(got) != 0 || e != api.ErrEnd || all[1] != 2 {
		t.Errorf("behind the length: %x, %d; the argument is now %x", got, e, all)
	}
}

// P1.3 and P1.4

// lists returns widths with values that fit them.
func lists() (widths, values [][]int) {
	for first := range 33 {
		for _, v := range some(first) {
			for _, second := range []int{0, 1, 3, 7, 8, 9, 31, 32} {
				widths = append(widths, []int{first, second}, []int{second, 5, first})
				values = append(values, []int{v, 1<<second - 1}, []int{0, 21, v})
			}
		}
	}
	return append(widths, nil, []int{0}, []int{0, 0, 0}, []int{1}, []int{8}), append(values, nil, []int{0}, []int{0, 0, 0}, []int{1}, []int{200})
}

func TestPackAndUnpack(t *testing.T) {
	widths, values := lists()
	for i, w := range widths {
		want := ""
		for j, n := range w {
			want += digits(n, values[i][j])
		}
		for len(want)%8 != 0 {
			want += "0"
		}
		b, e := bits.Pack(w, values[i])
		if text(b) != want || e != api.OK {
			t.Fatalf("Pack %v, %v: %x, %d; want %s", w, values[i], b, e, want)
		}
		if v, e := bits.Unpack(b, w); !slices.Equal(v, values[i]) || e != api.OK {
			t.Fatalf("Unpack %x, %v: %v, %d; want %v", b, w, v, e, values[i])
		}
	}
}

func TestPackExample(t *testing.T) {
	if b, e := bits.Pack([]int{4, 3}, []int{9, 2}); !bytes.Equal(b, []byte{0x94}) || e != api.OK {
		t.Errorf("%x, %d", b, e)
	}
	if v, e := bits.Unpack([]byte{0x94}, []int{4, 3}); !slices.Equal(v, []int{9, 2}) || e != api.OK {
		t.Errorf("%v, %d", v, e)
	}
}

func repeat(x, n int) []int { return slices.Repeat([]int{x}, n) }

func TestPackAndUnpackOfTheMostNumbers(t *testing.T) {
	for _, n := range []int{0, 1, 7, 32} {
		w, v := repeat(n, 256), repeat(1<<n-1, 256)
		b, e := bits.Pack(w, v)
		if text(b) != strings.Repeat("1", 256*n) || e != api.OK {
			t.Errorf("Pack of 256 numbers of %d bits: %x, %d", n, b, e)
		}
		if got, e := bits.Unpack(b, w); !slices.Equal(got, v) || e != api.OK {
			t.Errorf("Unpack of 256 numbers of %d bits: %v, %d", n, got, e)
		}
	}
}

func TestPackErrors(t *testing.T) {
	for i, x := range []struct {
		widths, values []int
		want           api.Errno
	}{
		{[]int{1}, nil, api.ErrSize},
		{nil, []int{1}, api.ErrSize},
		{[]int{1, 1}, []int{1}, api.ErrSize},
		{[]int{1}, []int{1, 1}, api.ErrSize},
		{[]int{33}, []int{0, 0}, api.ErrSize},
		{[]int{1, 1}, []int{2}, api.ErrSize},
		{repeat(1, 257), repeat(1, 257), api.ErrSize},
		{repeat(33, 257), repeat(1, 257), api.ErrSize},
		{repeat(1, 257), repeat(2, 257), api.ErrSize},
		{repeat(1, 256), repeat(1, 257), api.ErrSize},
		{repeat(1, 257), repeat(1, 256), api.ErrSize},
		{[]int{33}, []int{0}, api.ErrRange},
		{[]int{33}, []int{1 << 32}, api.ErrRange},
		{[]int{-1}, []int{0}, api.ErrRange},
		{[]int{math.MinInt}, []int{0}, api.ErrRange},
		{[]int{math.MaxInt}, []int{0}, api.ErrRange},
		{[]int{64}, []int{0}, api.ErrRange},
		{[]int{0}, []int{1}, api.ErrRange},
		{[]int{0}, []int{-1}, api.ErrRange},
		{[]int{1}, []int{2}, api.ErrRange},
		{[]int{8}, []int{256}, api.ErrRange},
		{[]int{8}, []int{-1}, api.ErrRange},
		{[]int{32}, []int{1 << 32}, api.ErrRange},
		{[]int{32}, []int{-1}, api.ErrRange},
		{[]int{32}, []int{math.MaxInt}, api.ErrRange},
		{[]int{32}, []int{math.MinInt}, api.ErrRange},
		{[]int{1, 2}, []int{1, 4}, api.ErrRange},
		{[]int{1, 33, 1}, []int{1, 0, 1}, api.ErrRange},
		{append(repeat(1, 255), 33), repeat(1, 256), api.ErrRange},
	} {
		if b, e := bits.Pack(x.widths, x.values); len(b) != 0 || e != x.want {
			t.Errorf("Pack %d: %x, %d; want %d", i, b, e, x.want)
		}
	}
}

func TestUnpackErrors(t *testing.T) {
	for i, x := range []struct {
		b      []byte
		widths []int
		want   api.Errno
	}{
		{nil, repeat(0, 257), api.ErrSize},
		{make([]byte, 33), repeat(1, 257), api.ErrSize},
		{nil, repeat(33, 257), api.ErrSize},
		{nil, repeat(1, 257), api.ErrSize},
		{[]byte{1, 1}, repeat(0, 257), api.ErrSize},
		{[]byte{0, 0, 0, 0, 0}, []int{33}, api.ErrRange},
		{[]byte{0}, []int{-1}, api.ErrRange},
		{[]byte{0}, []int{9, -1}, api.ErrRange},
		{[]byte{0}, []int{math.MinInt}, api.ErrRange},
		{[]byte{0}, []int{math.MaxInt, math.MaxInt, 2}, api.ErrRange},
		{nil, []int{33}, api.ErrRange},
		{nil, []int{1, 33}, api.ErrRange},
		{[]byte{0, 0, 0}, []int{1, 33}, api.ErrRange},
		{[]byte{1}, []int{2, -1}, api.ErrRange},
		{[]byte{1}, []int{-1, 2}, api.ErrRange},
		{nil, []int{1}, api.ErrEnd},
		{[]byte{0}, []int{9}, api.ErrEnd},
		{[]byte{1}, []int{4, 5}, api.ErrEnd},
		{[]byte{1}, []int{8, 1}, api.ErrEnd},
		{[]byte{255, 255, 255}, []int{32}, api.ErrEnd},
		{make([]byte, 1023), repeat(32, 256), api.ErrEnd},
		{[]byte{0}, nil, api.ErrForm},
		{[]byte{7}, nil, api.ErrForm},
		{[]byte{0}, []int{0, 0}, api.ErrForm},
		{[]byte{0, 0}, []int{8}, api.ErrForm},
		{[]byte{0, 1}, []int{8}, api.ErrForm},
		{[]byte{0, 0}, []int{3}, api.ErrForm},
		{[]byte{0, 0, 0}, []int{8, 3}, api.ErrForm},
		{[]byte{0, 0, 0, 0}, []int{8}, api.ErrForm},
		{make([]byte, 1025), repeat(32, 256), api.ErrForm},
	} {
		if v, e := bits.Unpack(x.b, x.widths); len(v) != 0 || e != x.want {
			t.Errorf("Unpack %d: %v, %d; want %d", i, v, e, x.want)
		}
	}
}

func TestUnpackErrFormForEachBitBehind(t *testing.T) {
	for n := 1; n <= 16; n++ {
		b := make([]byte, (n+7)/8)
		for at := range 8 * len(b) {
			one, _ := bits.Write(b, at, 1, 1)
			want := api.OK
			if at >= n {
				want = api.ErrForm
			}
			if v, e := bits.Unpack(one, []int{n}); e != want || e != api.OK && len(v) != 0 {
				t.Errorf("Unpack of %d bits with bit %d: %v, %d; want %d", n, at, v, e, want)
			}
		}
	}
}

func TestUnpackSeesOnlyTheLength(t *testing.T) {
	b := []byte{1, 2, 3}
	if v, e := bits.Unpack(b[:2], []int{16}); !slices.Equal(v, []int{0x0102}) || e != api.OK {
		t.Errorf("%v, %d", v, e)
	}
	if v, e := bits.Unpack(b[:2], []int{24}); len(v) != 0 || e != api.ErrEnd {
		t.Errorf("%v, %d", v, e)
	}
}

func TestPackAndUnpackLeaveTheirArguments(t *testing.T) {
	w, v := []int{8, 16, 3}, []int{8, 16, 3}
	b, _ := bits.Pack(w, v)
	got, _ := bits.Unpack(b, w)
	if !slices.Equal(w, []int{8, 16, 3}) || !slices.Equal(v, []int{8, 16, 3}) || !bytes.Equal(b, []byte{8, 0, 16, 0x60}) {
		t.Errorf("%v, %v, %x", w, v, b)
	}
	for i := range got {
		got[i] = -1
	}
	if !slices.Equal(w, []int{8, 16, 3}) || !bytes.Equal(b, []byte{8, 0, 16, 0x60}) {
		t.Errorf("shared memory: %v, %x", w, b)
	}
}

func TestCallsDoNotShareResults(t *testing.T) {
	w, v := []int{8}, []int{7}
	b1, _ := bits.Pack(w, v)
	u1, _ := bits.Unpack(b1, w)
	r1, _ := bits.Write(b1, 0, 4, 1)
	b1[0], r1[0], u1[0] = 99, 99, 99
	b2, _ := bits.Pack(w, v)
	u2, _ := bits.Unpack(b2, w)
	r2, _ := bits.Write(b2, 0, 4, 1)
	if b2[0] != 7 || u2[0] != 7 || r2[0] != 0x17 {
		t.Errorf("%x, %v, %x", b2, u2, r2)
	}
}
