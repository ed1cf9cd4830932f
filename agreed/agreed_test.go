package agreed_test

import (
	"math"
	"testing"

	"radiolink/agreed"
	"radiolink/api"
	"radiolink/check"
	"radiolink/packet"
)

var extremes = []int{math.MinInt, -1 << 40, -1, 1 << 32, math.MaxInt}

var headers = []api.Header{
	{Kind: api.KindUdp, Id: 65535, Ttl: 64, From: 1, To: 2, FromPort: 3, ToPort: 4, Check: 5},
	{Kind: api.KindRtp, Tos: 184, Id: 7, Ttl: 64, From: 1<<32 - 1, Marker: 1, Type: 96, Seq: 65535, Time: 1<<32 - 1, Source: 9},
}

func TestIsMode(t *testing.T) {
	for _, mode := range append([]int{0, 4, 17}, extremes...) {
		if agreed.IsMode(mode) {
			t.Errorf("mode %d", mode)
		}
	}
	for mode := 1; mode <= 3; mode++ {
		if !agreed.IsMode(mode) {
			t.Errorf("no mode %d", mode)
		}
	}
}

func TestIsDynamic(t *testing.T) {
	for _, h := range headers {
		for _, stride := range append([]int{0, 1, 160, 65535, 65536}, extremes...) {
			for _, follow := range append([]int{0, 1, 2}, extremes...) {
				want := stride >= 0 && stride <= 65535 && (follow == 0 || follow == 1)
				if h.Kind == api.KindUdp {
					want = stride == 0 && follow == 0
				}
				if got := agreed.IsDynamic(api.Dynamic{Stride: stride, Follow: follow}, h); got != want {
					t.Errorf("kind %d, stride %d, follow %d: %v", h.Kind, stride, follow, got)
				}
			}
		}
	}
}

func TestCheckOf(t *testing.T) {
	for _, h := range headers {
		for format, width := range map[int]int{api.FormatTiny: 3, api.FormatShort: 7, api.FormatLong: 8, api.FormatRefresh: 8, api.FormatFull: 8} {
			if want, _ := check.Sum(width, packet.Head(h)); agreed.CheckOf(h, format) != want {
				t.Errorf("kind %d, format %d: %d, and not %d", h.Kind, format, agreed.CheckOf(h, format), want)
			}
		}
	}
}

func TestNumberBits(t *testing.T) {
	for kind, want := range map[int][]int{api.KindUdp: {0, 4, 5, 16, 0, 0, 0, 0}, api.KindRtp: {0, 4, 5, 8, 0, 0, 0, 0}} {
		for format, n := range want {
			if got := agreed.NumberBits(kind, format); got != n {
				t.Errorf("kind %d, format %d: %d bits", kind, format, got)
			}
		}
		for _, format := range extremes {
			if got := agreed.NumberBits(kind, format); got != 0 {
				t.Errorf("kind %d, format %d: %d bits", kind, format, got)
			}
		}
	}
	if agreed.NumberWidth != 16 || agreed.TimeWidth != 32 || agreed.ShortTime != 16 {
		t.Error("widths")
	}
}
