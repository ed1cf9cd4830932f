// Package agreed holds what both sides of header compression must agree on, so that there is one copy of it. It is no layer: the layers 9 and 10 use it.
package agreed

import (
	"radiolink/api"
	"radiolink/check"
	"radiolink/flow"
	"radiolink/packet"
)

// Bits of numbers.
const (
	NumberWidth = 16 // of a header
	TimeWidth   = 32
	ShortTime   = 16 // of Time in FormatShort
)

// IsMode tells whether there is such a mode.
func IsMode(mode int) bool {
	return mode == api.ModeOneWay || mode == api.ModeOptimistic || mode == api.ModeReliable
}

// IsDynamic tells whether the parameters are valid for the flow of a valid header. With those that are not, there is no prediction.
func IsDynamic(d api.Dynamic, h api.Header) bool {
	if h.Kind == api.KindUdp {
		return d == api.Dynamic{}
	}
	return flow.Predict(d, h, 0) != api.Header{}
}

// CheckOf returns the check value of a header in a format.
func CheckOf(h api.Header, format int) int {
	width := 8
	switch format {
	case api.FormatTiny:
		width = 3
	case api.FormatShort:
		width = 7
	}
	sum, _ := check.Sum(width, packet.Head(h))
	return sum
}

// NumberBits returns how many bits of the number a format has, or 0 if it has none.
func NumberBits(kind, format int) int {
	switch format {
	case api.FormatTiny:
		return 4
	case api.FormatShort:
		return 5
	case api.FormatLong:
		if kind == api.KindUdp {
			return NumberWidth
		}
		return 8
	}
	return 0
}
