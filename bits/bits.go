// Package bits is layer 1: numbers of any width in bytes. See shared/doc/01-bits.md.
package bits

import (
	"bytes"

	"radiolink/api"
)

const (
	maxWidth   = 32
	maxNumbers = 256
)

// Read returns the number in the n bits of b from bit at on.
func Read(b []byte, at, n int) (int, api.Errno) {
	if !isWidth(n) || at < 0 {
		return 0, api.ErrRange
	}
	if !hasBits(b, at, n) {
		return 0, api.ErrEnd
	}
	return number(b, at, n), api.OK
}

// Write returns b with the number v in the n bits from bit at on.
func Write(b []byte, at, n, v int) ([]byte, api.Errno) {
	if !fits(n, v) || at < 0 {
		return nil, api.ErrRange
	}
	if !hasBits(b, at, n) {
		return nil, api.ErrEnd
	}
	result := bytes.Clone(b)
	put(result, at, n, v)
	return result, api.OK
}

// Pack returns the numbers values with the widths, one after the other, and then bits 0 up to the next whole byte.
func Pack(widths, values []int) ([]byte, api.Errno) {
	if len(widths) != len(values) || len(widths) > maxNumbers {
		return nil, api.ErrSize
	}
	for i, n := range widths {
		if !fits(n, values[i]) {
			return nil, api.ErrRange
		}
	}
	result := make([]byte, wholeBytes(sum(widths)))
	at := 0
	for i, n := range widths {
		put(result, at, n, values[i])
		at += n
	}
	return result, api.OK
}

// Unpack returns the numbers with the widths that stand in b, which has nothing but bits 0 of its last byte behind them.
func Unpack(b []byte, widths []int) ([]int, api.Errno) {
	if len(widths) > maxNumbers {
		return nil, api.ErrSize
	}
	for _, n := range widths {
		if !isWidth(n) {
			return nil, api.ErrRange
		}
	}
	total := sum(widths)
	if !hasBits(b, 0, total) {
		return nil, api.ErrEnd
	}
	if !endsAt(b, total) {
		return nil, api.ErrForm
	}
	result := make([]int, len(widths))
	at := 0
	for i, n := range widths {
		result[i] = number(b, at, n)
		at += n
	}
	return result, api.OK
}

func isWidth(n int) bool { return n >= 0 && n <= maxWidth }

// fits tells whether n is a width and v a number of that width.
func fits(n, v int) bool { return isWidth(n) && v >= 0 && v < 1<<n }

// hasBits tells whether b has the n bits from bit at on. It subtracts because the sum of at and n might wrap around.
func hasBits(b []byte, at, n int) bool { return n <= 8*len(b)-at }

// endsAt tells whether b has no whole byte behind its first total bits, and no bit 1.
func endsAt(b []byte, total int) bool {
	return len(b) == wholeBytes(total) && number(b, total, 8*len(b)-total) == 0
}

func wholeBytes(total int) int { return (total + 7) / 8 }

func sum(widths []int) int {
	total := 0
	for _, n := range widths {
		total += n
	}
	return total
}

func number(b []byte, at, n int) int {
	v := 0
	for i := range n {
		v = v<<1 | int(b[(at+i)/8]>>(7-(at+i)%8))&1
	}
	return v
}

// put clears bits as well as it sets them, because Write replaces what stands there.
func put(b []byte, at, n, v int) {
	for i := range n {
		place := (at + i) / 8
		mask := byte(0x80) >> ((at + i) % 8)
		if v>>(n-1-i)&1 == 1 {
			b[place] |= mask
		} else {
			b[place] &^= mask
		}
	}
}
