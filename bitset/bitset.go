// Package bitset is layer 1: it works with bit strings. See shared/doc/01-bitset.md.
package bitset

import (
	"math/bits"

	"bitcast/api"
)

// ValidLength reports whether a length of bit strings is valid.
func ValidLength(n int) bool { return n == 8 || n == 16 || n == 32 || n == 64 }

// Valid reports whether a bit string is valid for a length.
func Valid(b uint64, length int) bool {
	return ValidLength(length) && b&^Full(length) == 0
}

// Full returns the bit string with all bits of a length.
func Full(length int) uint64 {
	if !ValidLength(length) {
		return 0
	}
	return ^uint64(0) >> (64 - length)
}

// Count returns the number of bits.
func Count(b uint64) int { return bits.OnesCount64(b) }

// First returns the least bit.
func First(b uint64) int {
	if b == 0 {
		return -1
	}
	return bits.TrailingZeros64(b)
}

// Nth returns the n-th bit.
func Nth(b uint64, n int) int {
	// Excluding every n without a bit first keeps the loop short, however great n is.
	if n < 0 || n >= Count(b) {
		return -1
	}
	for range n {
		b = withoutFirst(b)
	}
	return First(b)
}

// Rank returns the number of bits below k.
func Rank(b uint64, k int) int {
	if k < 0 {
		return 0
	}
	if k > 63 {
		return Count(b)
	}
	return Count(b & (1<<k - 1))
}

// Of returns the bit string with the bits of l.
func Of(l []int, length int) (uint64, api.Errno) {
	if !ValidLength(length) {
		return 0, api.ErrInvalid
	}
	// A number out of range comes before equal ones, even if it stands behind them.
	for _, k := range l {
		if k < 0 || k >= length {
			return 0, api.ErrRange
		}
	}
	var b uint64
	for _, k := range l {
		if b>>k&1 == 1 {
			return 0, api.ErrDuplicate
		}
		b |= 1 << k
	}
	return b, api.OK
}

// List returns the bits in ascending order.
func List(b uint64) []int {
	l := make([]int, 0, Count(b))
	for ; b != 0; b = withoutFirst(b) {
		l = append(l, First(b))
	}
	return l
}

// Split divides a bit string by masks in order.
func Split(b uint64, masks []uint64) (parts []uint64, rest uint64) {
	parts = make([]uint64, 0, len(masks))
	rest = b
	for _, m := range masks {
		parts = append(parts, rest&m)
		rest &^= m
	}
	return parts, rest
}

// Spread puts the lowest bits of x to the bits of b.
func Spread(x, b uint64) uint64 {
	var result uint64
	for ; b != 0; b = withoutFirst(b) {
		result |= (x & 1) << First(b)
		x >>= 1
	}
	return result
}

// Gather takes the bits of x at the bits of b together.
func Gather(x, b uint64) uint64 {
	var result uint64
	for i := 0; b != 0; i++ {
		result |= (x >> First(b) & 1) << i
		b = withoutFirst(b)
	}
	return result
}

// Bytes returns the bytes of a bit string.
func Bytes(b uint64, length int) ([]byte, api.Errno) {
	if !ValidLength(length) {
		return nil, api.ErrRange
	}
	if !Valid(b, length) {
		return nil, api.ErrInvalid
	}
	l := make([]byte, length/8)
	for i := range l {
		l[i] = byte(b >> (length - 8 - 8*i))
	}
	return l, api.OK
}

// FromBytes returns the bit string with these bytes.
func FromBytes(l []byte) (b uint64, length int, e api.Errno) {
	// Comparing with the greatest number of bytes first keeps the product small.
	if len(l) > 8 || !ValidLength(8*len(l)) {
		return 0, 0, api.ErrRange
	}
	for _, x := range l {
		b = b<<8 | uint64(x)
	}
	return b, 8 * len(l), api.OK
}

// Format returns the text of a bit string.
func Format(b uint64, length int) string {
	if !Valid(b, length) {
		return ""
	}
	text := make([]byte, length)
	for i := range text {
		text[i] = '0' + byte(b>>(length-1-i)&1)
	}
	return string(text)
}

// Parse returns the bit string with this text.
func Parse(s string) (b uint64, length int, e api.Errno) {
	if !ValidLength(len(s)) {
		return 0, 0, api.ErrRange
	}
	for i := range len(s) {
		if s[i] != '0' && s[i] != '1' {
			return 0, 0, api.ErrSyntax
		}
		b = b<<1 | uint64(s[i]-'0')
	}
	return b, len(s), api.OK
}

// withoutFirst takes the least bit away.
func withoutFirst(b uint64) uint64 { return b & (b - 1) }
