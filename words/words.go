// Package words is layer 1: see shared/doc/01-words.md.
package words

import (
	"math/bits"
	"strings"

	"precinct/api"
)

const (
	maxWidth  = 8     // bytes of a uint64
	allBits   = 64    // bits of a uint64
	textWidth = 2     // bytes of a text's length
	maxText   = 65535 // the greatest length that textWidth bytes can tell
)

// Put: a number in so many bytes.
func Put(width int, n uint64) string {
	width = clamp(width, 0, maxWidth)
	b := make([]byte, width)
	for i := range width {
		b[width-1-i] = byte(n)
		n >>= 8
	}
	return string(b)
}

// Get: the number at a place.
func Get(s string, at, width int) (uint64, int, api.Errno) {
	if width < 1 || width > maxWidth || at < 0 || at > len(s) {
		return 0, 0, api.ErrArg
	}
	if len(s)-at < width {
		return 0, 0, api.ErrShort
	}
	var n uint64
	for i := range width {
		n = n<<8 | uint64(s[at+i])
	}
	return n, at + width, api.OK
}

// Fold: a number without a sign for one with.
func Fold(n int64) uint64 {
	// -2n - 1 is 2n with every bit turned over, which never overflows.
	if n < 0 {
		return ^(uint64(n) << 1)
	}
	return uint64(n) << 1
}

// Unfold: the number with a sign.
func Unfold(n uint64) int64 {
	half := int64(n >> 1)
	if n&1 == 1 {
		return ^half
	}
	return half
}

// Rotate: the bits of a word, moved around.
func Rotate(x uint32, by int) uint32 { return bits.RotateLeft32(x, by) }

// Bits: some of a number's bits.
func Bits(n uint64, from, count int) uint64 {
	// Left out ahead of the shifts, so that -from can't overflow.
	if count < 1 || from <= -allBits || from >= allBits {
		return 0
	}
	if from < 0 {
		n <<= uint(-from)
	} else {
		n >>= uint(from)
	}
	unwanted := allBits - min(count, allBits)
	return n << uint(unwanted) >> uint(unwanted)
}

// Narrow: a number by its lowest bits, the highest of which is the sign.
func Narrow(n int64, bits int) int64 {
	unwanted := uint(allBits - clamp(bits, 1, allBits))
	return n << unwanted >> unwanted
}

// Text: the bytes of a text.
func Text(s string) (string, api.Errno) {
	if len(s) > maxText {
		return "", api.ErrLong
	}
	return Put(textWidth, uint64(len(s))) + s, api.OK
}

// GetText: the text at a place.
func GetText(s string, at int) (string, int, api.Errno) {
	n, start, e := Get(s, at, textWidth)
	if e != api.OK {
		return "", 0, e
	}
	size := int(n)
	if len(s)-start < size {
		return "", 0, api.ErrShort
	}
	end := start + size
	// A copy, as a piece of s would keep the whole of s in memory.
	return strings.Clone(s[start:end]), end, api.OK
}

func clamp(n, least, most int) int { return max(least, min(n, most)) }
