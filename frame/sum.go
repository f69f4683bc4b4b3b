package frame

const (
	polynomial = 0x82f63b78 // turned around, as each byte's lowest bit comes first
	allSet     = 1<<32 - 1  // what a check sum begins with
	byteBits   = 8
)

// Sum: the check sum of a text.
func Sum(s string) uint32 { return ^addText(allSet, s) }

// frameSum: the check sum of a frame's length and body, which don't stand side by side in it.
func frameSum(size, body string) uint32 { return ^addText(addText(allSet, size), body) }

func addText(sum uint32, s string) uint32 {
	for i := range len(s) {
		sum = addByte(sum, s[i])
	}
	return sum
}

func addByte(sum uint32, b byte) uint32 {
	for i := range byteBits {
		out := (sum ^ uint32(b>>i)) & 1
		sum >>= 1
		if out == 1 {
			sum ^= polynomial
		}
	}
	return sum
}
