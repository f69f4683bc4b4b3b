package sha

import "precinct/words"

const (
	rounds     = 64
	blockWords = blockSize / wordWidth
)

// The first 32 bits behind the point of the cubic roots of the first primes.
var roundNumbers = [rounds]uint32{
	0x428a2f98, 0x71374491, 0xb5c0fbcf, 0xe9b5dba5, 0x3956c25b, 0x59f111f1, 0x923f82a4, 0xab1c5ed5,
	0xd807aa98, 0x12835b01, 0x243185be, 0x550c7dc3, 0x72be5d74, 0x80deb1fe, 0x9bdc06a7, 0xc19bf174,
	0xe49b69c1, 0xefbe4786, 0x0fc19dc6, 0x240ca1cc, 0x2de92c6f, 0x4a7484aa, 0x5cb0a9dc, 0x76f988da,
	0x983e5152, 0xa831c66d, 0xb00327c8, 0xbf597fc7, 0xc6e00bf3, 0xd5a79147, 0x06ca6351, 0x14292967,
	0x27b70a85, 0x2e1b2138, 0x4d2c6dfc, 0x53380d13, 0x650a7354, 0x766a0abb, 0x81c2c92e, 0x92722c85,
	0xa2bfe8a1, 0xa81a664b, 0xc24b8b70, 0xc76c51a3, 0xd192e819, 0xd6990624, 0xf40e3585, 0x106aa070,
	0x19a4c116, 0x1e376c08, 0x2748774c, 0x34b0bcb5, 0x391c0cb3, 0x4ed8aa4a, 0x5b9cca4f, 0x682e6ff3,
	0x748f82ee, 0x78a5636f, 0x84c87814, 0x8cc70208, 0x90befffa, 0xa4506ceb, 0xbef9a3f7, 0xc67178f2,
}

// Block: the state behind a block.
func (s State) Block(b [64]byte) State {
	scheduled := schedule(b)
	behind := s
	for t := range rounds {
		behind = behind.round(roundNumbers[t], scheduled[t])
	}
	for i, word := range s {
		behind[i] += word
	}
	return behind
}

// schedule: a block's words, and those that are made of them, one for each round.
func schedule(b [blockSize]byte) [rounds]uint32 {
	var w [rounds]uint32
	text := string(b[:])
	for t := range rounds {
		if t < blockWords {
			// A block has all of its words, so there is no error to look at.
			word, _, _ := words.Get(text, t*wordWidth, wordWidth)
			w[t] = uint32(word)
			continue
		}
		w[t] = smallSigma1(w[t-2]) + w[t-7] + smallSigma0(w[t-15]) + w[t-16]
	}
	return w
}

// round: the state behind one round, of that round's number and word.
func (s State) round(number, word uint32) State {
	a, b, c, d, e, f, g, h := s[0], s[1], s[2], s[3], s[4], s[5], s[6], s[7]
	t1 := h + bigSigma1(e) + choose(e, f, g) + number + word
	t2 := bigSigma0(a) + majority(a, b, c)
	return State{t1 + t2, a, b, c, d + t1, e, f, g}
}

func smallSigma0(x uint32) uint32 { return turnRight(x, 7) ^ turnRight(x, 18) ^ x>>3 }

func smallSigma1(x uint32) uint32 { return turnRight(x, 17) ^ turnRight(x, 19) ^ x>>10 }

func bigSigma0(x uint32) uint32 { return turnRight(x, 2) ^ turnRight(x, 13) ^ turnRight(x, 22) }

func bigSigma1(x uint32) uint32 { return turnRight(x, 6) ^ turnRight(x, 11) ^ turnRight(x, 25) }

func choose(x, y, z uint32) uint32 { return x&y ^ ^x&z }

func majority(x, y, z uint32) uint32 { return x&y ^ x&z ^ y&z }

func turnRight(x uint32, by int) uint32 { return words.Rotate(x, -by) }
