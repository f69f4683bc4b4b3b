package sha_test

import (
	"crypto/sha256"
	"encoding/binary"
	"encoding/hex"
	"math"
	"math/big"
	"math/rand"
	"strings"
	"sync"
	"testing"

	"precinct/sha"
)

// bytesOf: the bytes that a text of sixteens, with spaces between, tells.
func bytesOf(t *testing.T, sixteens string) string {
	t.Helper()
	b, err := hex.DecodeString(strings.ReplaceAll(sixteens, " ", ""))
	if err != nil {
		t.Fatal(err)
	}
	return string(b)
}

// anyBytes: so many bytes by chance (the same at every run).
func anyBytes(r *rand.Rand, size int) string {
	b := make([]byte, size)
	r.Read(b)
	return string(b)
}

func anyState(r *rand.Rand) sha.State {
	var s sha.State
	for i := range s {
		s[i] = r.Uint32()
	}
	return s
}

func blockOf(s string) [64]byte { return [64]byte([]byte(s)) }

// slowBits: a word as its bits, the lowest first.
type slowBits [32]uint32

func bitsOf(x uint32) (b slowBits) {
	for i := range b {
		b[i] = x >> i & 1
	}
	return b
}

func (b slowBits) word() (x uint32) {
	for i := range b {
		x += b[i] << i
	}
	return x
}

// slowSigma: x turned to the right by the first two numbers, and by the third, too, or
// shifted by it, all three xored: bit by bit.
func slowSigma(x uint32, one, two, three int, shifted bool) uint32 {
	from := bitsOf(x)
	var to slowBits
	for i := range to {
		to[i] = from[(i+one)%32] + from[(i+two)%32]
		if !shifted || i+three < 32 {
			to[i] += from[(i+three)%32]
		}
		to[i] %= 2
	}
	return to.word()
}

// slowChoose and slowMajority: by what they mean, not by their formula.
func slowChoose(x, y, z uint32) uint32 {
	xs, ys, zs := bitsOf(x), bitsOf(y), bitsOf(z)
	for i := range xs {
		if xs[i] == 1 {
			xs[i] = ys[i]
		} else {
			xs[i] = zs[i]
		}
	}
	return xs.word()
}

func slowMajority(x, y, z uint32) uint32 {
	xs, ys, zs := bitsOf(x), bitsOf(y), bitsOf(z)
	for i := range xs {
		xs[i] = (xs[i] + ys[i] + zs[i]) / 2
	}
	return xs.word()
}

// slowNumbers: the first 32 bits behind the point of the roots of the first primes: square
// roots (power 2) or cubic ones (power 3).
func slowNumbers(count int, power int64) []uint32 {
	var numbers []uint32
	for p := int64(2); len(numbers) < count; p++ {
		if !big.NewInt(p).ProbablyPrime(0) {
			continue
		}
		// The greatest number whose power is at most p * 2^(32 * power).
		most := new(big.Int).Lsh(big.NewInt(p), uint(32*power))
		root := new(big.Int)
		for bit := 40; bit >= 0; bit-- {
			root.SetBit(root, bit, 1)
			if new(big.Int).Exp(root, big.NewInt(power), nil).Cmp(most) > 0 {
				root.SetBit(root, bit, 0)
			}
		}
		numbers = append(numbers, uint32(root.Uint64()))
	}
	return numbers
}

var cubicRoots = sync.OnceValue(func() []uint32 { return slowNumbers(64, 3) })

// slowBlock: the state behind a block, by the chapter's words.
func slowBlock(s sha.State, block [64]byte) sha.State {
	var w []uint32
	for i := range 16 {
		w = append(w, binary.BigEndian.Uint32(block[4*i:]))
	}
	for t := 16; t < 64; t++ {
		w = append(w, slowSigma(w[t-2], 17, 19, 10, true)+w[t-7]+slowSigma(w[t-15], 7, 18, 3, true)+w[t-16])
	}
	a, b, c, d, e, f, g, h := s[0], s[1], s[2], s[3], s[4], s[5], s[6], s[7]
	for t, k := range cubicRoots() {
		t1 := h + slowSigma(e, 6, 11, 25, false) + slowChoose(e, f, g) + k + w[t]
		t2 := slowSigma(a, 2, 13, 22, false) + slowMajority(a, b, c)
		h, g, f, e, d, c, b, a = g, f, e, d+t1, c, b, a, t1+t2
	}
	return sha.State{s[0] + a, s[1] + b, s[2] + c, s[3] + d, s[4] + e, s[5] + f, s[6] + g, s[7] + h}
}

// slowPad: what Pad must answer, by the chapter's words, with numbers that never wrap round.
func slowPad(n uint64) string {
	s := "\x80"
	size := new(big.Int).SetUint64(n)
	for new(big.Int).Mod(new(big.Int).Add(size, big.NewInt(int64(len(s)+8))), big.NewInt(64)).Sign() != 0 {
		s += "\x00"
	}
	eight := new(big.Int).Mul(size, big.NewInt(8))
	eight.Mod(eight, new(big.Int).Lsh(big.NewInt(1), 64))
	return s + string(eight.FillBytes(make([]byte, 8)))
}

func TestP4_1Begin(t *testing.T) {
	want := sha.State{0x6a09e667, 0xbb67ae85, 0x3c6ef372, 0xa54ff53a, 0x510e527f, 0x9b05688c, 0x1f83d9ab, 0x5be0cd19}
	if got := sha.Begin(); got != want {
		t.Errorf("Begin() = %x, want %x", got, want)
	}
	// FIPS 180-4, 5.3.3: they are of the square roots of the first primes.
	if roots := sha.State(slowNumbers(8, 2)); roots != want {
		t.Errorf("the square roots are %x, want %x", roots, want)
	}
}

func TestP4_1PadExamples(t *testing.T) {
	noughts := func(n int) string { return strings.Repeat("\x00", n) }
	for n, want := range map[uint64]string{
		0:   "\x80" + noughts(63),
		1:   "\x80" + noughts(54) + noughts(7) + "\x08",
		3:   "\x80" + noughts(52) + noughts(7) + "\x18",
		54:  "\x80" + noughts(1) + noughts(6) + "\x01\xb0",
		55:  "\x80" + noughts(6) + "\x01\xb8",               // just one block: no nought between
		56:  "\x80" + noughts(63) + noughts(6) + "\x01\xc0", // one too many for that
		63:  "\x80" + noughts(56) + noughts(6) + "\x01\xf8",
		64:  "\x80" + noughts(55) + noughts(6) + "\x02\x00",
		119: "\x80" + noughts(6) + "\x03\xb8",
		120: "\x80" + noughts(63) + noughts(6) + "\x03\xc0",
		// 8n has more than 64 bits from here on.
		1<<61 - 1:      "\x80" + noughts(56) + "\xff\xff\xff\xff\xff\xff\xff\xf8",
		1 << 61:        "\x80" + noughts(55) + noughts(8),
		1<<61 + 1:      "\x80" + noughts(54) + noughts(7) + "\x08",
		math.MaxUint64: "\x80" + noughts(56) + "\xff\xff\xff\xff\xff\xff\xff\xf8",
		// 2^64 - 9 bytes: all of them and nine more are 2^64, which is a multiple of 64.
		math.MaxUint64 - 8: "\x80" + "\xff\xff\xff\xff\xff\xff\xff\xb8",
		math.MaxUint64 - 7: "\x80" + noughts(63) + "\xff\xff\xff\xff\xff\xff\xff\xc0",
		0x0102030405060708: "\x80" + noughts(47) + "\x08\x10\x18\x20\x28\x30\x38\x40",
	} {
		if got := sha.Pad(n); got != want {
			t.Errorf("Pad(%d) = %x, want %x", n, got, want)
		}
	}
}

func TestP4_1PadOfAnyNumber(t *testing.T) {
	var ns []uint64
	for i := range uint64(700) {
		ns = append(ns, i, -i, 1<<61+i, 1<<61-i, 1<<63-i, 1<<32+i, 1<<32-i)
	}
	for i := range 64 {
		ns = append(ns, 1<<i, 1<<i-1, 1<<i+1)
	}
	for _, n := range ns {
		if got := sha.Pad(n); got != slowPad(n) {
			t.Fatalf("Pad(%d) = %x, want %x", n, got, slowPad(n))
		}
	}
}

// The states that the standard's own worked examples have behind their blocks.
func TestP4_2BlockExamples(t *testing.T) {
	one := "abc" + sha.Pad(3)
	two := "abcdbcdecdefdefgefghfghighijhijkijkljklmklmnlmnomnopnopq" + sha.Pad(56)
	if len(one) != 64 || len(two) != 128 {
		t.Fatalf("%d and %d bytes", len(one), len(two))
	}
	for i, x := range []struct {
		from sha.State
		b    string
		want sha.State
	}{
		{sha.Begin(), one, sha.State{0xba7816bf, 0x8f01cfea, 0x414140de, 0x5dae2223, 0xb00361a3, 0x96177a9c, 0xb410ff61, 0xf20015ad}},
		{sha.Begin(), two[:64], sha.State{0x85e655d6, 0x417a1795, 0x3363376a, 0x624cde5c, 0x76e09589, 0xcac5f811, 0xcc4b32c1, 0xf20e533a}},
		{sha.State{0x85e655d6, 0x417a1795, 0x3363376a, 0x624cde5c, 0x76e09589, 0xcac5f811, 0xcc4b32c1, 0xf20e533a}, two[64:],
			sha.State{0x248d6a61, 0xd20638b8, 0xe5c02693, 0x0c3e6039, 0xa33ce459, 0x64ff2167, 0xf6ecedd4, 0x19db06c1}},
	} {
		if got := x.from.Block(blockOf(x.b)); got != x.want {
			t.Errorf("%d: %x, want %x", i, got, x.want)
		}
	}
}

func TestP4_2BlockOfAnyState(t *testing.T) {
	r := rand.New(rand.NewSource(1))
	most := sha.State{}
	for i := range most {
		most[i] = math.MaxUint32
	}
	states := []sha.State{{}, most, sha.Begin()}
	blocks := []string{strings.Repeat("\x00", 64), strings.Repeat("\xff", 64)}
	for i := range 256 {
		var s sha.State
		s[i/32] = 1 << (i % 32)
		states = append(states, s)
	}
	for bit := range 512 {
		b := make([]byte, 64)
		b[bit/8] = 1 << (bit % 8)
		blocks = append(blocks, string(b))
	}
	for range 300 {
		states = append(states, anyState(r))
		blocks = append(blocks, anyBytes(r, 64))
	}
	for i := range max(len(states), len(blocks)) {
		s, b := states[i%len(states)], blockOf(blocks[i%len(blocks)])
		if got, want := s.Block(b), slowBlock(s, b); got != want {
			t.Fatalf("%x.Block(%x) = %x, want %x", s, b, got, want)
		}
	}
}

func TestP4_3Text(t *testing.T) {
	for i, x := range []struct {
		s    sha.State
		want string
	}{
		{sha.State{}, strings.Repeat("\x00", 32)},
		{sha.Begin(), bytesOf(t, "6a09e667 bb67ae85 3c6ef372 a54ff53a 510e527f 9b05688c 1f83d9ab 5be0cd19")},
		{sha.State{1, 0x100, 0x10000, 0x1000000, math.MaxUint32, 0x80000000, 0x01020304, 0},
			bytesOf(t, "00000001 00000100 00010000 01000000 ffffffff 80000000 01020304 00000000")},
	} {
		if got := x.s.Text(); got != x.want {
			t.Errorf("%d: %x, want %x", i, got, x.want)
		}
	}
	r := rand.New(rand.NewSource(2))
	for range 100 {
		s := anyState(r)
		var want []byte
		for _, word := range s {
			want = binary.BigEndian.AppendUint32(want, word)
		}
		if got := s.Text(); got != string(want) {
			t.Fatalf("%x.Text() = %x", s, got)
		}
	}
}

func TestP4_3SumExamples(t *testing.T) {
	for s, want := range map[string]string{
		"":    "e3b0c442 98fc1c14 9afbf4c8 996fb924 27ae41e4 649b934c a495991b 7852b855",
		"abc": "ba7816bf 8f01cfea 414140de 5dae2223 b00361a3 96177a9c b410ff61 f20015ad",
		"abcdbcdecdefdefgefghfghighijhijkijkljklmklmnlmnomnopnopq":                                                         "248d6a61 d20638b8 e5c02693 0c3e6039 a33ce459 64ff2167 f6ecedd4 19db06c1",
		"abcdefghbcdefghicdefghijdefghijkefghijklfghijklmghijklmnhijklmnoijklmnopjklmnopqklmnopqrlmnopqrsmnopqrstnopqrstu": "cf5b16a7 78af8380 036ce59e 7b049237 0b249b11 e8f07a51 afac4503 7afee9d1",
		"The quick brown fox jumps over the lazy dog":                                                                      "d7a8fbb3 07d78094 69ca9abc b0082e4f 8d5651e4 6d3cdb76 2d02d0bf 37c9e592",
		strings.Repeat("a", 1000000):                                                                                       "cdc76e5c 9914fb92 81a1c7e2 84d73e67 f1809a48 a497200e 046d39cc c7112cd0",
	} {
		if got := sha.Sum(s); got != bytesOf(t, want) {
			t.Errorf("Sum(%.40q) = %x, want %s", s, got, want)
		}
	}
}

func TestP4_3SumOfAnyText(t *testing.T) {
	r := rand.New(rand.NewSource(3))
	texts := []string{anyBytes(r, 4096), anyBytes(r, 65535), anyBytes(r, 1<<20)}
	for i := range 256 {
		texts = append(texts, string([]byte{byte(i)}))
	}
	// Every place of the end within a block, over several blocks.
	for size := range 400 {
		texts = append(texts, anyBytes(r, size), strings.Repeat("\x00", size), strings.Repeat("\xff", size))
	}
	for _, s := range texts {
		want := sha256.Sum256([]byte(s))
		if got := sha.Sum(s); got != string(want[:]) {
			t.Fatalf("Sum(%.40x), of %d bytes = %x, want %x", s, len(s), got, want)
		}
	}
}

// Sum is what the other calls make when they are put together by hand.
func TestP4_3SumIsOfItsParts(t *testing.T) {
	r := rand.New(rand.NewSource(4))
	for size := range 300 {
		s := anyBytes(r, size)
		whole := s + sha.Pad(uint64(size))
		state := sha.Begin()
		for at := 0; at < len(whole); at += 64 {
			state = state.Block(blockOf(whole[at : at+64]))
		}
		if got := sha.Sum(s); got != state.Text() {
			t.Fatalf("Sum(%x) = %x, its parts make %x", s, got, state.Text())
		}
	}
}

// Every call ends without a panic, whatever it is given.
func TestP1AnyArguments(t *testing.T) {
	r := rand.New(rand.NewSource(5))
	for range 2000 {
		n := r.Uint64() >> r.Intn(64)
		if pad := sha.Pad(n); len(pad) < 9 || len(pad) > 72 || (n%64+uint64(len(pad)))%64 != 0 {
			t.Fatalf("Pad(%d) has %d bytes", n, len(pad))
		}
		if text := anyState(r).Block(blockOf(anyBytes(r, 64))).Text(); len(text) != 32 {
			t.Fatalf("a text of %d bytes", len(text))
		}
		if sum := sha.Sum(anyBytes(r, r.Intn(200))); len(sum) != 32 {
			t.Fatalf("a digest of %d bytes", len(sum))
		}
	}
}

// States that were made apart don't feel one another, and a call changes neither
// the state it is called of nor the block it is handed (DOC.md, rule 4).
func TestP2StatesApart(t *testing.T) {
	r := rand.New(rand.NewSource(6))
	one, two, block := sha.Begin(), sha.Begin(), blockOf(anyBytes(r, 64))
	same := block
	first := one.Block(block)
	if one != two || block != same {
		t.Fatalf("Block changed what it was given: %x, %x", one, block)
	}
	one[0] = 1
	one.Block(blockOf(anyBytes(r, 64)))
	sha.Sum("other")
	if two != sha.Begin() || two.Block(block) != first {
		t.Errorf("a state that was left alone is %x", two)
	}
}
