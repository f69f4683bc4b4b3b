package mac_test

import (
	"crypto/hmac"
	"crypto/sha256"
	"encoding/hex"
	"math"
	"math/big"
	"math/rand"
	"strings"
	"testing"

	"precinct/mac"
)

// bytesOf: the bytes that a text of sixteens, with spaces between, tells.
func bytesOf(t *testing.T, sixteens string) string {
	t.Helper()
	b, err := hex.DecodeString(strings.ReplaceAll(sixteens, " ", ""))
	if err != nil {
		t.Fatal(err)
	}
	return string(b)
}

// anyBytes: so many bytes by chance (the same at every run).
func anyBytes(r *rand.Rand, size int) string {
	b := make([]byte, size)
	r.Read(b)
	return string(b)
}

func noughts(n int) string { return strings.Repeat("\x00", n) }

func digest(s string) string {
	d := sha256.Sum256([]byte(s))
	return string(d[:])
}

// libraryTag: the tag as the library has it.
func libraryTag(key, text string) string {
	h := hmac.New(sha256.New, []byte(key))
	h.Write([]byte(text))
	return string(h.Sum(nil))
}

// slowLaid: what Inner (of 36 in sixteens) and Outer (of 5c) must answer, by the chapter's words.
func slowLaid(key string, mask byte) string {
	if len(key) > 64 {
		key = digest(key)
	}
	var out strings.Builder
	for _, b := range []byte(key + noughts(64-len(key))) {
		out.WriteByte(b&^mask | mask&^b)
	}
	return out.String()
}

// slowPacked: layer 2's bytes of the list of a text and a number, by its chapter's words.
func slowPacked(s string, n int64) string {
	folded := new(big.Int).Mul(big.NewInt(n), big.NewInt(2))
	if n < 0 {
		folded.Neg(folded).Sub(folded, big.NewInt(1))
	}
	number := folded.Bytes() // without noughts ahead, none of 0
	return "\x03\x00\x02" + "\x02" + string([]byte{byte(len(s) >> 8), byte(len(s))}) + s +
		"\x01" + string([]byte{byte(len(number))}) + string(number)
}

// edgeKeys: of every length around that of a block, and some far from it.
func edgeKeys(r *rand.Rand) []string {
	keys := []string{noughts(64), noughts(65), anyBytes(r, 4096), anyBytes(r, 70000)}
	for i := range 256 {
		keys = append(keys, string([]byte{byte(i)}))
	}
	for size := range 200 {
		keys = append(keys, anyBytes(r, size))
	}
	return keys
}

func TestP5_1Examples(t *testing.T) {
	six, five := func(n int) string { return strings.Repeat("\x36", n) }, func(n int) string { return strings.Repeat("\x5c", n) }
	for _, x := range []struct{ key, inner, outer string }{
		{"", six(64), five(64)},
		{"\x00", six(64), five(64)},
		{noughts(64), six(64), five(64)},
		{"\x01", "\x37" + six(63), "\x5d" + five(63)},
		{"\x36\x5c\xff", "\x00\x6a\xc9" + six(61), "\x6a\x00\xa3" + five(61)},
		{noughts(63) + "\x01", six(63) + "\x37", five(63) + "\x5d"},
		{strings.Repeat("\x36", 64), noughts(64), strings.Repeat("\x6a", 64)},
		{strings.Repeat("\x5c", 64), strings.Repeat("\x6a", 64), noughts(64)},
	} {
		if got := mac.Inner(x.key); got != x.inner {
			t.Errorf("Inner(%x) = %x, want %x", x.key, got, x.inner)
		}
		if got := mac.Outer(x.key); got != x.outer {
			t.Errorf("Outer(%x) = %x, want %x", x.key, got, x.outer)
		}
	}
}

func TestP5_1OfAnyKey(t *testing.T) {
	for _, key := range edgeKeys(rand.New(rand.NewSource(1))) {
		if got, want := mac.Inner(key), slowLaid(key, 0x36); got != want {
			t.Fatalf("Inner(%.40x), of %d bytes = %x, want %x", key, len(key), got, want)
		}
		if got, want := mac.Outer(key), slowLaid(key, 0x5c); got != want {
			t.Fatalf("Outer(%.40x), of %d bytes = %x, want %x", key, len(key), got, want)
		}
	}
}

// A key of 64 bytes stands for itself, one of 65 for its digest.
func TestP5_1LongKeys(t *testing.T) {
	long := strings.Repeat("k", 65)
	if mac.Inner(long) != mac.Inner(digest(long)) || mac.Outer(long) != mac.Outer(digest(long)) {
		t.Error("a key of 65 bytes isn't its digest")
	}
	whole := long[:64]
	if mac.Inner(whole) == mac.Inner(digest(whole)) || mac.Outer(whole) == mac.Outer(digest(whole)) {
		t.Error("a key of 64 bytes is its digest")
	}
}

func TestP5_2Example(t *testing.T) {
	got := mac.Tag("key", "The quick brown fox jumps over the lazy dog")
	if want := bytesOf(t, "f7bc83f4 30538424 b13298e6 aa6fb143 ef4d59a1 49461759 97479dbc 2d1a3cd8"); got != want {
		t.Errorf("%x, want %x", got, want)
	}
}

// The cases that RFC 4231 has for HMAC with SHA-256 (its fifth is cut off, so it is held by its beginning).
func TestP5_2StandardCases(t *testing.T) {
	var counted strings.Builder
	for i := range 25 {
		counted.WriteByte(byte(i + 1))
	}
	long := strings.Repeat("\xaa", 131)
	for i, x := range []struct{ key, text, want string }{
		{strings.Repeat("\x0b", 20), "Hi There",
			"b0344c61 d8db3853 5ca8afce af0bf12b 881dc200 c9833da7 26e9376c 2e32cff7"},
		{"Jefe", "what do ya want for nothing?",
			"5bdcc146 bf60754e 6a042426 089575c7 5a003f08 9d273983 9dec58b9 64ec3843"},
		{strings.Repeat("\xaa", 20), strings.Repeat("\xdd", 50),
			"773ea91e 36800e46 854db8eb d09181a7 2959098b 3ef8c122 d9635514 ced565fe"},
		{counted.String(), strings.Repeat("\xcd", 50),
			"82558a38 9a443c0e a4cc8198 99f2083a 85f0faa3 e578f807 7a2e3ff4 6729665b"},
		{strings.Repeat("\x0c", 20), "Test With Truncation",
			"a3b6167473100ee06e0c796c2955552b"},
		{long, "Test Using Larger Than Block-Size Key - Hash Key First",
			"60e43159 1ee0b67f 0d8a26aa cbf5b77f 8e0bc621 3728c514 0546040f 0ee37f54"},
		{long, "This is a test using a larger than block-size key and a larger than block-size data. The key needs to be hashed before being used by the HMAC algorithm.",
			"9b09ffa7 1b942fcb 27635fbc d5b0e944 bfdc6364 4f071393 8a7f5153 5c3a35e2"},
		{"", "",
			"b613679a 0814d9ec 772f95d7 78c35fc5 ff1697c4 93715653 c6c71214 4292c5ad"},
	} {
		got := mac.Tag(x.key, x.text)
		if len(got) != 32 || !strings.HasPrefix(got, bytesOf(t, x.want)) {
			t.Errorf("%d: %x, want %s", i, got, x.want)
		}
	}
}

func TestP5_2OfAnyKeyAndText(t *testing.T) {
	r := rand.New(rand.NewSource(2))
	for i, key := range edgeKeys(r) {
		for _, text := range []string{anyBytes(r, i), noughts(i), anyBytes(r, r.Intn(300))} {
			if got, want := mac.Tag(key, text), libraryTag(key, text); got != want {
				t.Fatalf("Tag of a key of %d and a text of %d bytes = %x, want %x", len(key), len(text), got, want)
			}
		}
	}
	text := anyBytes(r, 1<<20)
	if got, want := mac.Tag("k", text), libraryTag("k", text); got != want {
		t.Errorf("Tag of a text of 2^20 bytes = %x, want %x", got, want)
	}
}

// A tag is what the other calls make when they are put together by hand.
func TestP5_2TagIsOfItsParts(t *testing.T) {
	for _, key := range edgeKeys(rand.New(rand.NewSource(3))) {
		want := digest(mac.Outer(key) + digest(mac.Inner(key)+"text"))
		if got := mac.Tag(key, "text"); got != want {
			t.Fatalf("Tag of a key of %d bytes = %x, its parts make %x", len(key), got, want)
		}
	}
}

func TestSizeIsATags(t *testing.T) {
	if mac.Size != 32 || len(mac.Tag("k", "t")) != mac.Size || len(mac.Derive("k", "p", 1)) != mac.Size {
		t.Errorf("Size is %d", mac.Size)
	}
}

func TestP5_3Examples(t *testing.T) {
	for _, x := range []struct {
		a, b string
		want bool
	}{
		{"", "", true}, {"a", "a", true}, {"\x00", "\x00", true}, {"abc", "abc", true}, {"\x00\xff", "\x00\xff", true},
		{"a", "", false}, {"a", "b", false}, {"abc", "abd", false}, {"abc", "bbc", false}, {"ab", "ba", false}, {"a", "A", false},
		// One that begins as the other one, and noughts, which are bytes like others.
		{"abc", "ab", false}, {"\x00", "", false}, {"a", "a\x00", false}, {"a\x00", "a\x00\x00", false}, {noughts(256), "", false}, {noughts(300), noughts(44), false},
		// Differences that would be lost, if they were summed up or xored.
		{"\x01\x02", "\x02\x01", false}, {"\x01\x01", "\x00\x00", false}, {"\x80\x80", "\x00\x00", false}, {"\xff\x01", "\x00\x00", false},
		{strings.Repeat("\x01", 256), noughts(256), false}, {strings.Repeat("\x01", 2), "", false}, {"ab\x01", "ab", false},
	} {
		if got := mac.Same(x.a, x.b); got != x.want {
			t.Errorf("Same(%.40x, %.40x) = %v", x.a, x.b, got)
		}
		if got := mac.Same(x.b, x.a); got != x.want {
			t.Errorf("Same(%.40x, %.40x) = %v", x.b, x.a, got)
		}
	}
}

// Every place, and every bit of it, at which two texts can differ.
func TestP5_3EveryDifference(t *testing.T) {
	r := rand.New(rand.NewSource(4))
	for size := range 70 {
		a := anyBytes(r, size)
		if !mac.Same(a, string([]byte(a))) {
			t.Fatalf("%x isn't the same as itself", a)
		}
		for bit := range 8 * size {
			b := []byte(a)
			b[bit/8] ^= 1 << (bit % 8)
			if mac.Same(a, string(b)) {
				t.Fatalf("%x and %x are the same", a, b)
			}
		}
		for shorter := range size {
			if mac.Same(a, a[:shorter]) || mac.Same(a[:shorter], a) {
				t.Fatalf("%x and its first %d bytes are the same", a, shorter)
			}
		}
	}
}

// Lengths that differ in their higher bits alone.
func TestP5_3LongTexts(t *testing.T) {
	for _, size := range []int{1 << 8, 1 << 16, 1 << 20} {
		a := noughts(size)
		if !mac.Same(a, noughts(size)) || mac.Same(a, "") || mac.Same("", a) || mac.Same(a, a[1:]) || mac.Same(a, a+a) {
			t.Errorf("Same of noughts fails at %d bytes", size)
		}
	}
}

func TestP5_4Examples(t *testing.T) {
	for _, x := range []struct {
		purpose string
		number  int64
		text    string
	}{
		{"", 0, "\x03\x00\x02\x02\x00\x00\x01\x00"},
		{"a", -1, "\x03\x00\x02\x02\x00\x01a\x01\x01\x01"},
		{"a", 1, "\x03\x00\x02\x02\x00\x01a\x01\x01\x02"},
		{"token", 128, "\x03\x00\x02\x02\x00\x05token\x01\x02\x01\x00"},
		{"\x00\xff", math.MaxInt64, "\x03\x00\x02\x02\x00\x02\x00\xff\x01\x08\xff\xff\xff\xff\xff\xff\xff\xfe"},
		{"\x00\xff", math.MinInt64, "\x03\x00\x02\x02\x00\x02\x00\xff\x01\x08\xff\xff\xff\xff\xff\xff\xff\xff"},
	} {
		if got, want := mac.Derive("key", x.purpose, x.number), libraryTag("key", x.text); got != want {
			t.Errorf("Derive(key, %x, %d) = %x, want %x", x.purpose, x.number, got, want)
		}
	}
}

func TestP5_4OfAnyArguments(t *testing.T) {
	r := rand.New(rand.NewSource(5))
	for i, key := range edgeKeys(r) {
		purpose, number := anyBytes(r, r.Intn(300)), int64(r.Uint64())>>(i%64)
		if got, want := mac.Derive(key, purpose, number), libraryTag(key, slowPacked(purpose, number)); got != want {
			t.Fatalf("Derive of a key of %d bytes, %x, %d = %x, want %x", len(key), purpose, number, got, want)
		}
	}
}

// A purpose has bytes up to 4096 of them, whatever the key and the number are.
func TestP5_4LongPurposes(t *testing.T) {
	for _, key := range []string{"", "key", strings.Repeat("k", 65)} {
		for _, number := range []int64{0, 1, -1, math.MinInt64, math.MaxInt64} {
			for _, size := range []int{255, 256, 4095, 4096} {
				purpose := strings.Repeat("p", size)
				if got, want := mac.Derive(key, purpose, number), libraryTag(key, slowPacked(purpose, number)); got != want {
					t.Errorf("Derive of a purpose of %d bytes = %x, want %x", size, got, want)
				}
			}
			for _, size := range []int{4097, 5000, 65535, 65536, 65536 + 4096, 1 << 20} {
				if got := mac.Derive(key, strings.Repeat("p", size), number); got != "" {
					t.Errorf("Derive of a purpose of %d bytes = %x", size, got)
				}
			}
		}
	}
}

// Keys for other purposes, numbers, or out of other keys are others.
func TestP5_4DerivedKeysDiffer(t *testing.T) {
	seen := map[string]bool{}
	count := 0
	for _, key := range []string{"", "k", "l", strings.Repeat("k", 64), strings.Repeat("k", 65)} {
		for _, purpose := range []string{"", "a", "b", "ab", "a\x01", "a\x01\x01\x02"} {
			for _, number := range []int64{0, 1, -1, 2, 256, math.MinInt64, math.MaxInt64} {
				seen[mac.Derive(key, purpose, number)] = true
				count++
			}
		}
	}
	if len(seen) != count {
		t.Errorf("%d keys of %d are others", len(seen), count)
	}
}

// Every call ends without a panic, whatever it is given.
func TestP1AnyArguments(t *testing.T) {
	r := rand.New(rand.NewSource(6))
	for range 2000 {
		a, b := anyBytes(r, r.Intn(200)), anyBytes(r, r.Intn(200))
		if tag := mac.Tag(a, b); len(tag) != 32 {
			t.Fatalf("a tag of %d bytes", len(tag))
		}
		if inner, outer := mac.Inner(a), mac.Outer(a); len(inner) != 64 || len(outer) != 64 {
			t.Fatalf("%d and %d bytes", len(inner), len(outer))
		}
		if got := mac.Same(a, b); got != (a == b) {
			t.Fatalf("Same(%x, %x) = %v", a, b, got)
		}
		if key := mac.Derive(a, b, int64(r.Uint64())>>r.Intn(64)); len(key) != 32 {
			t.Fatalf("a key of %d bytes", len(key))
		}
	}
}

// There are no objects in this layer: what is left to hold is that no call feels another one.
func TestP2NothingIsKept(t *testing.T) {
	all := func() string {
		return mac.Inner("k") + mac.Outer("k") + mac.Tag("k", "t") + mac.Derive("k", "p", 7)
	}
	first := all()
	long := strings.Repeat("x", 5000)
	mac.Inner(long)
	mac.Outer(long)
	mac.Tag(long, long)
	mac.Same(long, "k")
	mac.Derive(long, long, math.MinInt64)
	if all() != first || !mac.Same("k", "k") || mac.Same("k", "t") {
		t.Error("calls answer otherwise behind other calls")
	}
}
