package token_test

import (
	"crypto/hmac"
	"crypto/sha256"
	"encoding/hex"
	"math"
	"math/big"
	"math/rand"
	"strings"
	"testing"
	"unsafe"

	"precinct/api"
	"precinct/pack"
	"precinct/token"
)

const tagSize = 32

// edgeNumbers: those at which the count of bytes, the sign, or what a token may say changes.
func edgeNumbers() []int64 {
	ns := []int64{math.MinInt64, math.MinInt64 + 1, math.MaxInt64 - 1, math.MaxInt64, api.MaxNum - 1, api.MaxNum, api.MaxNum + 1}
	for _, p := range []int64{0, 1, 2, 127, 128, 255, 256, 1 << 15, 1 << 16, 1<<31 - 1, 1 << 31, 1<<31 + 1, 1<<32 - 1, 1 << 32, 1 << 32, 1<<32 + 1, 1 << 47} {
		ns = append(ns, p, -p)
	}
	return ns
}

// anyBytes: so many bytes by chance (the same at every run).
func anyBytes(r *rand.Rand, size int) string {
	b := make([]byte, size)
	r.Read(b)
	return string(b)
}

// libraryTag: the tag as the library has it.
func libraryTag(key, text string) string {
	h := hmac.New(sha256.New, []byte(key))
	h.Write([]byte(text))
	return string(h.Sum(nil))
}

// slowNumber: a number's bytes by layer 2's words, worked out in big numbers.
func slowNumber(n int64) string {
	folded := new(big.Int).Mul(big.NewInt(n), big.NewInt(2))
	if n < 0 {
		folded.Neg(folded).Sub(folded, big.NewInt(1))
	}
	b := folded.Bytes() // without noughts ahead, none of 0
	return string([]byte{1, byte(len(b))}) + string(b)
}

// slowNumbers: the bytes of the list of these numbers.
func slowNumbers(ns ...int64) string {
	out := string([]byte{3, byte(len(ns) >> 8), byte(len(ns))})
	for _, n := range ns {
		out += slowNumber(n)
	}
	return out
}

func slowClaims(c token.Claims) string {
	return slowNumbers(int64(c.Tenant), int64(c.Person), c.Epoch, c.Until)
}

// slowMint: a token by the chapter's words.
func slowMint(key string, c token.Claims) string {
	return slowClaims(c) + libraryTag(key, slowClaims(c))
}

// slowParse: what Parse must answer, by the chapter's words.
func slowParse(s string) (token.Claims, string, api.Errno) {
	if len(s) < tagSize {
		return token.Claims{}, "", api.ErrShort
	}
	v, e := pack.Get(s[:len(s)-tagSize])
	if e != api.OK {
		return token.Claims{}, "", e
	}
	var ns []int64
	for _, n := range v.L {
		if n.Kind == pack.Int {
			ns = append(ns, n.N)
		}
	}
	if v.Kind != pack.List || len(v.L) != 4 || len(ns) != 4 {
		return token.Claims{}, "", api.ErrForm
	}
	for _, n := range ns[:2] {
		if n < 0 || n > 1<<31-1 {
			return token.Claims{}, "", api.ErrForm
		}
	}
	return token.Claims{Tenant: int(ns[0]), Person: int(ns[1]), Epoch: ns[2], Until: ns[3]}, s[len(s)-tagSize:], api.OK
}

// slowVerify: what Verify must answer, by the chapter's words.
func slowVerify(key, s string, now, epoch int64) (token.Claims, api.Errno) {
	c, tag, e := slowParse(s)
	if e != api.OK {
		return token.Claims{}, e
	}
	if tag != libraryTag(key, s[:len(s)-tagSize]) {
		return token.Claims{}, api.ErrTag
	}
	if big.NewInt(now).Cmp(big.NewInt(c.Until)) > 0 {
		return token.Claims{}, api.ErrLate
	}
	if c.Epoch != epoch {
		return token.Claims{}, api.ErrEpoch
	}
	return c, api.OK
}

func checkParse(t *testing.T, what, s string) {
	t.Helper()
	c, tag, e := token.Parse(s)
	wantC, wantTag, wantE := slowParse(s)
	if c != wantC || tag != wantTag || e != wantE {
		t.Errorf("%s: Parse(%x): %v, %x, %d, not %v, %x, %d", what, s, c, tag, e, wantC, wantTag, wantE)
	}
}

func checkVerify(t *testing.T, what, key, s string, now, epoch int64) {
	t.Helper()
	c, e := token.Verify(key, s, now, epoch)
	wantC, wantE := slowVerify(key, s, now, epoch)
	if c != wantC || e != wantE {
		t.Errorf("%s: Verify(%x, %x, %d, %d): %v, %d, not %v, %d", what, key, s, now, epoch, c, e, wantC, wantE)
	}
}

// wantError: Parse, and Verify by any key, must answer the error and nothing beside it.
func wantError(t *testing.T, what, s string, want api.Errno) {
	t.Helper()
	if c, tag, e := token.Parse(s); e != want || c != (token.Claims{}) || tag != "" {
		t.Errorf("%s: Parse: %v, %x, %d, not %d", what, c, tag, e, want)
	}
	if c, e := token.Verify("key", s, math.MaxInt64, 7); e != want || c != (token.Claims{}) {
		t.Errorf("%s: Verify: %v, %d, not %d", what, c, e, want)
	}
}

// tagged: bytes with their own tag by the key "key" behind them, so that nothing but the bytes can be wrong.
func tagged(b string) string { return b + libraryTag("key", b) }

func turned(s string, bit int) string {
	b := []byte(s)
	b[bit/8] ^= 1 << (bit % 8)
	return string(b)
}

func TestP9_1Key(t *testing.T) {
	for _, master := range []string{"", "master", "\x00", strings.Repeat("k", 64), strings.Repeat("k", 65), strings.Repeat("m", 5000)} {
		for _, n := range edgeNumbers() {
			purpose := "\x03\x00\x02" + "\x02\x00\x06tenant" + slowNumber(n)
			if got := token.Key(master, int(n)); got != libraryTag(master, purpose) {
				t.Errorf("Key(%.10q, %d): %x", master, n, got)
			}
		}
	}
}

func TestP9_1KeysOfTenantsDiffer(t *testing.T) {
	seen := map[string]int{}
	for tenant := range 100 {
		key := token.Key("master", tenant)
		if other, ok := seen[key]; ok {
			t.Errorf("tenants %d and %d have one key", tenant, other)
		}
		seen[key] = tenant
		if key == token.Key("other", tenant) {
			t.Errorf("tenant %d has one key by two masters", tenant)
		}
	}
}

func TestP9_1MintExample(t *testing.T) {
	got := token.Mint("key", token.Claims{})
	if len(got) != 43 || got[:11] != "\x03\x00\x04\x01\x00\x01\x00\x01\x00\x01\x00" {
		t.Errorf("the token of {0, 0, 0, 0}: %x", got)
	}
}

func TestP9_1MintOneByBytes(t *testing.T) {
	want, _ := hex.DecodeString("030004" + "010106" + "010102" + "010101" + "01020200")
	got := token.Mint("key", token.Claims{Tenant: 3, Person: 1, Epoch: -1, Until: 256})
	if got != string(want)+libraryTag("key", string(want)) {
		t.Errorf("%x", got)
	}
}

func TestP9_1MintOfAnyClaims(t *testing.T) {
	ns := edgeNumbers()
	for _, n := range ns {
		for _, c := range []token.Claims{{Tenant: int(n)}, {Person: int(n)}, {Epoch: n}, {Until: n}, {Tenant: int(n), Person: int(n), Epoch: n, Until: n}} {
			if got := token.Mint("key", c); got != slowMint("key", c) {
				t.Errorf("Mint of %v: %x", c, got)
			}
		}
	}
	r := rand.New(rand.NewSource(91))
	for range 2000 {
		key := anyBytes(r, r.Intn(100))
		c := token.Claims{Tenant: int(ns[r.Intn(len(ns))]), Person: int(r.Uint64()), Epoch: int64(r.Uint64()), Until: ns[r.Intn(len(ns))]}
		if got := token.Mint(key, c); got != slowMint(key, c) {
			t.Errorf("Mint(%x, %v): %x", key, c, got)
		}
	}
}

func TestP9_2ParseOfWhatMintGives(t *testing.T) {
	for _, c := range []token.Claims{{}, {Tenant: 3, Person: 1, Epoch: 2, Until: 10}, {Tenant: math.MaxInt32, Person: math.MaxInt32, Epoch: math.MinInt64, Until: math.MaxInt64}, {Epoch: math.MaxInt64, Until: math.MinInt64}, {Tenant: math.MaxInt32}, {Person: math.MaxInt32}} {
		s := token.Mint("key", c)
		if got, tag, e := token.Parse(s); got != c || tag != s[len(s)-tagSize:] || e != api.OK {
			t.Errorf("%v: %v, %x, %d", c, got, tag, e)
		}
	}
}

// Parse asks for no key: whatever the last 32 bytes are, they are the tag.
func TestP9_2ParseOfAnyTag(t *testing.T) {
	r := rand.New(rand.NewSource(92))
	c := token.Claims{Tenant: 1, Person: 2, Epoch: 3, Until: 4}
	for range 100 {
		tag := anyBytes(r, tagSize)
		if got, gotTag, e := token.Parse(slowClaims(c) + tag); got != c || gotTag != tag || e != api.OK {
			t.Errorf("%v, %x, %d", got, gotTag, e)
		}
	}
}

func TestP9_2FewerThanATagHas(t *testing.T) {
	s := token.Mint("key", token.Claims{Tenant: 1})
	for size := range tagSize {
		wantError(t, "the beginning", s[:size], api.ErrShort)
		wantError(t, "the end", s[len(s)-size:], api.ErrShort)
		wantError(t, "x", strings.Repeat("x", size), api.ErrShort)
	}
}

func TestP9_2Layer2sErrors(t *testing.T) {
	list := func(count int) string { return string([]byte{3, byte(count >> 8), byte(count)}) }
	text := func(size int) string {
		return "\x02" + string([]byte{byte(size >> 8), byte(size)}) + strings.Repeat("a", size)
	}
	deep := strings.Repeat(list(1), api.MaxDepth)
	for _, x := range []struct {
		what, b string
		e       api.Errno
	}{
		{"nothing", "", api.ErrShort},
		{"no kind", "\x00", api.ErrForm},
		{"no kind", "\x04" + slowNumbers(0, 0, 0, 0), api.ErrForm},
		{"a list without its count", "\x03", api.ErrShort},
		{"a list without its values", list(4), api.ErrShort},
		{"a list with three of four", list(4) + slowNumber(1) + slowNumber(1) + slowNumber(1), api.ErrShort},
		{"a number with nine bytes", list(4) + "\x01\x09" + strings.Repeat("a", 50), api.ErrForm},
		{"a nought ahead", list(4) + "\x01\x01\x00" + slowNumber(1) + slowNumber(1) + slowNumber(1), api.ErrForm},
		{"a byte behind", slowNumbers(1, 1, 1, 1) + "\x00", api.ErrForm},
		{"too many", list(257) + strings.Repeat(slowNumber(0), 257), api.ErrLong},
		{"a text too long", list(4) + text(api.MaxBytes+1), api.ErrLong},
		{"too deep", deep + list(0), api.ErrLong},
		{"too deep, and short", deep + "\x03", api.ErrLong},
		// Layer 2's error behind a number that no claims have: it comes first all the same.
		{"a person below 0, then short", list(4) + slowNumber(1) + slowNumber(-1), api.ErrShort},
		{"a text, then too deep", list(4) + text(1) + deep + list(0), api.ErrLong},
		{"five, of which the last is short", list(5) + slowNumbers(1, 1, 1, 1)[3:] + "\x01", api.ErrShort},
	} {
		if _, e := pack.Get(x.b); e != x.e {
			t.Fatalf("%s: layer 2 tells %d", x.what, e)
		}
		wantError(t, x.what, tagged(x.b), x.e)
	}
}

func TestP9_2NoListOfFourNumbers(t *testing.T) {
	one := pack.Num(1)
	values := map[string]pack.Value{
		"a number":           one,
		"a text":             pack.Str("abcd"),
		"a text of claims":   pack.Str(slowNumbers(1, 1, 1, 1)),
		"none":               pack.All(),
		"one":                pack.All(one),
		"three":              pack.All(one, one, one),
		"five":               pack.All(one, one, one, one, one),
		"as many as can be":  {Kind: pack.List, L: make([]pack.Value, api.MaxItems)},
		"a list in a list":   pack.All(pack.All(one, one, one, one)),
		"four in four lists": pack.All(pack.All(one), pack.All(one), pack.All(one), pack.All(one)),
	}
	for what, v := range values {
		b, e := pack.Put(v)
		if e != api.OK {
			t.Fatal(what, e)
		}
		wantError(t, what, tagged(b), api.ErrForm)
	}
	for at := range 4 {
		for _, other := range []pack.Value{pack.Str(""), pack.Str("1"), pack.All(), pack.All(one)} {
			l := []pack.Value{one, one, one, one}
			l[at] = other
			b, _ := pack.Put(pack.All(l...))
			wantError(t, "another kind", tagged(b), api.ErrForm)
		}
	}
}

func TestP9_2FromWhereToWhere(t *testing.T) {
	for _, n := range edgeNumbers() {
		want := api.OK
		if n < 0 || n > 2147483647 {
			want = api.ErrForm
		}
		for at, ns := range [][]int64{{n, 1, 1, 1}, {1, n, 1, 1}, {1, 1, n, 1}, {1, 1, 1, n}} {
			s := tagged(slowNumbers(ns...))
			checkParse(t, "edges", s)
			if at < 2 && want != api.OK {
				wantError(t, "out of its range", s, want)
			} else if _, _, e := token.Parse(s); e != api.OK {
				t.Errorf("%v: %d", ns, e)
			}
		}
	}
	wantError(t, "both out of range", tagged(slowNumbers(-1, 1<<31, 1, 1)), api.ErrForm)
	wantError(t, "2^32, whose lower half is 0", tagged(slowNumbers(1<<32, 0, 1, 1)), api.ErrForm)
}

func TestP9_2AnyBytes(t *testing.T) {
	r := rand.New(rand.NewSource(93))
	ns := edgeNumbers()
	for range 20000 {
		b := []byte(slowNumbers(ns[r.Intn(len(ns))], int64(r.Intn(9)), ns[r.Intn(len(ns))], int64(r.Uint64())))
		for range r.Intn(3) {
			b[r.Intn(len(b))] = byte(r.Intn(12))
		}
		s := string(b) + anyBytes(r, tagSize)
		if r.Intn(4) == 0 {
			s = s[r.Intn(3):]
		}
		if r.Intn(4) == 0 {
			s = s[:r.Intn(len(s)+1)]
		}
		checkParse(t, "any bytes", s)
		checkVerify(t, "any bytes", "key", s, 0, 0)
	}
}

func TestP9_3OrderOfErrors(t *testing.T) {
	c := token.Claims{Tenant: 3, Person: 1, Epoch: 2, Until: 10}
	s := token.Mint("key", c)
	cut := s[:len(s)-1]
	bad := tagged(slowNumbers(-1, 1, 2, 10))
	for _, x := range []struct {
		key, s     string
		now, epoch int64
		e          api.Errno
	}{
		{"key", s, 10, 2, api.OK},
		{"key", s, 11, 2, api.ErrLate},
		{"key", s, 10, 3, api.ErrEpoch},
		{"key", s, 10, 1, api.ErrEpoch},
		{"key", s, 11, 3, api.ErrLate},
		{"other", s, 10, 2, api.ErrTag},
		{"other", s, 11, 2, api.ErrTag},
		{"other", s, 10, 3, api.ErrTag},
		{"other", s, 11, 3, api.ErrTag},
		{"", s, 10, 2, api.ErrTag},
		{"key", cut, 10, 2, api.ErrShort},
		{"other", cut, 11, 3, api.ErrShort},
		{"key", bad, 10, 2, api.ErrForm},
		{"other", bad, 11, 3, api.ErrForm},
	} {
		want := token.Claims{}
		if x.e == api.OK {
			want = c
		}
		if got, e := token.Verify(x.key, x.s, x.now, x.epoch); got != want || e != x.e {
			t.Errorf("Verify(%q, .., %d, %d): %v, %d, not %d", x.key, x.now, x.epoch, got, e, x.e)
		}
	}
}

func TestP9_3EdgesOfNowAndEpoch(t *testing.T) {
	ns := []int64{math.MinInt64, math.MinInt64 + 1, -1, 0, 1, 1 << 32, math.MaxInt64 - 1, math.MaxInt64}
	for _, until := range ns {
		for _, epoch := range ns {
			s := token.Mint("key", token.Claims{Tenant: 1, Person: 2, Epoch: epoch, Until: until})
			for _, now := range ns {
				for _, other := range ns {
					checkVerify(t, "edges", "key", s, now, other)
				}
			}
		}
	}
}

// The tag is that of the very bytes, not of claims like theirs.
func TestP9_3TagOfOtherClaims(t *testing.T) {
	a := token.Mint("key", token.Claims{Tenant: 1, Person: 1, Epoch: 1, Until: 9})
	b := token.Mint("key", token.Claims{Tenant: 1, Person: 2, Epoch: 1, Until: 9})
	mixed := a[:len(a)-tagSize] + b[len(b)-tagSize:]
	if c, e := token.Verify("key", mixed, 0, 1); e != api.ErrTag || c != (token.Claims{}) {
		t.Errorf("%v, %d", c, e)
	}
}

// A tenant's token holds by its own key alone.
func TestP9_3KeyOfAnotherTenant(t *testing.T) {
	for tenant := range 8 {
		c := token.Claims{Tenant: tenant, Person: 1, Epoch: 2, Until: 10}
		s := token.Mint(token.Key("master", tenant), c)
		for other := range 8 {
			want := api.ErrTag
			if other == tenant {
				want = api.OK
			}
			if _, e := token.Verify(token.Key("master", other), s, 10, 2); e != want {
				t.Errorf("tenant %d's token by %d's key: %d", tenant, other, e)
			}
		}
	}
}

func TestP9_4WhatMintGivesHolds(t *testing.T) {
	r := rand.New(rand.NewSource(94))
	for range 2000 {
		key := anyBytes(r, r.Intn(100))
		c := token.Claims{Tenant: int(r.Int31()), Person: int(r.Int31()), Epoch: int64(r.Uint64()), Until: r.Int63n(math.MaxInt64)}
		s := token.Mint(key, c)
		for _, now := range []int64{math.MinInt64, 0, c.Until - 1, c.Until} {
			if got, e := token.Verify(key, s, now, c.Epoch); got != c || e != api.OK {
				t.Errorf("%v at %d: %v, %d", c, now, got, e)
			}
		}
		for _, now := range []int64{c.Until + 1, math.MaxInt64} {
			if got, e := token.Verify(key, s, now, c.Epoch); got != (token.Claims{}) || e != api.ErrLate {
				t.Errorf("%v at %d: %v, %d", c, now, got, e)
			}
		}
	}
}

func TestP9_4AnyBitOfTheTagTurned(t *testing.T) {
	for _, c := range []token.Claims{{}, {Tenant: 3, Person: 1, Epoch: 2, Until: 10}, {Tenant: math.MaxInt32, Person: math.MaxInt32, Epoch: math.MinInt64, Until: math.MaxInt64}} {
		s := token.Mint("key", c)
		b := s[:len(s)-tagSize]
		for bit := range tagSize * 8 {
			bad := b + turned(s[len(b):], bit)
			if got, e := token.Verify("key", bad, c.Until, c.Epoch); got != (token.Claims{}) || e != api.ErrTag {
				t.Errorf("%v, bit %d: %v, %d", c, bit, got, e)
			}
			// The tag comes ahead of what the claims tell.
			if _, e := token.Verify("key", bad, math.MaxInt64, c.Epoch+1); e != api.ErrTag {
				t.Errorf("%v, bit %d, late: %d", c, bit, e)
			}
		}
		for bit := range len(b) * 8 {
			checkVerify(t, "a bit of the claims turned", "key", turned(s, bit), 0, c.Epoch)
			if _, e := token.Verify("key", turned(s, bit), c.Until, c.Epoch); e == api.OK {
				t.Errorf("%v holds with bit %d turned", c, bit)
			}
		}
	}
}

func TestP1LongTexts(t *testing.T) {
	long := strings.Repeat("\x03\x00\x01", 1<<20)
	for _, s := range []string{long, strings.Repeat("\x00", 1<<20), strings.Repeat("\x03\x01\x00", 1<<20), "\x03\x00\x04\x02\xff\xff" + long} {
		checkParse(t, "long", s)
		checkVerify(t, "long", s, s, math.MinInt64, math.MaxInt64)
	}
	c := token.Claims{Tenant: 1, Person: 1, Epoch: 1, Until: 1}
	if got, e := token.Verify(long, token.Mint(long, c), 1, 1); got != c || e != api.OK {
		t.Errorf("a long key: %v, %d", got, e)
	}
	if token.Key(long, 1) != libraryTag(long, "\x03\x00\x02\x02\x00\x06tenant\x01\x01\x02") {
		t.Errorf("a long master")
	}
}

// Rule 7, and P2: what one call is told makes no difference to the next.
func TestP2SameAgain(t *testing.T) {
	c := token.Claims{Tenant: 3, Person: 1, Epoch: 2, Until: 10}
	first := token.Mint("key", c)
	token.Mint("other", token.Claims{Tenant: 9})
	token.Verify("other", first, 99, 99)
	if token.Mint("key", c) != first {
		t.Errorf("Mint gives another token")
	}
	if got, e := token.Verify("key", first, 10, 2); got != c || e != api.OK {
		t.Errorf("%v, %d", got, e)
	}
}

// Rule 4: the tag that Parse answers is new memory.
func TestTagIsNewMemory(t *testing.T) {
	s := token.Mint("key", token.Claims{Tenant: 1})
	_, tag, e := token.Parse(s)
	if e != api.OK {
		t.Fatal(e)
	}
	from, to := uintptr(unsafe.Pointer(unsafe.StringData(s))), uintptr(len(s))
	if at := uintptr(unsafe.Pointer(unsafe.StringData(tag))); at >= from && at < from+to {
		t.Errorf("the tag is a piece of what was handed in")
	}
}
