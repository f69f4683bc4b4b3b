package pack_test

import (
	"math"
	"math/big"
	"math/rand"
	"reflect"
	"strings"
	"testing"
	"unsafe"

	"precinct/api"
	"precinct/pack"
)

// nested: v within so many lists, each with nothing else.
func nested(v pack.Value, lists int) pack.Value {
	for range lists {
		v = pack.Value{Kind: pack.List, L: []pack.Value{v}}
	}
	return v
}

// many: so many numbers, 0 each.
func many(count int) pack.Value {
	return pack.Value{Kind: pack.List, L: make([]pack.Value, count)}
}

func text(size int) string { return strings.Repeat("a", size) }

// edgeNumbers: those at which the count of bytes, or the sign, changes.
func edgeNumbers() []int64 {
	ns := []int64{0, math.MinInt64, math.MinInt64 + 1, math.MaxInt64, math.MaxInt64 - 1, api.MaxNum}
	for i := range 63 {
		p := int64(1) << i
		ns = append(ns, p-1, p, p+1, -p-1, -p, -p+1)
	}
	return ns
}

// slowNumber: a number's bytes by the chapter's words, worked out in big numbers.
func slowNumber(n int64) string {
	folded := new(big.Int).Mul(big.NewInt(n), big.NewInt(2))
	if n < 0 {
		folded.Neg(folded).Sub(folded, big.NewInt(1))
	}
	b := folded.Bytes() // without noughts ahead, none of 0
	return string([]byte{1, byte(len(b))}) + string(b)
}

// slowBytes: the bytes of a value that has some, by the chapter's words.
func slowBytes(v pack.Value) string {
	switch v.Kind {
	case pack.Int:
		return slowNumber(v.N)
	case pack.Text:
		return string([]byte{2, byte(len(v.S) >> 8), byte(len(v.S))}) + v.S
	}
	s := string([]byte{3, byte(len(v.L) >> 8), byte(len(v.L))})
	for _, x := range v.L {
		s += slowBytes(x)
	}
	return s
}

// anyValue: a value by chance (the same at every run), at most so deep.
func anyValue(r *rand.Rand, deep int) pack.Value {
	switch k := r.Intn(3); {
	case k == 0:
		return pack.Num(int64(r.Uint64()) >> r.Intn(64))
	case k == 1 || deep == 0:
		b := make([]byte, r.Intn(6))
		r.Read(b)
		return pack.Str(string(b))
	}
	l := make([]pack.Value, r.Intn(5))
	for i := range l {
		l[i] = anyValue(r, deep-1)
	}
	return pack.All(l...)
}

// strictlySame: alike in every field, as Equal doesn't look at all of them.
func strictlySame(a, b pack.Value) bool {
	if a.Kind != b.Kind || a.N != b.N || a.S != b.S || len(a.L) != len(b.L) {
		return false
	}
	for i := range a.L {
		if !strictlySame(a.L[i], b.L[i]) {
			return false
		}
	}
	return true
}

func TestP2_1KindsByNumber(t *testing.T) {
	if pack.Int != 0 || pack.Text != 1 || pack.List != 2 {
		t.Errorf("the kinds are %d, %d, %d", pack.Int, pack.Text, pack.List)
	}
}

func TestP2_1ValuesAreMade(t *testing.T) {
	one, a := pack.Value{Kind: 0, N: 1}, pack.Value{Kind: 1, S: "a"}
	odd := pack.Value{Kind: 9, N: 2, S: "b", L: []pack.Value{one}}
	for i, x := range []struct{ got, want pack.Value }{
		{pack.Num(0), pack.Value{Kind: 0}},
		{pack.Num(-7), pack.Value{Kind: 0, N: -7}},
		{pack.Num(math.MinInt64), pack.Value{Kind: 0, N: math.MinInt64}},
		{pack.Num(math.MaxInt64), pack.Value{Kind: 0, N: math.MaxInt64}},
		{pack.Str(""), pack.Value{Kind: 1}},
		{pack.Str("a\x00\xff"), pack.Value{Kind: 1, S: "a\x00\xff"}},
		{pack.Str(text(70000)), pack.Value{Kind: 1, S: text(70000)}},
		{pack.All(), pack.Value{Kind: 2}},
		{pack.All([]pack.Value{}...), pack.Value{Kind: 2}},
		{pack.All(one), pack.Value{Kind: 2, L: []pack.Value{one}}},
		{pack.All(one, a), pack.Value{Kind: 2, L: []pack.Value{one, a}}},
		{pack.All(a, one), pack.Value{Kind: 2, L: []pack.Value{a, one}}},
		{pack.All(pack.All(one), pack.All()), pack.Value{Kind: 2, L: []pack.Value{nested(one, 1), {Kind: 2}}}},
		{pack.All(odd), pack.Value{Kind: 2, L: []pack.Value{odd}}},
		{pack.All(make([]pack.Value, 300)...), many(300)},
	} {
		if !strictlySame(x.got, x.want) {
			t.Errorf("%d: %v, want %v", i, x.got, x.want)
		}
	}
}

// What is answered is new memory, also within (DOC.md, rule 4).
func TestP2_1AllSharesNoMemory(t *testing.T) {
	inner := []pack.Value{pack.Num(1), pack.Num(2)}
	outer := make([]pack.Value, 2, 8)
	outer[0] = pack.Value{Kind: pack.List, L: inner}
	outer[1] = pack.Value{Kind: pack.Int, N: 5, L: inner}
	outer[:3][2] = pack.Str("behind")
	v, w := pack.All(outer...), pack.All(outer...)
	inner[0] = pack.Num(9)
	outer[1] = pack.Num(9)
	w.L[0].L[1] = pack.Num(9)
	want := pack.All(pack.All(pack.Num(1), pack.Num(2)), pack.Value{Kind: pack.Int, N: 5, L: []pack.Value{pack.Num(1), pack.Num(2)}})
	if !strictlySame(v, want) {
		t.Errorf("All's answer changed with what was handed in: %v", v)
	}
	v.L = append(v.L, pack.Num(7))
	v.L[0].L[0] = pack.Num(8)
	if inner[0].N != 9 || inner[1].N != 2 || outer[:3][2].S != "behind" {
		t.Errorf("what was handed in changed with All's answer: %v", outer[:3])
	}
}

// Nor does a text share memory with what was handed in (LANGUAGE.md, rule 7).
func TestP2_1TextsAreNewMemory(t *testing.T) {
	s := string([]byte("\x02\x00\x02ab"))
	if unsafe.StringData(pack.Str(s).S) == unsafe.StringData(s) {
		t.Error("Str keeps what it was handed")
	}
	if unsafe.StringData(pack.All(pack.Value{Kind: pack.Text, S: s}).L[0].S) == unsafe.StringData(s) {
		t.Error("All keeps a text that it was handed")
	}
	if v, e := pack.Get(s); e != api.OK || unsafe.StringData(v.S) == unsafe.StringData(s[3:]) {
		t.Errorf("Get answers a piece of what it was handed (%v)", e)
	}
}

func TestP2_2PutExamples(t *testing.T) {
	for _, x := range []struct {
		v    pack.Value
		want string
	}{
		{pack.Value{}, "\x01\x00"},
		{pack.Num(0), "\x01\x00"},
		{pack.Num(-1), "\x01\x01\x01"},
		{pack.Num(1), "\x01\x01\x02"},
		{pack.Num(127), "\x01\x01\xfe"},
		{pack.Num(-128), "\x01\x01\xff"},
		{pack.Num(128), "\x01\x02\x01\x00"},
		{pack.Num(math.MaxInt64), "\x01\x08\xff\xff\xff\xff\xff\xff\xff\xfe"},
		{pack.Num(math.MinInt64), "\x01\x08\xff\xff\xff\xff\xff\xff\xff\xff"},
		{pack.Str(""), "\x02\x00\x00"},
		{pack.Str("ab"), "\x02\x00\x02ab"},
		{pack.Str(text(4096)), "\x02\x10\x00" + text(4096)},
		{pack.All(), "\x03\x00\x00"},
		{pack.All(pack.Num(-1), pack.Str("a")), "\x03\x00\x02\x01\x01\x01\x02\x00\x01a"},
		{pack.All(pack.All(), pack.All(pack.Num(0))), "\x03\x00\x02\x03\x00\x00\x03\x00\x01\x01\x00"},
		{many(256), "\x03\x01\x00" + strings.Repeat("\x01\x00", 256)},
		{nested(pack.Num(0), 8), strings.Repeat("\x03\x00\x01", 8) + "\x01\x00"},
		{nested(pack.Str("a"), 8), strings.Repeat("\x03\x00\x01", 8) + "\x02\x00\x01a"},
		{nested(pack.All(), 7), strings.Repeat("\x03\x00\x01", 7) + "\x03\x00\x00"},
	} {
		if s, e := pack.Put(x.v); s != x.want || e != api.OK {
			t.Errorf("Put(%.40v) = %.40x, %v, want %.40x", x.v, s, e, x.want)
		}
	}
}

func TestP2_2PutNumbers(t *testing.T) {
	for _, n := range edgeNumbers() {
		if s, e := pack.Put(pack.Num(n)); s != slowNumber(n) || e != api.OK {
			t.Fatalf("Put(%d) = %x, %v, want %x", n, s, e, slowNumber(n))
		}
	}
}

// The fields that aren't a kind's count for nothing, whatever stands in them.
func TestP2_2PutReadsItsKindAlone(t *testing.T) {
	bad := []pack.Value{{Kind: 9}}
	for _, x := range []struct {
		v    pack.Value
		want string
	}{
		{pack.Value{Kind: pack.Int, N: 1, S: text(5000), L: bad}, "\x01\x01\x02"},
		{pack.Value{Kind: pack.Text, N: 1, S: "a", L: many(257).L}, "\x02\x00\x01a"},
		{pack.Value{Kind: pack.List, N: 1, S: text(5000)}, "\x03\x00\x00"},
	} {
		if s, e := pack.Put(x.v); s != x.want || e != api.OK {
			t.Errorf("Put(%.40v) = %x, %v, want %x", x.v, s, e, x.want)
		}
	}
}

func TestP2_2PutErrors(t *testing.T) {
	none, long := pack.Value{Kind: 3}, pack.Str(text(4097))
	full := many(256)
	full.L[255] = none
	for i, x := range []struct {
		v pack.Value
		e api.Errno
	}{
		{none, api.ErrArg},
		{pack.Value{Kind: -1}, api.ErrArg},
		{pack.Value{Kind: math.MinInt}, api.ErrArg},
		{pack.Value{Kind: math.MaxInt}, api.ErrArg},
		{pack.Value{Kind: 3, S: text(5000), L: many(257).L}, api.ErrArg},
		{long, api.ErrLong},
		{pack.Str(text(65536)), api.ErrLong},
		{many(257), api.ErrLong},
		{many(65536), api.ErrLong},
		{nested(pack.Num(1), 9), api.ErrLong},
		{nested(pack.All(), 8), api.ErrLong},
		{nested(many(257), 7), api.ErrLong},
		{nested(long, 8), api.ErrLong},
		{nested(none, 1), api.ErrArg},
		{nested(none, 8), api.ErrArg},
		{nested(none, 9), api.ErrLong}, // the list that stands in eight is ahead of what is in it
		{full, api.ErrArg},
		{pack.All(pack.Num(1), none), api.ErrArg},
		{pack.All(none, long), api.ErrArg},
		{pack.All(long, none), api.ErrLong},
		{pack.All(pack.All(none), long), api.ErrArg}, // what is in the first is ahead of the second
		{pack.All(pack.All(long), none), api.ErrLong},
		{pack.All(none, nested(pack.All(), 7)), api.ErrArg},
		{pack.All(nested(pack.All(), 7), none), api.ErrLong},
		{pack.Value{Kind: pack.List, L: append(many(256).L, none)}, api.ErrLong}, // a list is ahead of its values
		{pack.Value{Kind: pack.List, L: append([]pack.Value{none}, many(256).L...)}, api.ErrLong},
	} {
		if s, e := pack.Put(x.v); s != "" || e != x.e {
			t.Errorf("%d: %.40x, %v, want %v", i, s, e, x.e)
		}
	}
}

func TestP2_2PutLeavesItsArgument(t *testing.T) {
	l := []pack.Value{pack.Num(1), pack.All(pack.Str("a")), pack.Num(7)}
	v := pack.Value{Kind: pack.List, L: l[:2]}
	if s, e := pack.Put(v); s != "\x03\x00\x02\x01\x01\x02\x03\x00\x01\x02\x00\x01a" || e != api.OK {
		t.Errorf("Put = %x, %v", s, e)
	}
	if !strictlySame(pack.All(l...), pack.All(pack.Num(1), pack.All(pack.Str("a")), pack.Num(7))) {
		t.Errorf("Put changed what it was handed: %v", l)
	}
}

func TestP2_3GetNumbers(t *testing.T) {
	for _, n := range edgeNumbers() {
		if v, e := pack.Get(slowNumber(n)); !strictlySame(v, pack.Num(n)) || e != api.OK {
			t.Fatalf("Get(%x) = %v, %v, want %d", slowNumber(n), v, e, n)
		}
	}
}

func TestP2_3GetExamples(t *testing.T) {
	for _, x := range []struct {
		s    string
		want pack.Value
	}{
		{"\x03\x00\x02\x01\x01\x01\x02\x00\x01a", pack.All(pack.Num(-1), pack.Str("a"))},
		{"\x01\x00", pack.Num(0)},
		{"\x01\x02\x01\x00", pack.Num(128)},
		{"\x01\x08\xff\xff\xff\xff\xff\xff\xff\xff", pack.Num(math.MinInt64)},
		{"\x01\x08\x01\x00\x00\x00\x00\x00\x00\x00", pack.Num(1 << 55)},
		{"\x02\x00\x00", pack.Str("")},
		{"\x02\x00\x02\x00\xff", pack.Str("\x00\xff")},
		{"\x02\x10\x00" + text(4096), pack.Str(text(4096))},
		{"\x03\x00\x00", pack.All()},
		{"\x03\x01\x00" + strings.Repeat("\x01\x00", 256), many(256)},
		{strings.Repeat("\x03\x00\x01", 8) + "\x01\x00", nested(pack.Num(0), 8)},
		{strings.Repeat("\x03\x00\x01", 8) + "\x02\x00\x01a", nested(pack.Str("a"), 8)},
		{strings.Repeat("\x03\x00\x01", 7) + "\x03\x00\x00", nested(pack.All(), 7)},
	} {
		if v, e := pack.Get(x.s); !strictlySame(v, x.want) || e != api.OK {
			t.Errorf("Get(%.40x) = %.40v, %v, want %.40v", x.s, v, e, x.want)
		}
	}
}

func TestP2_3GetErrors(t *testing.T) {
	eight := strings.Repeat("\x03\x00\x01", 8)
	for _, x := range []struct {
		s string
		e api.Errno
	}{
		// A value's first byte.
		{"", api.ErrShort}, {"\x00", api.ErrForm}, {"\x04", api.ErrForm}, {"\xff", api.ErrForm}, {"\x00\x01\x00", api.ErrForm},
		// A number.
		{"\x01", api.ErrShort}, {"\x01\x09", api.ErrForm}, {"\x01\xff", api.ErrForm}, {"\x01\x0912345678 9", api.ErrForm},
		{"\x01\x01", api.ErrShort}, {"\x01\x02\x01", api.ErrShort}, {"\x01\x081234567", api.ErrShort},
		{"\x01\x01\x00", api.ErrForm}, {"\x01\x02\x00\x01", api.ErrForm}, {"\x01\x08\x00\xff\xff\xff\xff\xff\xff\xff", api.ErrForm},
		{"\x01\x02\x00", api.ErrShort}, // cut off ahead of the nought
		// A text.
		{"\x02", api.ErrShort}, {"\x02\x00", api.ErrShort}, {"\x02\x00\x02a", api.ErrShort},
		{"\x02\x10\x01" + text(4097), api.ErrLong}, {"\x02\x10\x01" + text(4098), api.ErrLong}, {"\x02\xff\xff" + text(65535), api.ErrLong},
		{"\x02\x10\x01" + text(4096), api.ErrShort}, // cut off ahead of too long
		{"\x02\xff\xff", api.ErrShort},
		// A list.
		{"\x03", api.ErrShort}, {"\x03\x00", api.ErrShort}, {"\x03\x00\x01", api.ErrShort}, {"\x03\x00\x02\x01\x00", api.ErrShort},
		{"\x03\x01\x01", api.ErrLong}, {"\x03\xff\xff", api.ErrLong}, {"\x03\x01\x00", api.ErrShort},
		{"\x03\x01\x01" + strings.Repeat("\x01\x00", 257), api.ErrLong},
		{"\x03\x01\x00" + strings.Repeat("\x01\x00", 255), api.ErrShort},
		{eight, api.ErrShort},
		{eight + "\x03", api.ErrLong}, // told at its first byte
		{eight + "\x03\x00\x00", api.ErrLong}, {eight + "\x03\x00\x01\x01\x00", api.ErrLong},
		{strings.Repeat("\x03\x00\x01", 7) + "\x03", api.ErrShort}, {strings.Repeat("\x03\x00\x01", 1000), api.ErrLong},
		{"\x03\x00\x02\x00\x09", api.ErrForm}, {"\x03\x00\x02\x01\x09\x03\x01\x01", api.ErrForm}, // from the left
		{"\x03\x00\x02\x03\x01\x01\x00", api.ErrLong}, {"\x03\x00\x02\x01\x00\x04", api.ErrForm},
		// Bytes that are left, behind all.
		{"\x01\x00\x00", api.ErrForm}, {"\x01\x00\x01\x00", api.ErrForm}, {"\x02\x00\x01ab", api.ErrForm}, {"\x03\x00\x00\x01\x00", api.ErrForm},
		{"\x03\x00\x01\x02\x00\x02a", api.ErrShort},
	} {
		if v, e := pack.Get(x.s); e != x.e || !strictlySame(v, pack.Value{}) {
			t.Errorf("Get(%.40x) = %.40v, %v, want %v", x.s, v, e, x.e)
		}
	}
}

func TestP2_2P2_3ThereAndBack(t *testing.T) {
	r := rand.New(rand.NewSource(2))
	for range 2000 {
		v := anyValue(r, 7)
		s, e := pack.Put(v)
		if s != slowBytes(v) || e != api.OK {
			t.Fatalf("Put(%v) = %x, %v", v, s, e)
		}
		if w, e := pack.Get(s); !strictlySame(v, w) || e != api.OK {
			t.Fatalf("Get(%x) = %v, %v, want %v", s, w, e, v)
		}
		if w, e := pack.Get(s + "\x00"); e != api.ErrForm || !strictlySame(w, pack.Value{}) {
			t.Fatalf("Get(%x and one more) = %v, %v", s, w, e)
		}
		// All that is there of bytes that are cut off is right.
		cut := s[:r.Intn(len(s))]
		if w, e := pack.Get(cut); e != api.ErrShort || !strictlySame(w, pack.Value{}) {
			t.Fatalf("Get(%x) = %v, %v", cut, w, e)
		}
	}
}

// In just one way: what Get takes is what Put gives, at all short bytes.
func TestP2_3JustOneWay(t *testing.T) {
	const letters = "\x00\x01\x02\x03\x08\xff"
	taken := 0
	var look func(s string)
	look = func(s string) {
		v, e := pack.Get(s)
		if e != api.OK {
			if !strictlySame(v, pack.Value{}) {
				t.Fatalf("Get(%x): %v beside %v", s, v, e)
			}
		} else if again, e := pack.Put(v); again != s || e != api.OK || slowBytes(v) != s {
			t.Fatalf("Get(%x) = %v, whose bytes are %x", s, v, again)
		} else {
			taken++
		}
		if len(s) < 7 {
			for i := range len(letters) {
				look(s + letters[i:i+1])
			}
		}
	}
	look("")
	if taken < 100 {
		t.Errorf("only %d were taken", taken)
	}
}

// No two lists of answers share memory (DOC.md, rule 4).
func TestP2_3GetSharesNoMemory(t *testing.T) {
	const s = "\x03\x00\x02\x03\x00\x01\x01\x00\x03\x00\x01\x01\x00"
	v, _ := pack.Get(s)
	w, _ := pack.Get(s)
	v.L[0].L[0] = pack.Num(5)
	v.L[0].L = append(v.L[0].L, pack.Num(6))
	v.L = append(v.L, pack.Num(7))
	want := pack.All(pack.All(pack.Num(0)), pack.All(pack.Num(0)))
	if !strictlySame(w, want) || !strictlySame(v.L[1], want.L[1]) {
		t.Errorf("Get's lists share memory: %v, %v", v, w)
	}
}

func TestP2_4Equal(t *testing.T) {
	one := pack.Num(1)
	values := []pack.Value{ // each two of them are different
		pack.Num(0), one, pack.Num(-1), pack.Num(math.MinInt64), pack.Num(math.MaxInt64),
		pack.Str(""), pack.Str("a"), pack.Str("b"), pack.Str("ab"), pack.Str("\x00"), pack.Str(text(4097)),
		pack.All(), pack.All(one), pack.All(one, one), pack.All(pack.Num(2)), pack.All(pack.Str("a")), pack.All(pack.All()),
		pack.All(one, pack.Num(2)), pack.All(pack.Num(2), one), pack.All(pack.All(one)), pack.All(pack.All(pack.Num(2))),
		many(257), nested(one, 9), nested(one, 10),
		{Kind: 3}, {Kind: -1}, {Kind: math.MaxInt}, {Kind: math.MinInt}, pack.All(pack.Value{Kind: 3}), pack.All(pack.Value{Kind: 4}),
	}
	for i, a := range values {
		for j, b := range values {
			if got := pack.Equal(a, b); got != (i == j) {
				t.Errorf("Equal(%.40v, %.40v) = %v", a, b, got)
			}
		}
	}
}

// What isn't the kind's counts for nothing; an empty list may be nil or not.
func TestP2_4EqualLooksAtTheKindAlone(t *testing.T) {
	l := []pack.Value{pack.Num(1)}
	for i, x := range []struct {
		a, b pack.Value
		want bool
	}{
		{pack.Num(1), pack.Value{Kind: pack.Int, N: 1, S: "a", L: l}, true},
		{pack.Str("a"), pack.Value{Kind: pack.Text, N: 1, S: "a", L: l}, true},
		{pack.All(l...), pack.Value{Kind: pack.List, N: 1, S: "a", L: l}, true},
		{pack.Value{Kind: pack.List}, pack.Value{Kind: pack.List, L: []pack.Value{}}, true},
		{pack.Value{Kind: 9, N: 1, S: "a", L: l}, pack.Value{Kind: 9}, true},
		{pack.All(pack.Value{Kind: -1, N: 1}), pack.All(pack.Value{Kind: -1, N: 2}), true},
		{pack.Value{Kind: 9, N: 1}, pack.Value{Kind: 8, N: 1}, false},
		{pack.Value{Kind: pack.Int, S: "a"}, pack.Value{Kind: pack.Text, S: "a"}, false},
		{pack.Value{Kind: pack.Text, N: 1}, pack.Value{Kind: pack.Int, N: 1}, false},
		{pack.Value{Kind: pack.List, L: l[:0]}, pack.All(), true}, // what lies behind the length isn't read
	} {
		if pack.Equal(x.a, x.b) != x.want || pack.Equal(x.b, x.a) != x.want {
			t.Errorf("%d: Equal(%v, %v) isn't %v", i, x.a, x.b, x.want)
		}
	}
}

// Every call ends without a panic, at as many parts nested as the document bounds.
func TestP1DeepestNesting(t *testing.T) {
	v := nested(pack.Num(1), 1<<16)
	if s, e := pack.Put(v); s != "" || e != api.ErrLong {
		t.Errorf("Put: %d bytes, %v", len(s), e)
	}
	w := pack.All(v.L...)
	if !pack.Equal(v, w) || pack.Equal(v, nested(pack.Num(2), 1<<16)) {
		t.Error("Equal is wrong of values that are nested deep")
	}
	if _, e := pack.Get(strings.Repeat("\x03\x00\x01", 1<<16)); e != api.ErrLong {
		t.Errorf("Get: %v", e)
	}
}

// Every call ends without a panic at any bytes, and answers the same again.
func TestP1AnyBytes(t *testing.T) {
	r := rand.New(rand.NewSource(1))
	for range 20000 {
		b := []byte(slowBytes(anyValue(r, 4)))
		for range 1 + r.Intn(3) {
			b[r.Intn(len(b))] = byte(r.Intn(256) >> r.Intn(8))
		}
		v, e := pack.Get(string(b))
		w, again := pack.Get(string(b))
		if e != again || !reflect.DeepEqual(v, w) {
			t.Fatalf("Get(%x) answers two things", b)
		}
		if e != api.OK && !strictlySame(v, pack.Value{}) {
			t.Fatalf("Get(%x): %v beside %v", b, v, e)
		}
		if e == api.OK && slowBytes(v) != string(b) {
			t.Fatalf("Get(%x) = %v", b, v)
		}
	}
}

// Each call stands for itself: faults of calls ahead make no difference.
func TestP2NothingIsKept(t *testing.T) {
	v := pack.All(pack.Num(1), pack.Str("a"))
	first, _ := pack.Put(v)
	pack.Put(pack.All(pack.Num(7), pack.Value{Kind: 9}))
	pack.Get("\x03\x00\x02\x01\x01\x02")
	second, e := pack.Put(v)
	if first != second || e != api.OK {
		t.Errorf("Put was %x, then %x, %v", first, second, e)
	}
	if w, e := pack.Get(second); !strictlySame(v, w) || e != api.OK {
		t.Errorf("Get = %v, %v", w, e)
	}
}
