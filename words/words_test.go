package words_test

import (
	"math"
	"math/big"
	"strings"
	"testing"
	"unsafe"

	"precinct/api"
	"precinct/words"
)

// Numbers at which widths, signs and carries change.
func edgeNumbers() []uint64 {
	ns := []uint64{0, 1, 2, 3, 180, 200, 258, 0x0102030405060708, 0xdeadbeefcafef00d, 0xaaaaaaaaaaaaaaaa, 0x5555555555555555}
	for i := range 64 {
		p := uint64(1) << i
		ns = append(ns, p-1, p, p+1, -p, ^p)
	}
	return append(ns, math.MaxUint64)
}

// Ints around every bound that the chapter names, and the outermost ones.
func edgeInts() []int {
	is := []int{math.MinInt, math.MinInt + 1, math.MinInt32 - 1, math.MinInt32, math.MaxInt32, math.MaxInt32 + 1, math.MaxInt - 1, math.MaxInt}
	for i := -130; i <= 130; i++ {
		is = append(is, i)
	}
	return is
}

// slowBit: bit at of n, where n has none it is 0.
func slowBit(n uint64, at *big.Int) uint {
	if at.Sign() < 0 || at.Cmp(big.NewInt(63)) > 0 {
		return 0
	}
	return new(big.Int).SetUint64(n).Bit(int(at.Int64()))
}

func TestP1_1PutExamples(t *testing.T) {
	for _, x := range []struct {
		width int
		n     uint64
		want  string
	}{
		{3, 258, "\x00\x01\x02"},
		{1, 258, "\x02"},
		{2, 258, "\x01\x02"},
		{1, 0, "\x00"},
		{1, 256, "\x00"},
		{7, 0x0102030405060708, "\x02\x03\x04\x05\x06\x07\x08"},
		{8, 0x0102030405060708, "\x01\x02\x03\x04\x05\x06\x07\x08"},
		{9, 0x0102030405060708, "\x01\x02\x03\x04\x05\x06\x07\x08"},
		{math.MaxInt, 1, "\x00\x00\x00\x00\x00\x00\x00\x01"},
		{8, math.MaxUint64, "\xff\xff\xff\xff\xff\xff\xff\xff"},
		{0, 1, ""},
		{-1, 1, ""},
		{math.MinInt, math.MaxUint64, ""},
	} {
		if got := words.Put(x.width, x.n); got != x.want {
			t.Errorf("Put(%d, %d) = %x, want %x", x.width, x.n, got, x.want)
		}
	}
}

func TestP1_1PutEveryWidth(t *testing.T) {
	for _, n := range edgeNumbers() {
		whole := new(big.Int).SetUint64(n).FillBytes(make([]byte, 8))
		for _, width := range edgeInts() {
			want := string(whole[8-max(0, min(width, 8)):])
			if got := words.Put(width, n); got != want {
				t.Fatalf("Put(%d, %d) = %x, want %x", width, n, got, want)
			}
		}
	}
}

func TestP1_2GetExamples(t *testing.T) {
	nine := "\x01\x02\x03\x04\x05\x06\x07\x08\x09"
	for _, x := range []struct {
		s         string
		at, width int
		n         uint64
		behind    int
		e         api.Errno
	}{
		{"\x01\x02", 0, 2, 258, 2, api.OK},
		{"\x01\x02", 0, 1, 1, 1, api.OK},
		{"\x01\x02", 1, 1, 2, 2, api.OK},
		{"\xff\xff\xff\xff\xff\xff\xff\xff", 0, 8, math.MaxUint64, 8, api.OK},
		{nine, 1, 8, 0x0203040506070809, 9, api.OK},
		{nine, 0, 8, 0x0102030405060708, 8, api.OK},
		{nine, 2, 8, 0, 0, api.ErrShort},
		{"\x01\x02", 1, 2, 0, 0, api.ErrShort},
		{"\x01\x02", 2, 1, 0, 0, api.ErrShort},
		{"", 0, 1, 0, 0, api.ErrShort},
		{"", 0, 8, 0, 0, api.ErrShort},
		{"\x01\x02", 3, 1, 0, 0, api.ErrArg},
		{"\x01\x02", -1, 1, 0, 0, api.ErrArg},
		{"\x01\x02", 0, 0, 0, 0, api.ErrArg},
		{"\x01\x02", 0, -1, 0, 0, api.ErrArg},
		{"\x01\x02", 0, 9, 0, 0, api.ErrArg},
		{nine, 0, 9, 0, 0, api.ErrArg},
		{"", 1, 1, 0, 0, api.ErrArg},
		{"", 0, 9, 0, 0, api.ErrArg},
		{"\x01\x02", math.MaxInt, 8, 0, 0, api.ErrArg},
		{"\x01\x02", math.MinInt, 8, 0, 0, api.ErrArg},
		{"\x01\x02", 0, math.MaxInt, 0, 0, api.ErrArg},
		{"\x01\x02", 0, math.MinInt, 0, 0, api.ErrArg},
		{"\x01\x02", math.MaxInt, math.MaxInt, 0, 0, api.ErrArg},
	} {
		n, behind, e := words.Get(x.s, x.at, x.width)
		if n != x.n || behind != x.behind || e != x.e {
			t.Errorf("Get(%x, %d, %d) = %d, %d, %v, want %d, %d, %v", x.s, x.at, x.width, n, behind, e, x.n, x.behind, x.e)
		}
	}
}

func TestP1_2GetReadsWhatPutWrote(t *testing.T) {
	for _, n := range edgeNumbers() {
		for width := 1; width <= 8; width++ {
			s := "\xee" + words.Put(width, n) + "\xee"
			got, behind, e := words.Get(s, 1, width)
			if got != n&(math.MaxUint64>>(64-8*width)) || behind != 1+width || e != api.OK {
				t.Fatalf("Get(%x, 1, %d) = %d, %d, %v", s, width, got, behind, e)
			}
		}
	}
}

func TestP1_2GetEveryPlace(t *testing.T) {
	const s = "abcdefghijkl"
	for _, at := range edgeInts() {
		for _, width := range edgeInts() {
			n, behind, e := words.Get(s, at, width)
			if e != api.OK && (n != 0 || behind != 0) {
				t.Fatalf("Get(at %d, width %d): %d, %d beside %v", at, width, n, behind, e)
			}
			want := api.OK
			if width < 1 || width > 8 || at < 0 || at > len(s) {
				want = api.ErrArg
			} else if at+width > len(s) {
				want = api.ErrShort
			}
			if e != want {
				t.Fatalf("Get(at %d, width %d): %v, want %v", at, width, e, want)
			}
		}
	}
}

func TestP1_3FoldExamples(t *testing.T) {
	for n, want := range map[int64]uint64{
		0: 0, -1: 1, 1: 2, -2: 3, 2: 4, -3: 5, 100: 200, -100: 199,
		math.MaxInt64: math.MaxUint64 - 1, math.MinInt64: math.MaxUint64,
		math.MaxInt64 - 1: math.MaxUint64 - 3, math.MinInt64 + 1: math.MaxUint64 - 2,
	} {
		if got := words.Fold(n); got != want {
			t.Errorf("Fold(%d) = %d, want %d", n, got, want)
		}
		if got := words.Unfold(want); got != n {
			t.Errorf("Unfold(%d) = %d, want %d", want, got, n)
		}
	}
}

func TestP1_3FoldIsWhatItsFormulaSays(t *testing.T) {
	for _, u := range edgeNumbers() {
		n := int64(u)
		want := new(big.Int).Mul(big.NewInt(n), big.NewInt(2))
		if n < 0 {
			want.Neg(want).Sub(want, big.NewInt(1))
		}
		if got := words.Fold(n); new(big.Int).SetUint64(got).Cmp(want) != 0 {
			t.Errorf("Fold(%d) = %d, want %v", n, got, want)
		}
		if got := words.Unfold(words.Fold(n)); got != n {
			t.Errorf("Unfold(Fold(%d)) = %d", n, got)
		}
		if got := words.Fold(words.Unfold(u)); got != u {
			t.Errorf("Fold(Unfold(%d)) = %d", u, got)
		}
	}
}

func TestP1_4RotateExamples(t *testing.T) {
	for _, x := range []struct {
		x    uint32
		by   int
		want uint32
	}{
		{1, -1, 1 << 31}, {1, 1, 2}, {1 << 31, 1, 1}, {0x80000001, 33, 3}, {0x12345678, 8, 0x34567812},
		{0x12345678, -8, 0x78123456}, {0x12345678, 32, 0x12345678}, {0x12345678, -32, 0x12345678},
		{7, 0, 7}, {7, math.MinInt, 7}, {7, math.MaxInt, 0x80000003}, {0, 5, 0}, {math.MaxUint32, 5, math.MaxUint32},
	} {
		if got := words.Rotate(x.x, x.by); got != x.want {
			t.Errorf("Rotate(%x, %d) = %x, want %x", x.x, x.by, got, x.want)
		}
	}
}

func TestP1_4RotateBitByBit(t *testing.T) {
	for _, u := range edgeNumbers() {
		x := uint32(u)
		for _, by := range edgeInts() {
			var want uint32
			for i := range 32 {
				to := new(big.Int).Add(big.NewInt(int64(i)), big.NewInt(int64(by)))
				// Mod of math/big is never below 0.
				want |= (x >> i & 1) << to.Mod(to, big.NewInt(32)).Int64()
			}
			if got := words.Rotate(x, by); got != want {
				t.Fatalf("Rotate(%x, %d) = %x, want %x", x, by, got, want)
			}
		}
	}
}

func TestP1_4BitsExamples(t *testing.T) {
	const all = uint64(math.MaxUint64)
	for _, x := range []struct {
		n           uint64
		from, count int
		want        uint64
	}{
		{180, 2, 3, 5}, {180, 0, 8, 180}, {180, 0, 64, 180}, {180, 0, 65, 180}, {180, 0, math.MaxInt, 180},
		{180, 0, 0, 0}, {180, 0, -1, 0}, {all, 0, math.MinInt, 0},
		{all, 63, 1, 1}, {all, 63, 64, 1}, {all, 64, 64, 0}, {all, math.MaxInt, 64, 0},
		{1, -1, 3, 2}, {1, -1, 1, 0}, {1, -2, 2, 0}, {1, -2, 3, 4}, {3, -63, 64, 1 << 63}, {all, -64, 64, 0}, {all, -63, 63, 0},
		{1, math.MinInt, 9, 0}, {all, math.MinInt, math.MaxInt, 0}, {all, math.MaxInt, math.MaxInt, 0}, {all, 0, 64, all},
	} {
		if got := words.Bits(x.n, x.from, x.count); got != x.want {
			t.Errorf("Bits(%x, %d, %d) = %x, want %x", x.n, x.from, x.count, got, x.want)
		}
	}
}

func TestP1_4BitsBitByBit(t *testing.T) {
	counts := []int{math.MinInt, -64, -1, 0, 1, 2, 3, 31, 32, 33, 62, 63, 64, 65, 128, math.MaxInt}
	for _, n := range []uint64{0, 1, 180, 1 << 63, 0xdeadbeefcafef00d, math.MaxUint64} {
		for _, from := range edgeInts() {
			for _, count := range counts {
				var want uint64
				for i := range max(0, min(count, 64)) {
					at := new(big.Int).Add(big.NewInt(int64(from)), big.NewInt(int64(i)))
					want |= uint64(slowBit(n, at)) << i
				}
				if got := words.Bits(n, from, count); got != want {
					t.Fatalf("Bits(%x, %d, %d) = %x, want %x", n, from, count, got, want)
				}
			}
		}
	}
}

func TestP1_5NarrowExamples(t *testing.T) {
	for _, x := range []struct {
		n    int64
		bits int
		want int64
	}{
		{200, 8, -56}, {200, 9, 200}, {127, 8, 127}, {128, 8, -128}, {-128, 8, -128}, {-129, 8, 127}, {256, 8, 0},
		{1, 1, -1}, {2, 1, 0}, {-1, 1, -1}, {1, 0, -1}, {2, 0, 0}, {1, -7, -1}, {3, math.MinInt, -1},
		{-5, 63, -5}, {-5, 64, -5}, {-5, 65, -5}, {-5, math.MaxInt, -5}, {1 << 40, 32, 0}, {1 << 31, 32, math.MinInt32},
		{math.MaxInt64, 63, -1}, {math.MinInt64, 63, 0}, {math.MinInt64, 64, math.MinInt64}, {math.MaxInt64, 64, math.MaxInt64},
	} {
		if got := words.Narrow(x.n, x.bits); got != x.want {
			t.Errorf("Narrow(%d, %d) = %d, want %d", x.n, x.bits, got, x.want)
		}
	}
}

func TestP1_5NarrowInItsRange(t *testing.T) {
	for _, u := range edgeNumbers() {
		n := int64(u)
		for _, bits := range edgeInts() {
			count := max(1, min(bits, 64))
			size := new(big.Int).Lsh(big.NewInt(1), uint(count))
			want := new(big.Int).Mod(big.NewInt(n), size)
			if want.Bit(count-1) == 1 {
				want.Sub(want, size)
			}
			if got := words.Narrow(n, bits); want.Cmp(big.NewInt(got)) != 0 {
				t.Fatalf("Narrow(%d, %d) = %d, want %v", n, bits, got, want)
			}
		}
	}
}

func TestP1_6TextExamples(t *testing.T) {
	longest := strings.Repeat("a", 65535)
	for _, x := range []struct {
		s, want string
		e       api.Errno
	}{
		{"", "\x00\x00", api.OK},
		{"ab", "\x00\x02ab", api.OK},
		{"\x00\xff", "\x00\x02\x00\xff", api.OK},
		{"é", "\x00\x02\xc3\xa9", api.OK},
		{strings.Repeat("b", 258), "\x01\x02" + strings.Repeat("b", 258), api.OK},
		{longest, "\xff\xff" + longest, api.OK},
		{longest + "a", "", api.ErrLong},
		{longest + longest, "", api.ErrLong},
	} {
		if got, e := words.Text(x.s); got != x.want || e != x.e {
			t.Errorf("Text of %d bytes: %d bytes, %v, want %d bytes, %v", len(x.s), len(got), e, len(x.want), x.e)
		}
	}
}

func TestP1_6GetTextExamples(t *testing.T) {
	for _, x := range []struct {
		s      string
		at     int
		text   string
		behind int
		e      api.Errno
	}{
		{"z\x00\x01ab", 1, "a", 4, api.OK},
		{"\x00\x02ab", 0, "ab", 4, api.OK},
		{"\x00\x00", 0, "", 2, api.OK},
		{"\x00\x00z", 0, "", 2, api.OK},
		{"\x00\x02\x00\xff", 0, "\x00\xff", 4, api.OK},
		{"\x00\x02a", 0, "", 0, api.ErrShort},
		{"\xff\xffa", 0, "", 0, api.ErrShort},
		{"\x00\x01", 0, "", 0, api.ErrShort},
		{"\x00", 0, "", 0, api.ErrShort},
		{"", 0, "", 0, api.ErrShort},
		{"\x00\x00", 1, "", 0, api.ErrShort},
		{"\x00\x00", 2, "", 0, api.ErrShort},
		{"\x00\x00", 3, "", 0, api.ErrArg},
		{"\x00\x00", -1, "", 0, api.ErrArg},
		{"\x00\x00", math.MinInt, "", 0, api.ErrArg},
		{"\x00\x00", math.MaxInt, "", 0, api.ErrArg},
		{"", 1, "", 0, api.ErrArg},
	} {
		text, behind, e := words.GetText(x.s, x.at)
		if text != x.text || behind != x.behind || e != x.e {
			t.Errorf("GetText(%q, %d) = %q, %d, %v, want %q, %d, %v", x.s, x.at, text, behind, e, x.text, x.behind, x.e)
		}
	}
}

func TestP1_6GetTextReadsWhatTextWrote(t *testing.T) {
	for _, size := range []int{0, 1, 255, 256, 257, 65534, 65535} {
		s := strings.Repeat("\xfe", size)
		b, e := words.Text(s)
		if e != api.OK {
			t.Fatalf("Text of %d bytes: %v", size, e)
		}
		text, behind, e := words.GetText("ahead"+b+"behind", 5)
		if text != s || behind != 5+2+size || e != api.OK {
			t.Errorf("GetText of %d bytes: %d bytes, %d, %v", size, len(text), behind, e)
		}
		text, behind, e = words.GetText(b[:len(b)-1], 0)
		if text != "" || behind != 0 || e != api.ErrShort {
			t.Errorf("GetText of %d bytes, one cut off: %q, %d, %v", size, text, behind, e)
		}
	}
}

// An answer shares no memory with what was handed in (LANGUAGE.md, rule 7).
func TestP1_6TextsAreNewMemory(t *testing.T) {
	s := string([]byte("\x00\x02ab"))
	text, _, e := words.GetText(s, 0)
	if e != api.OK || unsafe.StringData(text) == unsafe.StringData(s[2:]) {
		t.Errorf("GetText answers a piece of what it was handed (%v)", e)
	}
}

// Every call ends without a panic at all arguments, and answers the same again.
func TestP1NoCallPanics(t *testing.T) {
	texts := []string{"", "\x00", "\x00\x00", "\x00\x01", "\x00\x01a", "\xff\xff\xff", strings.Repeat("\xff", 70000)}
	for _, a := range edgeInts() {
		for _, s := range texts {
			text, behind, e := words.GetText(s, a)
			again, behindAgain, eAgain := words.GetText(s, a)
			if text != again || behind != behindAgain || e != eAgain {
				t.Fatalf("GetText(%d bytes, %d) answers two things", len(s), a)
			}
			if e != api.OK && (text != "" || behind != 0) {
				t.Fatalf("GetText(%d bytes, %d): %d bytes, %d beside %v", len(s), a, len(text), behind, e)
			}
			for _, b := range []int{math.MinInt, -1, 0, 1, 8, 9, math.MaxInt} {
				words.Get(s, a, b)
			}
		}
		for _, b := range edgeInts() {
			words.Bits(math.MaxUint64, a, b)
		}
	}
}

// Each call stands for itself: what was asked ahead makes no difference.
func TestP2NothingIsKept(t *testing.T) {
	first, _ := words.Text("ab")
	words.Text(strings.Repeat("z", 65536))
	words.GetText("\xff", 0)
	words.Put(8, math.MaxUint64)
	if second, _ := words.Text("ab"); first != second || first != "\x00\x02ab" {
		t.Errorf("Text(ab) was %x, then %x", first, second)
	}
}
