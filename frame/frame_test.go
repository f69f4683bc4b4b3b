package frame_test

import (
	"hash/crc32"
	"math"
	"math/rand"
	"slices"
	"strings"
	"testing"
	"unsafe"

	"precinct/api"
	"precinct/frame"
)

func text(size int) string { return strings.Repeat("a", size) }

// anyText: so many bytes by chance (the same at every run).
func anyText(r *rand.Rand, size int) string {
	b := make([]byte, size)
	r.Read(b)
	return string(b)
}

// slowSum: the check sum as the library has it.
func slowSum(s string) uint32 {
	return crc32.Checksum([]byte(s), crc32.MakeTable(crc32.Castagnoli))
}

// slowFrame: the length that is told (which need not be the body's), the check sum, and the body, by the chapter's words.
func slowFrame(size int, body string) string {
	head := string([]byte{byte(size >> 8), byte(size)})
	sum := slowSum(head + body)
	return head + string([]byte{byte(sum >> 24), byte(sum >> 16), byte(sum >> 8), byte(sum)}) + body
}

// whole: the frame of a body.
func whole(body string) string { return slowFrame(len(body), body) }

// turned: s with one bit turned over.
func turned(s string, bit int) string {
	b := []byte(s)
	b[bit/8] ^= 1 << (bit % 8)
	return string(b)
}

// slowGet: what Get must answer, by the chapter's words.
func slowGet(s string, at int) (string, int, api.Errno) {
	if at < 0 || at > len(s) {
		return "", 0, api.ErrArg
	}
	rest := s[at:]
	if len(rest) < 2 {
		return "", 0, api.ErrShort
	}
	size := int(rest[0])<<8 + int(rest[1])
	switch {
	case size == 0:
		return "", 0, api.ErrNone
	case size > 4096:
		return "", 0, api.ErrLong
	case len(rest) < 6+size:
		return "", 0, api.ErrShort
	case rest[:6+size] != whole(rest[6:6+size]):
		return "", 0, api.ErrSum
	}
	return rest[6 : 6+size], at + 6 + size, api.OK
}

func TestP3_1SumExamples(t *testing.T) {
	var up, down strings.Builder
	for i := range 32 {
		up.WriteByte(byte(i))
		down.WriteByte(byte(31 - i))
	}
	// A command of iSCSI's, as its appendix on check sums (RFC 3720, B.4) has it.
	command := "\x01\xc0" + strings.Repeat("\x00", 14) + "\x14\x00\x00\x00\x00\x00\x04\x00\x00\x00\x00\x14\x00\x00\x00\x18\x28" +
		strings.Repeat("\x00", 7) + "\x02" + strings.Repeat("\x00", 7)
	for s, want := range map[string]uint32{
		"":                         0,
		"123456789":                0xe3069283,
		"a":                        0xc1d04330,
		strings.Repeat("\x00", 32): 0x8a9136aa,
		strings.Repeat("\xff", 32): 0x62a8ab43,
		up.String():                0x46dd794e,
		down.String():              0x113fdb5c,
		command:                    0xd9963a56,
		"The quick brown fox jumps over the lazy dog": 0x22620404,
	} {
		if got := frame.Sum(s); got != want {
			t.Errorf("Sum(%x) = %x, want %x", s, got, want)
		}
	}
}

func TestP3_1SumOfAnyText(t *testing.T) {
	r := rand.New(rand.NewSource(1))
	texts := []string{text(4096), text(4097), text(70000), anyText(r, 1<<20)}
	for i := range 256 {
		texts = append(texts, string([]byte{byte(i)}), string([]byte{0, byte(i)}), string([]byte{byte(i), 0}))
	}
	for size := range 300 {
		texts = append(texts, anyText(r, size), strings.Repeat("\x00", size), strings.Repeat("\xff", size))
	}
	for _, s := range texts {
		if got := frame.Sum(s); got != slowSum(s) {
			t.Fatalf("Sum(%.40x) = %x, want %x", s, got, slowSum(s))
		}
	}
}

func TestP3_2PutExample(t *testing.T) {
	s, e := frame.Put("a")
	if e != api.OK || len(s) != 7 || s[:2] != "\x00\x01" || s[6:] != "a" {
		t.Fatalf("Put(a) = %x, %v", s, e)
	}
	sum := slowSum("\x00\x01a")
	if s[2] != byte(sum>>24) || s[3] != byte(sum>>16) || s[4] != byte(sum>>8) || s[5] != byte(sum) {
		t.Errorf("Put(a) = %x, its check sum must be %x", s, sum)
	}
}

func TestP3_2PutEverySize(t *testing.T) {
	r := rand.New(rand.NewSource(2))
	for size := 1; size <= 4096; size += 1 + size/20 {
		body := anyText(r, size)
		if s, e := frame.Put(body); s != whole(body) || e != api.OK {
			t.Fatalf("Put of %d bytes: %.40x, %v, want %.40x", size, s, e, whole(body))
		}
	}
	for _, body := range []string{"\x00", "\x00\x00", "\xff", "é", text(255), text(256), text(257), text(4095), text(4096)} {
		if s, e := frame.Put(body); s != whole(body) || e != api.OK {
			t.Errorf("Put of %d bytes: %.40x, %v, want %.40x", len(body), s, e, whole(body))
		}
	}
}

func TestP3_2PutErrors(t *testing.T) {
	for size, want := range map[int]api.Errno{
		0: api.ErrArg, 4097: api.ErrLong, 4098: api.ErrLong, 8192: api.ErrLong,
		65535: api.ErrLong, 65536: api.ErrLong, 65537: api.ErrLong, 1 << 20: api.ErrLong,
	} {
		if s, e := frame.Put(text(size)); s != "" || e != want {
			t.Errorf("Put of %d bytes: %.40x, %v, want %v", size, s, e, want)
		}
	}
}

func TestP3_3GetExamples(t *testing.T) {
	a, bc, full := whole("a"), whole("bc"), whole(text(4096))
	for i, x := range []struct {
		s      string
		at     int
		body   string
		behind int
	}{
		{a, 0, "a", 7},
		{a + bc, 0, "a", 7},
		{a + bc, 7, "bc", 15},
		{"ahead" + bc + "behind", 5, "bc", 13},
		{a + "\x00", 0, "a", 7},
		{whole("\x00\xff"), 0, "\x00\xff", 8},
		{full, 0, text(4096), 4102},
		{"z" + full + "z", 1, text(4096), 4103},
		{whole(a), 0, a, 13}, // a frame within a frame
		{whole(a), 6, "a", 13},
	} {
		body, behind, e := frame.Get(x.s, x.at)
		if body != x.body || behind != x.behind || e != api.OK {
			t.Errorf("%d: %.40x, %d, %v, want %.40x, %d", i, body, behind, e, x.body, x.behind)
		}
	}
}

func TestP3_3GetErrors(t *testing.T) {
	a, long := whole("a"), whole(text(4097))
	for i, x := range []struct {
		s  string
		at int
		e  api.Errno
	}{
		// The place.
		{a, -1, api.ErrArg}, {a, 8, api.ErrArg}, {a, math.MinInt, api.ErrArg}, {a, math.MaxInt, api.ErrArg}, {"", 1, api.ErrArg}, {"", -1, api.ErrArg},
		// The two bytes.
		{"", 0, api.ErrShort}, {"\x00", 0, api.ErrShort}, {"\xff", 0, api.ErrShort}, {a, 7, api.ErrShort}, {a, 6, api.ErrShort}, {a + "\x00", 7, api.ErrShort},
		// Their number, ahead of what stands behind them.
		{"\x00\x00", 0, api.ErrNone}, {a + "\x00\x00", 7, api.ErrNone}, {slowFrame(0, ""), 0, api.ErrNone}, {strings.Repeat("\x00", 64), 0, api.ErrNone},
		{"\x10\x01", 0, api.ErrLong}, {"\xff\xff", 0, api.ErrLong}, {"\x10\x01\x00", 0, api.ErrLong}, {long, 0, api.ErrLong}, {whole(text(65535)), 0, api.ErrLong},
		{long[:len(long)-1], 0, api.ErrLong}, {turned(long, 16), 0, api.ErrLong},
		// A frame that isn't whole, ahead of its check sum.
		{"\x00\x01", 0, api.ErrShort}, {"\x10\x00", 0, api.ErrShort}, {a[:6], 0, api.ErrShort}, {a[:4], 0, api.ErrShort}, {"\x00\x01\x00\x00\x00\x00", 0, api.ErrShort},
		{"\x00\x02" + a[2:], 0, api.ErrShort}, {turned(whole("abc"), 16)[:8], 0, api.ErrShort}, {slowFrame(2, "a"), 0, api.ErrShort},
		// The check sum.
		{a[:6] + "b", 0, api.ErrSum}, {"\x00\x01\x00\x00\x00\x00a", 0, api.ErrSum}, {"\x00\x02" + a[2:] + "b", 0, api.ErrSum}, {slowFrame(1, "ab"), 0, api.ErrSum},
		{"\x00\x01" + string([]byte{a[5], a[4], a[3], a[2]}) + "a", 0, api.ErrSum}, // the lowest byte first
		{"\x00\x01\xc1\xd0\x43\x30a", 0, api.ErrSum},                               // of the body alone
		{"z" + turned(a, 50), 1, api.ErrSum}, {a + a, 1, api.ErrShort},
	} {
		if body, behind, e := frame.Get(x.s, x.at); body != "" || behind != 0 || e != x.e {
			t.Errorf("%d: Get(%.40x, %d) = %.40x, %d, %v, want %v", i, x.s, x.at, body, behind, e, x.e)
		}
	}
}

func TestP3_3GetReadsWhatPutWrote(t *testing.T) {
	r := rand.New(rand.NewSource(3))
	for size := 1; size <= 4096; size += 1 + size/20 {
		body := anyText(r, size)
		s, _ := frame.Put(body)
		if got, behind, e := frame.Get("ahead"+s+"behind", 5); got != body || behind != 5+6+size || e != api.OK {
			t.Fatalf("Get of %d bytes: %.40x, %d, %v", size, got, behind, e)
		}
		if got, behind, e := frame.Get(s[:len(s)-1], 0); got != "" || behind != 0 || e != api.ErrShort {
			t.Fatalf("Get of %d bytes, one cut off: %.40x, %d, %v", size, got, behind, e)
		}
	}
}

// Wherever a frame is cut off, and whichever bit is turned over, it is none.
func TestP3_3GetOfWhatIsSpoilt(t *testing.T) {
	for _, body := range []string{"a", "\x00", text(3), text(300)} {
		s := whole(body)
		for size := range len(s) {
			if got, behind, e := frame.Get(s[:size], 0); got != "" || behind != 0 || e != api.ErrShort {
				t.Fatalf("Get(%.40x) = %.40x, %d, %v", s[:size], got, behind, e)
			}
		}
		for bit := range 8 * len(s) {
			spoilt := turned(s, bit)
			_, _, want := slowGet(spoilt, 0)
			if bit >= 16 {
				want = api.ErrSum
			}
			if got, behind, e := frame.Get(spoilt, 0); got != "" || behind != 0 || e != want || e == api.OK {
				t.Fatalf("Get(%.40x) = %.40x, %d, %v, want %v", spoilt, got, behind, e, want)
			}
		}
	}
}

func TestP3_4AllExamples(t *testing.T) {
	a, bc, full := whole("a"), whole("bc"), whole(text(4096))
	for i, x := range []struct {
		s    string
		want []string
		at   int
	}{
		{"", nil, 0},
		{"\x00", nil, 0},
		{"\x00\x00", nil, 0},
		{"\x10\x01" + text(5000), nil, 0},
		{a, []string{"a"}, 7},
		{a + bc, []string{"a", "bc"}, 15},
		{bc + a + bc, []string{"bc", "a", "bc"}, 23},
		{a + bc + "\x00\x00", []string{"a", "bc"}, 15},
		{a + "\x00", []string{"a"}, 7},
		{a + strings.Repeat("\x00", 64), []string{"a"}, 7},
		{a + "\x00\x00" + bc, []string{"a"}, 7}, // what stands behind the first error isn't read
		{a + turned(bc, 63) + a, []string{"a"}, 7},
		{a + whole(text(4097)) + a, []string{"a"}, 7},
		{turned(a, 20) + bc, nil, 0},
		{a + bc[:7], []string{"a"}, 7},
		{a[:6], nil, 0},
		{"\x00" + a, nil, 0},
		{full + full + a, []string{text(4096), text(4096), "a"}, 8211},
		{whole(a + bc), []string{a + bc}, 21},
		{strings.Repeat(a, 1000), slices.Repeat([]string{"a"}, 1000), 7000},
	} {
		if got, at := frame.All(x.s); !slices.Equal(got, x.want) || at != x.at {
			t.Errorf("%d: All(%.40x) = %.40q, %d, want %.40q, %d", i, x.s, got, at, x.want, x.at)
		}
	}
}

func TestP3_4AllOfAnyCut(t *testing.T) {
	r := rand.New(rand.NewSource(4))
	for range 50 {
		var s string
		var bodies []string
		ends := []int{0}
		for range r.Intn(6) {
			bodies = append(bodies, anyText(r, 1+r.Intn(20)))
			s += whole(bodies[len(bodies)-1])
			ends = append(ends, len(s))
		}
		for size := range len(s) + 1 {
			have := 0
			for have < len(bodies) && ends[have+1] <= size {
				have++
			}
			if got, at := frame.All(s[:size]); !slices.Equal(got, bodies[:have]) || at != ends[have] {
				t.Fatalf("All(%x) = %q, %d, want %q, %d", s[:size], got, at, bodies[:have], ends[have])
			}
		}
	}
}

// An answer shares no memory with what was handed in, nor with another one
// (DOC.md, rule 4; LANGUAGE.md, rule 7).
func TestAnswersAreNewMemory(t *testing.T) {
	s := whole("ab") + whole("cd")
	if body, _, e := frame.Get(s, 0); e != api.OK || unsafe.StringData(body) == unsafe.StringData(s[6:]) {
		t.Errorf("Get answers a piece of what it was handed (%v)", e)
	}
	first, _ := frame.All(s)
	second, _ := frame.All(s)
	if len(first) != 2 || unsafe.StringData(first[1]) == unsafe.StringData(s[14:]) {
		t.Fatalf("All answers pieces of what it was handed: %q", first)
	}
	first[0] = "z"
	_ = append(first[:1], "z")
	if !slices.Equal(second, []string{"ab", "cd"}) {
		t.Errorf("two answers of All share memory: %q", second)
	}
}

// Every call ends without a panic at any bytes and places, with nothing beside
// an error, and answers the same again.
func TestP1AnyBytes(t *testing.T) {
	r := rand.New(rand.NewSource(5))
	for range 3000 {
		b := []byte(whole(anyText(r, 1+r.Intn(30))) + whole(text(1+r.Intn(3))) + anyText(r, r.Intn(9)))
		for range r.Intn(3) {
			b[r.Intn(len(b))] = byte(r.Intn(256) >> r.Intn(8))
		}
		s := string(b)
		for at := -2; at <= len(s)+2; at++ {
			body, behind, e := frame.Get(s, at)
			again, behindAgain, eAgain := frame.Get(s, at)
			if body != again || behind != behindAgain || e != eAgain {
				t.Fatalf("Get(%x, %d) answers two things", s, at)
			}
			want, wantBehind, wantE := slowGet(s, at)
			if body != want || behind != wantBehind || e != wantE {
				t.Fatalf("Get(%x, %d) = %x, %d, %v, want %x, %d, %v", s, at, body, behind, e, want, wantBehind, wantE)
			}
		}
		bodies, end := frame.All(s)
		again, endAgain := frame.All(s)
		if end < 0 || end > len(s) || end != endAgain || !slices.Equal(bodies, again) {
			t.Fatalf("All(%x) = %q, %d, then %q, %d", s, bodies, end, again, endAgain)
		}
	}
}

// All two bytes that a length can be, with enough behind them and without.
func TestP1AnyLength(t *testing.T) {
	behind := text(4102)
	for size := range 1 << 16 {
		head := string([]byte{byte(size >> 8), byte(size)})
		for _, s := range []string{head, head + "1234", head + "1234a"} {
			_, _, want := slowGet(s, 0)
			if body, end, e := frame.Get(s, 0); body != "" || end != 0 || e != want {
				t.Fatalf("Get(%x) = %.40x, %d, %v, want %v", s, body, end, e, want)
			}
		}
		if _, _, e := frame.Get(head+behind, 0); size > 4000 && size <= 4096 && e != api.ErrSum || size > 4096 && e != api.ErrLong {
			t.Fatalf("Get of a length of %d: %v", size, e)
		}
	}
}

// Each call stands for itself: what was asked ahead makes no difference.
func TestP2NothingIsKept(t *testing.T) {
	first, _ := frame.Put("ab")
	sum := frame.Sum("ab")
	frame.Put(text(4097))
	frame.Get(turned(first, 50), 0)
	frame.All(first + "\x00")
	frame.Sum("other")
	if second, e := frame.Put("ab"); second != first || e != api.OK || frame.Sum("ab") != sum {
		t.Errorf("Put was %x, then %x, %v", first, second, e)
	}
	if body, behind, e := frame.Get(first, 0); body != "ab" || behind != 8 || e != api.OK {
		t.Errorf("Get = %q, %d, %v", body, behind, e)
	}
}
