package area_test

import (
	"math"
	"math/rand"
	"slices"
	"strings"
	"testing"
	"unsafe"

	"precinct/api"
	"precinct/area"
)

const maxGen = 281474976710655 // 2^48 - 1

func text(size int) string { return strings.Repeat("a", size) }

func noughts(size int) string { return strings.Repeat("\x00", size) }

// anyText: so many bytes by chance (the same at every run).
func anyText(r *rand.Rand, size int) string {
	b := make([]byte, size)
	r.Read(b)
	return string(b)
}

// slowSector: a sector by the chapter's words, of whatever it is to say (which need not be a cell).
func slowSector(gen uint64, index, size int, data string) string {
	var b []byte
	for i := 40; i >= 0; i -= 8 {
		b = append(b, byte(gen>>i))
	}
	b = append(b, byte(index>>8), byte(index), byte(size))
	b = append(b, data...)
	for len(b) < 64 {
		b = append(b, 0)
	}
	return string(b)
}

// cell: the sector of a cell.
func cell(gen int64, index int, data string) string {
	return slowSector(uint64(gen), index, len(data), data)
}

// slowMake: what Make must answer.
func slowMake(c area.Cell) (string, api.Errno) {
	if c.Gen < 1 || c.Gen > maxGen || c.Index < 0 || c.Index > 65535 {
		return "", api.ErrArg
	}
	if len(c.Data) > 55 {
		return "", api.ErrLong
	}
	return cell(c.Gen, c.Index, c.Data), api.OK
}

// slowParse: what Parse must answer, byte by byte.
func slowParse(s string) (area.Cell, bool) {
	if len(s) != 64 {
		return area.Cell{}, false
	}
	var c area.Cell
	for i := range 6 {
		c.Gen = c.Gen*256 + int64(s[i])
	}
	c.Index = int(s[6])*256 + int(s[7])
	size := int(s[8])
	if c.Gen == 0 || size > 55 || strings.Trim(s[9+size:], "\x00") != "" {
		return area.Cell{}, false
	}
	c.Data = s[9 : 9+size]
	return c, true
}

// slowSplit: what Split must answer, a piece at a time.
func slowSplit(gen int64, from int, data string) ([]string, api.Errno) {
	if gen < 1 || gen > maxGen || from < 0 || from > 65535 {
		return nil, api.ErrArg
	}
	var sectors []string
	for i := from; ; i++ {
		if i > 65535 {
			return nil, api.ErrLong
		}
		if len(data) < 55 {
			return append(sectors, cell(gen, i, data)), api.OK
		}
		sectors = append(sectors, cell(gen, i, data[:55]))
		data = data[55:]
	}
}

// slowJoin: what Join must answer.
func slowJoin(sectors []string, gen int64) string {
	data := ""
	for i, s := range sectors {
		c, ok := slowParse(s)
		if !ok || c.Gen != gen || c.Index != i {
			return data
		}
		data += c.Data
		if len(c.Data) != 55 {
			return data
		}
	}
	return data
}

// slowNewest: what Newest must answer.
func slowNewest(sectors []string) int64 {
	var newest int64
	for _, s := range sectors {
		if c, ok := slowParse(s); ok && c.Gen > newest {
			newest = c.Gen
		}
	}
	return newest
}

func TestP7Constants(t *testing.T) {
	if area.Room != 55 || area.MaxGen != maxGen {
		t.Errorf("%d, %d", area.Room, int64(area.MaxGen))
	}
}

func TestP7_1Example(t *testing.T) {
	want := "\x00\x00\x00\x00\x00\x01\x00\x02\x02ab" + noughts(53)
	c := area.Cell{Gen: 1, Index: 2, Data: "ab"}
	if s, e := area.Make(c); s != want || e != api.OK {
		t.Errorf("Make = %x, %v", s, e)
	}
	if got, ok := area.Parse(want); got != c || !ok {
		t.Errorf("Parse = %v, %t", got, ok)
	}
}

func TestP7_1MakeAtTheBounds(t *testing.T) {
	for i, x := range []struct {
		c    area.Cell
		want string
	}{
		{area.Cell{Gen: 1}, "\x00\x00\x00\x00\x00\x01\x00\x00\x00" + noughts(55)},
		{area.Cell{Gen: maxGen}, "\xff\xff\xff\xff\xff\xff\x00\x00\x00" + noughts(55)},
		{area.Cell{Gen: 0x010203040506, Index: 0x0708}, "\x01\x02\x03\x04\x05\x06\x07\x08\x00" + noughts(55)},
		{area.Cell{Gen: 256, Index: 65535, Data: "\x00"}, "\x00\x00\x00\x00\x01\x00\xff\xff\x01" + noughts(55)},
		{area.Cell{Gen: 1, Index: 256, Data: text(54)}, "\x00\x00\x00\x00\x00\x01\x01\x00\x36" + text(54) + "\x00"},
		{area.Cell{Gen: 1, Index: 1, Data: text(55)}, "\x00\x00\x00\x00\x00\x01\x00\x01\x37" + text(55)},
		{area.Cell{Gen: 1, Index: 1, Data: noughts(55)}, "\x00\x00\x00\x00\x00\x01\x00\x01\x37" + noughts(55)},
		{area.Cell{Gen: 1, Index: 1, Data: "é\xff\x00"}, "\x00\x00\x00\x00\x00\x01\x00\x01\x04\xc3\xa9\xff" + noughts(52)},
	} {
		if s, e := area.Make(x.c); s != x.want || e != api.OK {
			t.Errorf("%d: Make = %x, %v, want %x", i, s, e, x.want)
		}
		if c, ok := area.Parse(x.want); c != x.c || !ok {
			t.Errorf("%d: Parse = %v, %t, want %v", i, c, ok, x.c)
		}
	}
}

func TestP7_1MakeErrors(t *testing.T) {
	long := text(56)
	for i, x := range []struct {
		c area.Cell
		e api.Errno
	}{
		{area.Cell{}, api.ErrArg},
		{area.Cell{Gen: -1}, api.ErrArg}, {area.Cell{Gen: maxGen + 1}, api.ErrArg}, {area.Cell{Gen: maxGen + 2}, api.ErrArg},
		{area.Cell{Gen: math.MinInt64}, api.ErrArg}, {area.Cell{Gen: math.MaxInt64}, api.ErrArg},
		{area.Cell{Gen: 1, Index: -1}, api.ErrArg}, {area.Cell{Gen: 1, Index: 65536}, api.ErrArg}, {area.Cell{Gen: 1, Index: 65537}, api.ErrArg},
		{area.Cell{Gen: 1, Index: math.MinInt}, api.ErrArg}, {area.Cell{Gen: 1, Index: math.MaxInt}, api.ErrArg},
		{area.Cell{Gen: 1, Data: long}, api.ErrLong}, {area.Cell{Gen: maxGen, Index: 65535, Data: long}, api.ErrLong},
		{area.Cell{Gen: 1, Data: text(64)}, api.ErrLong}, {area.Cell{Gen: 1, Data: text(256)}, api.ErrLong}, {area.Cell{Gen: 1, Data: text(1 << 20)}, api.ErrLong},
		// The bounds come ahead of the data.
		{area.Cell{Data: long}, api.ErrArg}, {area.Cell{Gen: maxGen + 1, Data: long}, api.ErrArg},
		{area.Cell{Gen: 1, Index: -1, Data: long}, api.ErrArg}, {area.Cell{Gen: 1, Index: 65536, Data: long}, api.ErrArg},
	} {
		if s, e := area.Make(x.c); s != "" || e != x.e {
			t.Errorf("%d: Make = %x, %v, want %v", i, s, e, x.e)
		}
	}
}

func TestP7_1ParseOfNoCell(t *testing.T) {
	s := cell(1, 2, "ab")
	for i, x := range []string{
		"", "a", s[:63], s + "\x00", s + s, s[1:], noughts(63), noughts(64), noughts(65), strings.Repeat("\xff", 64), text(64),
		slowSector(0, 2, 2, "ab"),                                                            // no generation
		slowSector(1, 2, 56, text(55)), slowSector(1, 2, 255, ""), slowSector(1, 2, 128, ""), // more data than there is room
		slowSector(1, 2, 1, "ab"), slowSector(1, 2, 0, "ab"), slowSector(1, 2, 54, text(55)), slowSector(1, 2, 0, "\x00\x01"),
		s[:63] + "\x01", s[:11] + "\x01" + s[12:], // no noughts behind the data
	} {
		if c, ok := area.Parse(x); c != (area.Cell{}) || ok {
			t.Errorf("%d: Parse(%x) = %v, %t", i, x, c, ok)
		}
	}
	// Noughts may be data.
	if c, ok := area.Parse(slowSector(1, 2, 5, "ab")); c != (area.Cell{Gen: 1, Index: 2, Data: "ab\x00\x00\x00"}) || !ok {
		t.Errorf("Parse = %v, %t", c, ok)
	}
}

// A sector is one cell's alone: whichever bit is turned over, it is another one's, or nobody's.
func TestP7_1ParseOfWhatIsSpoilt(t *testing.T) {
	for _, c := range []area.Cell{{Gen: 1}, {Gen: 3, Index: 65535, Data: "abc"}, {Gen: maxGen, Index: 1, Data: text(55)}, {Gen: 1 << 47, Index: 9, Data: noughts(20)}} {
		s := cell(c.Gen, c.Index, c.Data)
		for bit := range 8 * 64 {
			b := []byte(s)
			b[bit/8] ^= 1 << (bit % 8)
			want, wantOK := slowParse(string(b))
			got, ok := area.Parse(string(b))
			if got != want || ok != wantOK || got == c {
				t.Fatalf("Parse(%x) = %v, %t, want %v, %t", b, got, ok, want, wantOK)
			}
		}
	}
}

func TestP7_1EveryByteThatTellsTheSize(t *testing.T) {
	for size := range 256 {
		for _, data := range []string{"", text(1), text(20), text(54), text(55)} {
			s := slowSector(5, 6, size, data)
			want, wantOK := slowParse(s)
			if got, ok := area.Parse(s); got != want || ok != wantOK {
				t.Fatalf("Parse(%x) = %v, %t, want %v, %t", s, got, ok, want, wantOK)
			}
		}
	}
}

func TestP7_2SplitExamples(t *testing.T) {
	for i, x := range []struct {
		gen  int64
		from int
		data string
		want []string
	}{
		{1, 0, "", []string{cell(1, 0, "")}},
		{1, 65535, "", []string{cell(1, 65535, "")}},
		{maxGen, 3, "ab", []string{cell(maxGen, 3, "ab")}},
		{2, 1, text(54), []string{cell(2, 1, text(54))}},
		{2, 1, text(55), []string{cell(2, 1, text(55)), cell(2, 2, "")}},
		{2, 1, text(56), []string{cell(2, 1, text(55)), cell(2, 2, "a")}},
		{2, 0, text(55) + strings.Repeat("b", 55), []string{cell(2, 0, text(55)), cell(2, 1, strings.Repeat("b", 55)), cell(2, 2, "")}},
		{2, 254, text(109) + "bc", []string{cell(2, 254, text(55)), cell(2, 255, text(54)+"b"), cell(2, 256, "c")}},
		{1, 65535, text(54), []string{cell(1, 65535, text(54))}},
		{1, 65534, text(109), []string{cell(1, 65534, text(55)), cell(1, 65535, text(54))}},
		{1, 7, noughts(60), []string{cell(1, 7, noughts(55)), cell(1, 8, noughts(5))}},
	} {
		if got, e := area.Split(x.gen, x.from, x.data); !slices.Equal(got, x.want) || e != api.OK {
			t.Errorf("%d: Split = %x, %v, want %x", i, got, e, x.want)
		}
	}
}

func TestP7_2SplitErrors(t *testing.T) {
	all := text(65536 * 55) // needs one cell more than there are indices
	for i, x := range []struct {
		gen  int64
		from int
		data string
		e    api.Errno
	}{
		{0, 0, "", api.ErrArg}, {-1, 0, "", api.ErrArg}, {maxGen + 1, 0, "", api.ErrArg}, {math.MinInt64, 0, "", api.ErrArg}, {math.MaxInt64, 0, "", api.ErrArg},
		{1, -1, "", api.ErrArg}, {1, 65536, "", api.ErrArg}, {1, math.MinInt, "", api.ErrArg}, {1, math.MaxInt, "", api.ErrArg},
		{1, 65535, text(55), api.ErrLong}, {1, 65535, text(56), api.ErrLong}, {1, 65534, text(110), api.ErrLong}, {1, 65000, text(536 * 55), api.ErrLong},
		{1, 0, all, api.ErrLong}, {1, 1, all[1:], api.ErrLong}, {1, 0, all + "a", api.ErrLong},
		// The bounds come ahead of the length.
		{0, 0, all, api.ErrArg}, {maxGen + 1, 65535, all, api.ErrArg}, {1, -1, all, api.ErrArg}, {1, 65536, all, api.ErrArg}, {1, math.MaxInt, all, api.ErrArg},
	} {
		if got, e := area.Split(x.gen, x.from, x.data); len(got) != 0 || e != x.e {
			t.Errorf("%d: Split: %d sectors, %v, want %v", i, len(got), e, x.e)
		}
	}
}

// As much data as there are indices for, and a byte more.
func TestP7_2SplitOfTheMost(t *testing.T) {
	data := anyText(rand.New(rand.NewSource(1)), 65536*55-1)
	got, e := area.Split(9, 0, data)
	want, _ := slowSplit(9, 0, data)
	if e != api.OK || len(got) != 65536 || !slices.Equal(got, want) {
		t.Fatalf("Split: %d sectors, %v", len(got), e)
	}
	if area.Join(got, 9) != data {
		t.Errorf("Join isn't what was split")
	}
	if _, e := area.Split(9, 0, data+"a"); e != api.ErrLong {
		t.Errorf("Split of a byte more: %v", e)
	}
	// Behind the last index no cell has its place, as full as the last one may be.
	full := slices.Clone(got)
	full[65535] = cell(9, 65535, text(55))
	for _, behind := range []string{cell(9, 0, "b"), cell(9, 65535, "b")} {
		if s := area.Join(append(full, behind), 9); s != data[:65535*55]+text(55) {
			t.Errorf("Join reads behind the last index: %d bytes", len(s))
		}
	}
}

func TestP7_2SplitOfAnySize(t *testing.T) {
	r := rand.New(rand.NewSource(2))
	for size := range 600 {
		data, gen, from := anyText(r, size), 1+r.Int63n(maxGen), r.Intn(65536)
		if r.Intn(2) == 0 {
			from = 65535 - r.Intn(12)
		}
		want, wantE := slowSplit(gen, from, data)
		if got, e := area.Split(gen, from, data); !slices.Equal(got, want) || e != wantE {
			t.Fatalf("Split of %d bytes from %d on: %x, %v, want %x, %v", size, from, got, e, want, wantE)
		}
	}
}

func TestP7_3JoinExamples(t *testing.T) {
	full, other := text(55), strings.Repeat("b", 55)
	for i, x := range []struct {
		sectors []string
		gen     int64
		want    string
	}{
		{nil, 1, ""},
		{[]string{}, 1, ""},
		{[]string{""}, 1, ""},
		{[]string{cell(1, 0, "")}, 1, ""},
		{[]string{cell(1, 0, "ab")}, 1, "ab"},
		{[]string{cell(1, 0, "ab")}, 2, ""},
		{[]string{cell(1, 1, "ab")}, 1, ""},
		{[]string{cell(1, 0, full)}, 1, full}, // it ends with the sectors
		{[]string{cell(1, 0, full), cell(1, 1, "c")}, 1, full + "c"},
		{[]string{cell(1, 0, full), cell(1, 1, other), cell(1, 2, "c")}, 1, full + other + "c"},
		{[]string{cell(1, 0, full), cell(1, 1, ""), cell(1, 2, "c")}, 1, full}, // what isn't full ends it
		{[]string{cell(1, 0, "ab"), cell(1, 1, "cd")}, 1, "ab"},
		{[]string{cell(1, 0, text(54)), cell(1, 1, "cd")}, 1, text(54)},
		{[]string{cell(1, 0, full), cell(2, 1, other), cell(1, 2, "c")}, 1, full}, // another generation
		{[]string{cell(1, 0, full), cell(2, 1, other), cell(1, 2, "c")}, 2, ""},
		{[]string{cell(1, 0, full), cell(1, 2, "c")}, 1, full}, // another index
		{[]string{cell(1, 0, full), cell(1, 0, full)}, 1, full},
		{[]string{cell(1, 1, full), cell(1, 0, full)}, 1, ""},
		{[]string{cell(1, 0, full), noughts(64), cell(1, 2, "c")}, 1, full}, // no cell
		{[]string{cell(1, 0, full), cell(1, 1, "c")[:63]}, 1, full},
		{[]string{noughts(64), cell(1, 1, full)}, 1, ""},
		{[]string{noughts(64)}, 0, ""},
		{[]string{slowSector(0, 0, 2, "ab")}, 0, ""}, // a generation that no cell has
		{[]string{cell(maxGen, 0, "ab")}, maxGen, "ab"},
		{[]string{cell(maxGen, 0, "ab")}, -1, ""},
		{[]string{cell(maxGen, 0, "ab")}, math.MaxInt64, ""},
		{[]string{cell(1, 0, "ab")}, 1<<48 + 1, ""},
		{[]string{cell(1, 0, "ab")}, math.MinInt64, ""},
		{[]string{cell(1, 0, "ab")}, math.MinInt64 + 1, ""},
	} {
		if got := area.Join(x.sectors, x.gen); got != x.want {
			t.Errorf("%d: Join = %q, want %q", i, got, x.want)
		}
	}
}

func TestP7_3NewestExamples(t *testing.T) {
	for i, x := range []struct {
		sectors []string
		want    int64
	}{
		{nil, 0},
		{[]string{}, 0},
		{[]string{"", "a", noughts(64)}, 0},
		{[]string{cell(1, 0, "")}, 1},
		{[]string{cell(3, 0, ""), cell(2, 1, "")}, 3},
		{[]string{cell(2, 0, ""), cell(3, 1, "")}, 3},
		{[]string{cell(2, 0, ""), cell(3, 900, "x"), cell(1, 2, text(55)), noughts(64)}, 3}, // whatever its index is
		{[]string{noughts(64), cell(5, 7, "")}, 5},
		{[]string{cell(maxGen, 0, ""), cell(1, 0, "")}, maxGen},
		{[]string{cell(1<<40, 0, ""), cell(255, 0, "")}, 1 << 40},
		{[]string{cell(2, 0, ""), cell(9, 0, "")[:63], cell(9, 0, "") + "\x00", slowSector(9, 0, 56, ""), slowSector(9, 0, 1, "ab")}, 2}, // what is no cell doesn't count
		{[]string{strings.Repeat("\xff", 64), cell(4, 0, "")}, 4},
	} {
		if got := area.Newest(x.sectors); got != x.want {
			t.Errorf("%d: Newest = %d, want %d", i, got, x.want)
		}
	}
}

// anySector: a cell of one of few generations, at its place or at another, or no cell.
func anySector(r *rand.Rand, i int) string {
	index, data := i, anyText(r, 55)
	if r.Intn(8) == 0 {
		index = r.Intn(9)
	}
	if r.Intn(6) == 0 {
		data = data[:r.Intn(55)]
	}
	s := cell(1+int64(r.Intn(2)*r.Intn(3)), index, data)
	switch r.Intn(12) {
	case 0:
		return noughts(64)
	case 1:
		return s[:r.Intn(64)]
	case 2:
		b := []byte(s)
		b[r.Intn(64)] ^= 1 << r.Intn(8)
		return string(b)
	}
	return s
}

func TestP7_3AnySectors(t *testing.T) {
	r := rand.New(rand.NewSource(3))
	for range 20000 {
		var sectors []string
		for i := range r.Intn(9) {
			sectors = append(sectors, anySector(r, i))
		}
		for gen := int64(-1); gen <= 4; gen++ {
			if got, want := area.Join(sectors, gen), slowJoin(sectors, gen); got != want {
				t.Fatalf("Join(%x, %d) = %x, want %x", sectors, gen, got, want)
			}
		}
		if got, want := area.Newest(sectors), slowNewest(sectors); got != want {
			t.Fatalf("Newest(%x) = %d, want %d", sectors, got, want)
		}
	}
}

func TestP7_4JoinOfSplit(t *testing.T) {
	r := rand.New(rand.NewSource(4))
	for size := range 400 {
		data, gen := anyText(r, size), 1+r.Int63n(maxGen)
		sectors, e := area.Split(gen, 0, data)
		if e != api.OK || area.Join(sectors, gen) != data || area.Newest(sectors) != gen {
			t.Fatalf("of %d bytes: %x, %v", size, sectors, e)
		}
		n := len(sectors)
		for _, behind := range []string{"", noughts(64), cell(gen, n, text(55)), cell(gen, n, "z"), cell(gen, 0, "z"), anyText(r, 64)} {
			if got := area.Join(append(sectors[:n:n], behind, cell(gen, n+1, "z")), gen); got != data {
				t.Fatalf("with %x behind: %x, want %x", behind, got, data)
			}
		}
	}
}

func TestP7_4JoinWithSomeReplaced(t *testing.T) {
	r := rand.New(rand.NewSource(5))
	for range 3000 {
		data, gen := anyText(r, r.Intn(500)), 2+r.Int63n(1000)
		sectors, _ := area.Split(gen, 0, data)
		first := len(sectors)
		for range 1 + r.Intn(3) {
			at := r.Intn(len(sectors))
			first = min(first, at)
			sectors[at] = []string{"", noughts(64), cell(gen-1, at, text(55)), cell(gen+1, at, "z"), cell(gen, at, "z")[:63], text(64)}[r.Intn(6)]
		}
		if got := area.Join(sectors, gen); got != data[:first*55] {
			t.Fatalf("the first replaced is %d: %x of %x", first, got, data)
		}
	}
}

// What is handed in is neither changed nor kept (DOC.md, rule 4).
func TestArgumentsAreNotKept(t *testing.T) {
	mine := []string{cell(1, 0, text(55)), cell(1, 1, "b"), cell(1, 2, "behind the length")}
	kept := slices.Clone(mine)
	if s := area.Join(mine[:1], 1); s != text(55) {
		t.Errorf("Join reads behind the length: %q", s)
	}
	if g := area.Newest([]string{"", cell(9, 0, "")}[:1]); g != 0 {
		t.Errorf("Newest reads behind the length: %d", g)
	}
	area.Join(mine, 1)
	area.Newest(mine)
	if !slices.Equal(mine, kept) {
		t.Errorf("the sectors were changed: %x", mine)
	}
}

// An answer shares no memory with what was handed in, nor with another one
// (DOC.md, rule 4; LANGUAGE.md, rule 7).
func TestAnswersAreNewMemory(t *testing.T) {
	s := cell(1, 0, "ab")
	if c, ok := area.Parse(s); !ok || unsafe.StringData(c.Data) == unsafe.StringData(s[9:]) {
		t.Errorf("Parse answers a piece of what it was handed (%t)", ok)
	}
	if data := area.Join([]string{s}, 1); data != "ab" || unsafe.StringData(data) == unsafe.StringData(s[9:]) {
		t.Errorf("Join answers a piece of what it was handed: %q", data)
	}
	first, _ := area.Split(1, 0, text(60))
	second, _ := area.Split(1, 0, text(60))
	kept := slices.Clone(second)
	first[0] = "z"
	_ = append(first[:1], "z")
	if !slices.Equal(second, kept) {
		t.Errorf("two answers of Split share memory: %q", second)
	}
}

// Every call ends without a panic, and answers by the chapter's words, at any arguments.
func TestP1AnyArguments(t *testing.T) {
	r := rand.New(rand.NewSource(6))
	gens := []int64{math.MinInt64, math.MinInt64 + 1, -1, 0, 1, 2, 255, 256, maxGen - 1, maxGen, maxGen + 1, maxGen + 2, math.MaxInt64 - 1, math.MaxInt64}
	indices := []int{math.MinInt, math.MinInt + 1, -1, 0, 1, 255, 256, 65534, 65535, 65536, 65537, math.MaxInt - 1, math.MaxInt}
	texts := []string{"", "a", noughts(1), text(54), text(55), text(56), text(110), text(111), anyText(r, 300)}
	for _, gen := range gens {
		for _, index := range indices {
			for _, data := range texts {
				want, wantE := slowMake(area.Cell{Gen: gen, Index: index, Data: data})
				if s, e := area.Make(area.Cell{Gen: gen, Index: index, Data: data}); s != want || e != wantE {
					t.Fatalf("Make(%d, %d, %x) = %x, %v, want %x, %v", gen, index, data, s, e, want, wantE)
				}
				pieces, piecesE := slowSplit(gen, index, data)
				if l, e := area.Split(gen, index, data); !slices.Equal(l, pieces) || e != piecesE {
					t.Fatalf("Split(%d, %d, %x) = %x, %v, want %x, %v", gen, index, data, l, e, pieces, piecesE)
				}
			}
		}
	}
	for range 20000 {
		s := anyText(r, r.Intn(70))
		want, wantOK := slowParse(s)
		if c, ok := area.Parse(s); c != want || ok != wantOK {
			t.Fatalf("Parse(%x) = %v, %t, want %v, %t", s, c, ok, want, wantOK)
		}
	}
}

// Each call stands for itself: what was asked ahead makes no difference.
func TestP2NothingIsKept(t *testing.T) {
	first, _ := area.Make(area.Cell{Gen: 1, Index: 2, Data: text(55)})
	area.Split(7, 8, text(500))
	area.Parse(text(64))
	area.Join([]string{first}, 1)
	if second, e := area.Make(area.Cell{Gen: 1, Index: 2, Data: "a"}); second != cell(1, 2, "a") || e != api.OK {
		t.Errorf("Make = %x, %v", second, e)
	}
	if first != cell(1, 2, text(55)) || area.Newest([]string{first}) != 1 {
		t.Errorf("an elder answer was changed: %x", first)
	}
}
