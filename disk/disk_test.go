package disk_test

import (
	"math"
	"math/rand"
	"slices"
	"strings"
	"testing"
	"unsafe"

	"precinct/api"
	"precinct/disk"
)

// full: a sector of one byte, over and over.
func full(c byte) string { return strings.Repeat(string([]byte{c}), 64) }

func noughts(sectors int) string { return strings.Repeat("\x00", 64*sectors) }

// numbered: a sector that tells a number.
func numbered(n int) string {
	return string([]byte{byte(n >> 16), byte(n >> 8), byte(n)}) + strings.Repeat("n", 61)
}

func mustBe(t *testing.T, what string, got, want api.Errno) {
	t.Helper()
	if got != want {
		t.Errorf("%s: %d, want %d", what, got, want)
	}
}

func mustRead(t *testing.T, d *disk.Disk, region, sector int, want string) {
	t.Helper()
	if got, e := d.Read(region, sector); got != want || e != api.OK {
		t.Errorf("Read(%d, %d) = %.8q, %d, want %.8q", region, sector, got, e, want)
	}
}

func mustLast(t *testing.T, d *disk.Disk, region int, want string) {
	t.Helper()
	if got := d.Image(region); got != want {
		t.Errorf("Image(%d) = %q, want %q", region, got, want)
	}
}

func mustBeOff(t *testing.T, d *disk.Disk, want bool) {
	t.Helper()
	if d.Off() != want {
		t.Errorf("Off is %v", !want)
	}
}

func TestP6_1Sizes(t *testing.T) {
	for _, x := range []struct{ sizes, want []int }{
		{nil, nil},
		{[]int{0}, []int{0}},
		{[]int{1}, []int{1}},
		{[]int{-1, 2, math.MinInt}, []int{0, 2, 0}},
		{[]int{4095, 4096, 4097, math.MaxInt}, []int{4095, 4096, 4096, 4096}},
		{[]int{1, 2, 3, 4, 5, 6, 7, 8}, []int{1, 2, 3, 4, 5, 6, 7, 8}},
		{[]int{1, 2, 3, 4, 5, 6, 7, 8, 9, 10}, []int{1, 2, 3, 4, 5, 6, 7, 8}},
	} {
		d := disk.New(x.sizes...)
		mustBeOff(t, d, false)
		for i := range 12 {
			want := 0
			if i < len(x.want) {
				want = x.want[i]
			}
			if got := d.Sectors(i); got != want {
				t.Errorf("New(%v): Sectors(%d) = %d, want %d", x.sizes, i, got, want)
			}
			mustLast(t, d, i, noughts(want))
		}
		for _, none := range []int{-1, math.MinInt, math.MaxInt, len(x.want)} {
			if got := d.Sectors(none); got != 0 {
				t.Errorf("New(%v): Sectors(%d) = %d", x.sizes, none, got)
			}
			mustBe(t, "Flush of no region", d.Flush(none), api.ErrRegion)
		}
	}
}

// A region of no sectors is one nevertheless.
func TestP6_1RegionsWithoutSectors(t *testing.T) {
	d := disk.New(0, -5, 1)
	for region := range 2 {
		mustBe(t, "Flush", d.Flush(region), api.OK)
		mustBe(t, "Write", d.Write(region, 0, full('a')), api.ErrRegion)
		d.Lay(region, full('a'))
		mustLast(t, d, region, "")
		d.Cut(region, 1)
		mustBe(t, "Flush", d.Flush(2), api.OK)
		mustBe(t, "Flush", d.Flush(region), api.ErrPower)
		d.On()
	}
}

func TestP6_1EverySectorIsNoughts(t *testing.T) {
	d := disk.New(3, 4096)
	for region := range 2 {
		for sector := range d.Sectors(region) {
			mustRead(t, d, region, sector, noughts(1))
		}
	}
}

func TestP6_1NilDisk(t *testing.T) {
	var d *disk.Disk
	d.Cut(0, 1, 1)
	d.Crash(1)
	d.On()
	d.Lay(0, full('a'))
	for _, n := range []int{0, 1, -1, math.MinInt, math.MaxInt} {
		got, e := d.Read(n, n)
		if got != "" || e != api.ErrNil {
			t.Errorf("Read = %q, %d", got, e)
		}
		mustBe(t, "Write", d.Write(n, n, full('a')), api.ErrNil)
		mustBe(t, "Write", d.Write(n, n, ""), api.ErrNil)
		mustBe(t, "Flush", d.Flush(n), api.ErrNil)
		if d.Sectors(n) != 0 || d.Image(n) != "" || d.Off() {
			t.Errorf("%d, %q, %v", d.Sectors(n), d.Image(n), d.Off())
		}
	}
}

// A disk that no New made has no region.
func TestP6_1EmptyDisk(t *testing.T) {
	var d disk.Disk
	d.Cut(0, 1)
	d.Crash(1)
	d.Lay(0, full('a'))
	mustBe(t, "Flush", d.Flush(0), api.ErrRegion)
	if d.Sectors(0) != 0 || d.Image(0) != "" || d.Off() {
		t.Errorf("%d, %q, %v", d.Sectors(0), d.Image(0), d.Off())
	}
}

func TestP6_2ReadIsTheLastWrite(t *testing.T) {
	d := disk.New(3)
	mustBe(t, "Write", d.Write(0, 1, full('a')), api.OK)
	mustBe(t, "Write", d.Write(0, 2, full('b')), api.OK)
	mustRead(t, d, 0, 1, full('a'))
	mustBe(t, "Write", d.Write(0, 1, full('c')), api.OK)
	mustRead(t, d, 0, 0, noughts(1))
	mustRead(t, d, 0, 1, full('c'))
	mustRead(t, d, 0, 2, full('b'))
	mustLast(t, d, 0, noughts(3))
	mustBe(t, "Flush", d.Flush(0), api.OK)
	mustLast(t, d, 0, noughts(1)+full('c')+full('b'))
	mustRead(t, d, 0, 1, full('c'))
	mustBe(t, "Write", d.Write(0, 1, noughts(1)), api.OK)
	mustRead(t, d, 0, 1, noughts(1))
	mustRead(t, d, 0, 2, full('b'))
}

// Every byte of a sector is taken, at its place.
func TestP6_2EveryByte(t *testing.T) {
	d := disk.New(4)
	for first := range 4 {
		data := make([]byte, 64)
		for i := range data {
			data[i] = byte(64*first + i)
		}
		mustBe(t, "Write", d.Write(0, 3-first, string(data)), api.OK)
		mustRead(t, d, 0, 3-first, string(data))
	}
	mustBe(t, "Flush", d.Flush(0), api.OK)
	for i, b := range []byte(d.Image(0)) {
		if want := byte(64*(3-i/64) + i%64); b != want {
			t.Fatalf("byte %d is %d, want %d", i, b, want)
		}
	}
}

func TestP6_2OutOfBounds(t *testing.T) {
	d := disk.New(3, 0, 4096)
	for _, x := range [][2]int{{0, 3}, {0, -1}, {0, math.MinInt}, {0, math.MaxInt}, {1, 0}, {2, 4096}, {2, math.MaxInt / 64}, {3, 0}, {-1, 0}, {math.MinInt, 0}, {math.MaxInt, 0}} {
		got, e := d.Read(x[0], x[1])
		if got != "" || e != api.ErrRegion {
			t.Errorf("Read(%d, %d) = %q, %d", x[0], x[1], got, e)
		}
		// Ahead of what is said of the data.
		for _, data := range []string{"", full('a'), full('a') + "a"} {
			mustBe(t, "Write", d.Write(x[0], x[1], data), api.ErrRegion)
		}
	}
	for _, region := range []int{-1, 3, math.MinInt, math.MaxInt} {
		mustBe(t, "Flush", d.Flush(region), api.ErrRegion)
	}
	mustBe(t, "Write", d.Write(0, 2, full('a')), api.OK)
	mustBe(t, "Write", d.Write(2, 4095, full('b')), api.OK)
	mustRead(t, d, 0, 2, full('a'))
	mustRead(t, d, 2, 4095, full('b'))
}

func TestP6_2DataOfASector(t *testing.T) {
	d := disk.New(2)
	for _, size := range []int{0, 1, 63, 65, 128, 4096, 1 << 16} {
		mustBe(t, "Write", d.Write(0, 0, strings.Repeat("a", size)), api.ErrArg)
		mustRead(t, d, 0, 0, noughts(1))
	}
	mustBe(t, "Flush", d.Flush(0), api.OK)
	mustLast(t, d, 0, noughts(2))
}

// With the power off that is told ahead of all else.
func TestP6_2PowerComesFirst(t *testing.T) {
	d := disk.New(2)
	d.Cut(0, 1)
	mustBe(t, "Flush", d.Flush(0), api.ErrPower)
	for _, n := range []int{0, 1, 2, -1, math.MinInt, math.MaxInt} {
		got, e := d.Read(n, n)
		if got != "" || e != api.ErrPower {
			t.Errorf("Read(%d, %d) = %q, %d", n, n, got, e)
		}
		mustBe(t, "Write", d.Write(n, n, ""), api.ErrPower)
		mustBe(t, "Write", d.Write(n, n, full('a')), api.ErrPower)
		mustBe(t, "Flush", d.Flush(n), api.ErrPower)
	}
	d.On()
	mustRead(t, d, 0, 0, noughts(1))
	mustBe(t, "Flush", d.Flush(0), api.OK)
	mustLast(t, d, 0, noughts(2))
}

func TestP6_2FlushInOrder(t *testing.T) {
	d := disk.New(2)
	for i := range 200 {
		mustBe(t, "Write", d.Write(0, i%2, numbered(i)), api.OK)
	}
	mustBe(t, "Flush", d.Flush(0), api.OK)
	mustLast(t, d, 0, numbered(198)+numbered(199))
	// The queue is empty: a loss of power has nothing to keep.
	mustBe(t, "Write", d.Write(0, 0, full('a')), api.OK)
	d.Crash(^uint64(1))
	mustLast(t, d, 0, numbered(198)+numbered(199))
}

func TestP6_3Examples(t *testing.T) {
	for _, x := range []struct {
		keep []uint64
		want string
	}{
		{[]uint64{1}, full('x')}, {[]uint64{2}, full('y')}, {[]uint64{3}, full('y')},
		{[]uint64{0}, noughts(1)}, {nil, noughts(1)}, {[]uint64{4}, noughts(1)}, {[]uint64{^uint64(3)}, noughts(1)}, {[]uint64{0, 3}, noughts(1)}, {[]uint64{3, 0, 7}, full('y')},
	} {
		d := disk.New(2)
		d.Write(0, 1, full('x'))
		d.Write(0, 1, full('y'))
		d.Crash(x.keep...)
		mustLast(t, d, 0, noughts(1)+x.want)
		mustRead(t, d, 0, 1, x.want)
		mustBeOff(t, d, false)
		// The queue is empty: what was lost doesn't come again.
		mustBe(t, "Flush", d.Flush(0), api.OK)
		d.Crash(math.MaxUint64)
		mustLast(t, d, 0, noughts(1)+x.want)
	}
}

// The i-th write has the bit i mod 64 of its region's number.
func TestP6_3BitsOfWrites(t *testing.T) {
	r := rand.New(rand.NewSource(1))
	for round := range 100 {
		writes := r.Intn(200)
		keep := r.Uint64() & r.Uint64()
		if round < 64 {
			keep = 1 << round
		}
		d := disk.New(1, 200, 2)
		want := make([]string, 200)
		for i := range want {
			want[i] = noughts(1)
		}
		for i := range writes {
			mustBe(t, "Write", d.Write(1, i, numbered(i)), api.OK)
			if keep>>(uint(i)%64)&1 == 1 {
				want[i] = numbered(i)
			}
		}
		d.Crash(math.MaxUint64, keep, math.MaxUint64)
		mustLast(t, d, 1, strings.Join(want, ""))
	}
}

// Each region has a number of its own; what has none keeps nothing.
func TestP6_3NumbersOfRegions(t *testing.T) {
	for count := range 11 {
		d := disk.New(1, 1, 1, 1, 1, 1, 1, 1)
		var keep []uint64
		for region := range 8 {
			for i := range 8 {
				d.Write(region, 0, numbered(10*region+i))
			}
		}
		for region := range count {
			keep = append(keep, 1<<region)
		}
		d.Crash(keep...)
		for region := range 8 {
			want := noughts(1)
			if region < count {
				want = numbered(10*region + region)
			}
			mustLast(t, d, region, want)
		}
	}
}

func TestP6_3CutAtAWrite(t *testing.T) {
	for n := 1; n <= 70; n++ {
		d := disk.New(100)
		d.Cut(0, n, 1<<((n-1)%64))
		for i := range n - 1 {
			mustBe(t, "Write", d.Write(0, i, numbered(i)), api.OK)
		}
		mustBeOff(t, d, false)
		// It stands behind the queue, so that it may be what lasts.
		mustBe(t, "Write", d.Write(0, n-1, numbered(n-1)), api.ErrPower)
		mustBeOff(t, d, true)
		d.On()
		mustRead(t, d, 0, n-1, numbered(n-1))
		for i := range n - 1 {
			want := noughts(1)
			if i == n-1-64 {
				want = numbered(i)
			}
			mustRead(t, d, 0, i, want)
		}
		// That happens once.
		for range 3 * n {
			mustBe(t, "Flush", d.Flush(0), api.OK)
		}
	}
}

func TestP6_3CutAtAFlush(t *testing.T) {
	d := disk.New(3, 1)
	d.Write(1, 0, full('z'))
	d.Cut(0, 4, 5)
	for i := range 3 {
		mustBe(t, "Write", d.Write(0, i, numbered(i)), api.OK)
	}
	mustBe(t, "Flush", d.Flush(0), api.ErrPower)
	mustBeOff(t, d, true)
	// The flush isn't done: what lasts is what is kept, also of other regions.
	mustLast(t, d, 0, numbered(0)+noughts(1)+numbered(2))
	mustLast(t, d, 1, noughts(1))
	d.On()
	mustBeOff(t, d, false)
	mustBe(t, "Flush", d.Flush(1), api.OK)
	mustLast(t, d, 1, noughts(1))
}

// Only what would be answered by OK, of that region, is counted.
func TestP6_3WhatCutCounts(t *testing.T) {
	d := disk.New(2, 2)
	d.Write(1, 1, full('o'))
	d.Cut(1, 2, 0, 3)
	d.Write(1, 2, full('a'))
	d.Write(1, 0, "a")
	d.Write(2, 0, full('a'))
	d.Flush(2)
	d.Read(1, 0)
	d.Read(1, 9)
	d.Image(1)
	d.Sectors(1)
	d.Off()
	for range 5 {
		mustBe(t, "Write", d.Write(0, 0, full('a')), api.OK)
		mustBe(t, "Flush", d.Flush(0), api.OK)
	}
	mustBe(t, "Write", d.Write(1, 0, full('b')), api.OK)
	mustBe(t, "Write of no sector", d.Write(1, 2, full('c')), api.ErrRegion)
	mustBe(t, "Write of no 64 bytes", d.Write(1, 0, "c"), api.ErrArg)
	mustBe(t, "Flush", d.Flush(0), api.OK)
	mustBeOff(t, d, false)
	mustBe(t, "Write", d.Write(1, 0, full('c')), api.ErrPower)
	mustBeOff(t, d, true)
	mustLast(t, d, 0, full('a')+noughts(1))
	mustLast(t, d, 1, full('b')+full('o'))
}

// Lay is no Write: it isn't counted, and doesn't take back what was asked.
func TestP6_3LayIsNotCounted(t *testing.T) {
	d := disk.New(1)
	d.Cut(0, 2)
	d.Lay(0, full('a'))
	d.Lay(0, full('b'))
	mustBe(t, "Flush", d.Flush(0), api.OK)
	mustBe(t, "Flush", d.Flush(0), api.ErrPower)
	mustLast(t, d, 0, full('b'))
}

func TestP6_3CutsThatAskForNothing(t *testing.T) {
	for _, x := range [][2]int{{0, 0}, {0, -1}, {0, math.MinInt}, {1, 0}, {2, 1}, {-1, 1}, {math.MaxInt, 1}, {math.MinInt, 1}} {
		d := disk.New(1, 1)
		for _, ahead := range []int{0, 1, 2} {
			d.Cut(0, ahead, 1)
			d.Cut(x[0], x[1], 1)
			for range 5 {
				mustBe(t, "Write", d.Write(0, 0, full('a')), api.OK)
				mustBe(t, "Flush", d.Flush(1), api.OK)
			}
		}
		mustBeOff(t, d, false)
	}
}

// A new one takes the place of the one ahead, whole: its region, its number, what it keeps.
func TestP6_3ANewCut(t *testing.T) {
	d := disk.New(1, 1)
	d.Cut(0, 2, 3, 3)
	mustBe(t, "Write", d.Write(0, 0, full('a')), api.OK)
	d.Cut(1, 2)
	mustBe(t, "Write", d.Write(0, 0, full('b')), api.OK)
	mustBe(t, "Write", d.Write(1, 0, full('c')), api.OK)
	d.Cut(1, 2, 1)
	mustBe(t, "Write", d.Write(1, 0, full('d')), api.OK)
	mustBe(t, "Write", d.Write(1, 0, full('e')), api.ErrPower)
	mustLast(t, d, 0, full('a'))
	mustLast(t, d, 1, noughts(1))
}

func TestP6_3FarCuts(t *testing.T) {
	d := disk.New(1)
	d.Cut(0, math.MaxInt, 1)
	for range 100 {
		mustBe(t, "Write", d.Write(0, 0, full('a')), api.OK)
	}
	d.Cut(0, 100, 1)
	for range 99 {
		mustBe(t, "Flush", d.Flush(0), api.OK)
	}
	mustBe(t, "Flush", d.Flush(0), api.ErrPower)
}

// What Cut asked for is taken back by Crash and by On.
func TestP6_3TakenBack(t *testing.T) {
	for _, back := range []func(d *disk.Disk){
		func(d *disk.Disk) { d.Crash() },
		func(d *disk.Disk) { d.Crash(math.MaxUint64) },
		func(d *disk.Disk) { d.On() },
	} {
		d := disk.New(1)
		d.Cut(0, 1, 1)
		back(d)
		for range 3 {
			mustBe(t, "Write", d.Write(0, 0, full('a')), api.OK)
		}
		mustBeOff(t, d, false)
		// Also what is asked for while the power is off.
		d.Cut(0, 1)
		mustBe(t, "Flush", d.Flush(0), api.ErrPower)
		d.Cut(0, 1, 1)
		back(d)
		mustBeOff(t, d, false)
		mustBe(t, "Flush", d.Flush(0), api.OK)
	}
}

// On, with the power on, leaves what was written.
func TestP6_3OnLosesNothing(t *testing.T) {
	d := disk.New(1)
	d.Write(0, 0, full('a'))
	d.On()
	mustRead(t, d, 0, 0, full('a'))
	mustBe(t, "Flush", d.Flush(0), api.OK)
	mustLast(t, d, 0, full('a'))
}

func TestP6_3CrashWithThePowerOff(t *testing.T) {
	d := disk.New(2)
	d.Cut(0, 2, 1)
	d.Write(0, 0, full('a'))
	d.Write(0, 1, full('b'))
	mustBeOff(t, d, true)
	d.Write(0, 1, full('c'))
	d.Crash(math.MaxUint64)
	mustBeOff(t, d, false)
	mustLast(t, d, 0, full('a')+noughts(1))
	mustRead(t, d, 0, 1, noughts(1))
}

func TestP6_4Image(t *testing.T) {
	d := disk.New(2, 1)
	for _, region := range []int{-1, 2, math.MinInt, math.MaxInt} {
		d.Lay(region, full('a'))
		mustLast(t, d, region, "")
	}
	d.Write(0, 0, full('a'))
	d.Flush(0)
	d.Write(0, 1, full('b'))
	mustLast(t, d, 0, full('a')+noughts(1))
	d.Cut(0, 2, 2)
	d.Write(0, 1, full('c'))
	d.Flush(0)
	mustBeOff(t, d, true)
	mustLast(t, d, 0, full('a')+full('c'))
	mustLast(t, d, 1, noughts(1))
}

func TestP6_4LayOfAnyLength(t *testing.T) {
	r := rand.New(rand.NewSource(2))
	for _, sectors := range []int{0, 1, 3} {
		d := disk.New(1, sectors)
		for size := range 64*sectors + 70 {
			data := make([]byte, size)
			r.Read(data)
			d.Lay(1, string(data))
			want := (string(data) + noughts(sectors))[:64*sectors]
			mustLast(t, d, 1, want)
			for sector := range sectors {
				mustRead(t, d, 1, sector, want[64*sector:64*(sector+1)])
			}
		}
		d.Lay(1, "")
		mustLast(t, d, 1, noughts(sectors))
		mustLast(t, d, 0, noughts(1))
	}
}

func TestP6_4LayEmptiesTheQueue(t *testing.T) {
	d := disk.New(2, 1)
	d.Write(0, 1, full('a'))
	d.Write(1, 0, full('b'))
	d.Lay(0, "c")
	laid := "c" + noughts(2)[1:]
	mustRead(t, d, 0, 1, noughts(1))
	mustLast(t, d, 0, laid)
	// The other region's queue is as it was.
	mustRead(t, d, 1, 0, full('b'))
	d.Crash(math.MaxUint64, math.MaxUint64)
	mustLast(t, d, 0, laid)
	mustLast(t, d, 1, full('b'))
}

func TestP6_4LayWithThePowerOff(t *testing.T) {
	d := disk.New(1)
	d.Cut(0, 1)
	d.Flush(0)
	d.Lay(0, full('a'))
	mustBeOff(t, d, true)
	mustLast(t, d, 0, full('a'))
	d.On()
	mustRead(t, d, 0, 0, full('a'))
}

// All calls with one region, at whatever others have in hand, leave those as they were.
func TestP6_5RegionsApart(t *testing.T) {
	for region := range 4 {
		d := disk.New(2, 2, 2, 2)
		for other := range 4 {
			d.Write(other, 0, full(byte('a'+other)))
			d.Flush(other)
			d.Write(other, 1, full(byte('A'+other)))
		}
		d.Read(region, 0)
		d.Write(region, 0, full('x'))
		d.Write(region, 1, full('y'))
		d.Write(region, 2, full('z'))
		d.Flush(region)
		d.Lay(region, "laid")
		d.Cut(region, 9, 0, 0, 0, 0)
		d.Image(region)
		d.Sectors(region)
		for other := range 4 {
			if other == region {
				continue
			}
			mustLast(t, d, other, full(byte('a'+other))+noughts(1))
			mustRead(t, d, other, 0, full(byte('a'+other)))
			mustRead(t, d, other, 1, full(byte('A'+other)))
			mustBe(t, "Flush", d.Flush(other), api.OK)
			mustLast(t, d, other, full(byte('a'+other))+full(byte('A'+other)))
		}
	}
}

// A write counts among its own region's, whatever others were written in between.
func TestP6_5WritesAreNumberedByRegion(t *testing.T) {
	d := disk.New(8, 8, 8)
	for i := range 8 {
		for region := range 3 {
			d.Write(region, i, numbered(i))
		}
	}
	d.Crash(1<<0, 1<<7, 1<<3)
	mustLast(t, d, 0, numbered(0)+noughts(7))
	mustLast(t, d, 1, noughts(7)+numbered(7))
	mustLast(t, d, 2, noughts(3)+numbered(3)+noughts(4))
}

// slowDisk is a disk by the chapter's words: what lasts, and a list of all that is queued, of whichever region.
type slowDisk struct {
	sizes   []int
	lasting map[[2]int]string
	queue   []slowWrite
	off     bool
	cut     func(region int) bool // is this call, which would be answered by OK, the one?
	keep    []uint64
}

type slowWrite struct {
	place [2]int
	data  string
}

func (s *slowDisk) has(region, sector int) bool {
	return region >= 0 && region < len(s.sizes) && sector >= 0 && sector < s.sizes[region]
}

func (s *slowDisk) lastingAt(place [2]int) string {
	if data, ok := s.lasting[place]; ok {
		return data
	}
	return noughts(1)
}

func (s *slowDisk) read(region, sector int) (string, api.Errno) {
	if s.off {
		return "", api.ErrPower
	}
	if !s.has(region, sector) {
		return "", api.ErrRegion
	}
	data := s.lastingAt([2]int{region, sector})
	for _, w := range s.queue {
		if w.place == [2]int{region, sector} {
			data = w.data
		}
	}
	return data, api.OK
}

func (s *slowDisk) write(region, sector int, data string) api.Errno {
	if _, e := s.read(region, sector); e != api.OK {
		return e
	}
	if len(data) != 64 {
		return api.ErrArg
	}
	s.queue = append(s.queue, slowWrite{[2]int{region, sector}, data})
	return s.happens(region, func() {})
}

func (s *slowDisk) flush(region int) api.Errno {
	if s.off {
		return api.ErrPower
	}
	if region < 0 || region >= len(s.sizes) {
		return api.ErrRegion
	}
	return s.happens(region, func() { s.settle(region, func(int) bool { return true }) })
}

func (s *slowDisk) happens(region int, done func()) api.Errno {
	if s.cut != nil && s.cut(region) {
		s.lose(s.keep)
		s.off, s.cut = true, nil
		return api.ErrPower
	}
	done()
	return api.OK
}

// settle: a region's writes leave the queue, and become lasting if they are kept.
func (s *slowDisk) settle(region int, kept func(i int) bool) {
	var left []slowWrite
	i := 0
	for _, w := range s.queue {
		if w.place[0] != region {
			left = append(left, w)
			continue
		}
		if kept(i) {
			s.lasting[w.place] = w.data
		}
		i++
	}
	s.queue = left
}

func (s *slowDisk) lose(keep []uint64) {
	for region := range s.sizes {
		s.settle(region, func(i int) bool { return region < len(keep) && keep[region]&(1<<(uint(i)%64)) != 0 })
	}
}

func (s *slowDisk) askCut(region, n int, keep []uint64) {
	s.cut, s.keep = nil, slices.Clone(keep)
	if n < 1 || region < 0 || region >= len(s.sizes) {
		return
	}
	count := 0
	s.cut = func(called int) bool {
		if called == region {
			count++
		}
		return called == region && count == n
	}
}

func (s *slowDisk) crash(keep []uint64) {
	if !s.off {
		s.lose(keep)
	}
	s.off, s.cut = false, nil
}

func (s *slowDisk) lay(region int, data string) {
	if region < 0 || region >= len(s.sizes) {
		return
	}
	s.settle(region, func(int) bool { return false })
	data = (data + noughts(s.sizes[region]))[:64*s.sizes[region]]
	for sector := range s.sizes[region] {
		s.lasting[[2]int{region, sector}] = data[64*sector : 64*(sector+1)]
	}
}

// isAs: is all that can be told of the disk what the slow one tells?
func (s *slowDisk) isAs(t *testing.T, d *disk.Disk) {
	t.Helper()
	if d.Off() != s.off {
		t.Fatalf("Off is %v", d.Off())
	}
	for region, size := range s.sizes {
		var image strings.Builder
		for sector := range size {
			image.WriteString(s.lastingAt([2]int{region, sector}))
			want, wantE := s.read(region, sector)
			if got, e := d.Read(region, sector); got != want || e != wantE {
				t.Fatalf("Read(%d, %d) = %.8q, %d, want %.8q, %d", region, sector, got, e, want, wantE)
			}
		}
		if got := d.Image(region); got != image.String() {
			t.Fatalf("Image(%d) = %q, want %q", region, got, image.String())
		}
	}
}

// walk: a call by chance, of the disk and of the slow one.
func (s *slowDisk) walk(t *testing.T, d *disk.Disk, r *rand.Rand, number int) {
	t.Helper()
	region, sector := r.Intn(len(s.sizes)+2)-1, r.Intn(5)-1
	keep := make([]uint64, r.Intn(len(s.sizes)+2))
	for i := range keep {
		keep[i] = r.Uint64()
	}
	var got, want api.Errno
	switch r.Intn(20) {
	case 0:
		n := r.Intn(8) - 1
		d.Cut(region, n, keep...)
		s.askCut(region, n, keep)
	case 1:
		d.Crash(keep...)
		s.crash(keep)
	case 2:
		d.On()
		s.off, s.cut = false, nil
	case 3:
		data := strings.Repeat("l", r.Intn(300))
		d.Lay(region, data)
		s.lay(region, data)
	case 4, 5:
		got, want = d.Flush(region), s.flush(region)
	case 6:
		data := strings.Repeat("x", r.Intn(130))
		got, want = d.Write(region, sector, data), s.write(region, sector, data)
	default:
		got, want = d.Write(region, sector, numbered(number)), s.write(region, sector, numbered(number))
	}
	if got != want {
		t.Fatalf("%d, want %d", got, want)
	}
}

func TestP6AnyCalls(t *testing.T) {
	r := rand.New(rand.NewSource(3))
	for range 150 {
		sizes := make([]int, 1+r.Intn(4))
		for i := range sizes {
			sizes[i] = r.Intn(4)
		}
		d, s := disk.New(sizes...), &slowDisk{sizes: slices.Clone(sizes), lasting: map[[2]int]string{}}
		for number := range 150 {
			s.walk(t, d, r, number)
			s.isAs(t, d)
		}
	}
}

// What is handed in is neither changed nor kept (DOC.md, rule 4).
func TestArgumentsAreNotKept(t *testing.T) {
	sizes := []int{2, 1}
	d := disk.New(sizes...)
	sizes[0], sizes[1] = 7, 7
	if d.Sectors(0) != 2 || d.Sectors(1) != 1 {
		t.Error("New keeps the sizes")
	}
	keep := []uint64{1, 0}
	d.Cut(0, 1, keep...)
	keep[0], keep[1] = 0, 1
	d.Write(1, 0, full('a'))
	d.Write(0, 0, full('b'))
	mustLast(t, d, 0, full('b')+noughts(1))
	mustLast(t, d, 1, noughts(1))
	if !slices.Equal(keep, []uint64{0, 1}) {
		t.Errorf("keep is %v", keep)
	}
	// What lies behind a list's length isn't read.
	long := []int{1, 2, 3}
	if short := disk.New(long[:1]...); short.Sectors(1) != 0 {
		t.Error("New reads behind the sizes")
	}
	d.On()
	d.Write(1, 0, full('c'))
	all := []uint64{0, math.MaxUint64}
	d.Crash(all[:1]...)
	mustLast(t, d, 1, noughts(1))
	d.Cut(1, 1, all[:1]...)
	d.Write(1, 0, full('d'))
	mustLast(t, d, 1, noughts(1))
}

// A text that is answered is new memory (DOC.md, rule 4).
func TestAnswersAreNewMemory(t *testing.T) {
	data := full('a')
	d := disk.New(1)
	d.Write(0, 0, data)
	first, _ := d.Read(0, 0)
	second, _ := d.Read(0, 0)
	if unsafe.StringData(first) == unsafe.StringData(data) || unsafe.StringData(first) == unsafe.StringData(second) {
		t.Error("Read, ahead of Flush, shares memory")
	}
	d.Flush(0)
	third, _ := d.Read(0, 0)
	fourth, _ := d.Read(0, 0)
	if unsafe.StringData(third) == unsafe.StringData(data) || unsafe.StringData(third) == unsafe.StringData(fourth) {
		t.Error("Read, behind Flush, shares memory")
	}
	d.Lay(0, data)
	image, again := d.Image(0), d.Image(0)
	if unsafe.StringData(image) == unsafe.StringData(data) || unsafe.StringData(image) == unsafe.StringData(again) {
		t.Error("Image shares memory")
	}
	// What was answered stays as it was.
	d.Write(0, 0, full('b'))
	d.Flush(0)
	if first != data || third != data || image != data {
		t.Error("an answer changes behind later calls")
	}
}

// Every call ends without a panic, whatever it is given.
func TestP1AnyArguments(t *testing.T) {
	numbers := []int{0, 1, 2, 7, 8, 63, 64, -1, 4096, math.MaxInt32, math.MinInt32, math.MaxInt/64 + 1, math.MaxInt - 1, math.MaxInt, math.MinInt}
	for _, d := range []*disk.Disk{nil, {}, disk.New(), disk.New(numbers...), disk.New(1, 0, 3)} {
		for _, a := range numbers {
			d.Sectors(a)
			d.Flush(a)
			d.Image(a)
			d.Lay(a, "abc")
			for _, b := range numbers {
				d.Read(a, b)
				d.Write(a, b, full('x'))
				d.Cut(a, b, 1, 2, 3, 4, 5, 6, 7, 8, 9)
				d.Write(a, 0, full('y'))
				d.Flush(a)
			}
			d.Off()
			d.Crash(make([]uint64, 20)...)
			d.On()
		}
	}
}

// Two disks have nothing to do with one another.
func TestP2DisksApart(t *testing.T) {
	a, b := disk.New(2, 1), disk.New(2, 1)
	b.Write(0, 0, full('b'))
	b.Flush(0)
	b.Write(0, 1, full('c'))
	b.Cut(0, 2, 1)
	a.Write(0, 0, full('a'))
	a.Flush(0)
	a.Lay(1, full('l'))
	a.Cut(0, 1, 0)
	a.Write(0, 1, full('a'))
	mustBeOff(t, a, true)
	mustBeOff(t, b, false)
	mustRead(t, b, 0, 0, full('b'))
	mustRead(t, b, 0, 1, full('c'))
	mustLast(t, b, 1, noughts(1))
	mustBe(t, "Write", b.Write(1, 0, full('d')), api.OK)
	mustBe(t, "Write", b.Write(0, 1, full('e')), api.OK)
	a.Crash(math.MaxUint64)
	a.On()
	mustBe(t, "Flush", b.Flush(0), api.ErrPower)
	mustBeOff(t, a, false)
	mustLast(t, a, 0, full('a')+noughts(1))
	mustLast(t, b, 0, full('b')+full('c'))
}
