package stream_test

import (
	"math"
	"math/rand"
	"slices"
	"testing"

	"precinct/api"
	"precinct/disk"
	"precinct/stream"
)

// begun: a stream on a new disk that has done these calls, and the model of it.
func begun(t *testing.T, sectors int, ahead []op) (*disk.Disk, *stream.Stream, model, string) {
	t.Helper()
	image := noughts(64 * sectors)
	d := laid(image)
	s := mustOpen(t, d, 0)
	m, steps, _ := open(image)
	image = lasting(image, steps, 0, 0)
	for _, o := range ahead {
		next, steps, e := o.steps(m)
		mustBe(t, "a call ahead", o.do(s), e)
		image, m = lasting(image, steps, 0, 0), next
	}
	return d, s, m, image
}

// masks: all ways in which so many writes may be kept; of many writes some of them.
func masks(r *rand.Rand, writes int) []uint64 {
	var keep []uint64
	if writes <= 6 {
		for k := range uint64(1) << writes {
			keep = append(keep, k)
		}
		return keep
	}
	for i := range writes {
		keep = append(keep, 1<<(i%64), ^(uint64(1) << (i % 64)), 1<<(i%64)-1, ^(uint64(1)<<(i%64) - 1))
	}
	for range 20 {
		keep = append(keep, r.Uint64())
	}
	return append(keep, 0, math.MaxUint64)
}

// cases: calls ahead, and the one that is under way when the power fails.
func cases() [][]op {
	put := func(bodies ...string) op { return op{bodies: bodies} }
	reset := func(bodies ...string) op { return op{reset: true, bodies: bodies} }
	return [][]op{
		{put("a")}, {put(text(49))}, {put(text(48))}, {put(text(60))}, {put(text(158))},
		{put("a"), put("b")}, {put(text(49)), put("b")}, {put(text(49)), put(text(49))}, {put("a"), put(text(41))}, {put("a"), put(text(42))},
		{put(text(30)), put(text(100))}, {put("a"), put(text(120))}, {put(text(104)), put(text(49)), put("c")},
		{reset()}, {reset("a", "b")}, {reset(text(150))},
		{put("a"), reset()}, {put("a"), reset("b")}, {put("a"), reset("b", text(120))}, {put(text(120)), reset("b")}, {put(text(120)), reset(text(119), "b")},
		{put("a"), reset("b"), put("c")}, {put("a"), reset("b"), reset("c")}, {put("a"), reset(text(49)), put(text(49))},
		// Elder cells stand where the new ones come.
		{reset(text(150)), reset("a"), reset("b"), put(text(49))}, {reset(text(150)), reset(text(150)), reset("a"), put(text(140))},
	}
}

// The power fails at each of the calls that an op makes, with any of its
// writes kept: what lasts is just what the model says, so that all calls of the
// disk, and their order, are held.
func TestP8_3P8_4P8_6EveryCallOfTheDisk(t *testing.T) {
	r := rand.New(rand.NewSource(3))
	for i, ops := range cases() {
		for _, sectors := range []int{7, 8, 30} {
			ahead, last := ops[:len(ops)-1], ops[len(ops)-1]
			_, _, m, image := begun(t, sectors, ahead)
			next, steps, e := last.steps(m)
			if e != api.OK {
				t.Fatalf("case %d doesn't go on: %d", i, e)
			}
			for n := 1; n <= len(steps)+1; n++ {
				for _, keep := range masks(r, writesAhead(steps, n)) {
					d, s, _, _ := begun(t, sectors, ahead)
					d.Cut(0, n, keep)
					e := last.do(s)
					if n > len(steps) {
						mustBe(t, "a call that the power outlasts", e, api.OK)
						mustHave(t, s, next)
						continue
					}
					mustBe(t, "a call that meets the loss of power", e, api.ErrPower)
					mustLast(t, d, 0, lasting(image, steps, n, keep))
					mustBeBroken(t, d, s, m)
					mustHaveEither(t, d, m.records, next.records)
					if t.Failed() {
						t.Fatalf("case %d, %d sectors, call %d, kept %b", i, sectors, n, keep)
					}
				}
			}
		}
	}
}

// mustBeBroken: behind an error of the disk a stream tells what it told, and does nothing more.
func mustBeBroken(t *testing.T, d *disk.Disk, s *stream.Stream, m model) {
	t.Helper()
	image := d.Image(0)
	for range 2 {
		mustHave(t, s, m)
		// ErrNone comes ahead of what is said of bodies and of room.
		for _, body := range []string{"a", "", text(4097), text(4096)} {
			mustBe(t, "Append behind an error", s.Append(body), api.ErrNone)
			mustBe(t, "Reset behind an error", s.Reset(body), api.ErrNone)
		}
		mustBe(t, "Reset behind an error", s.Reset(), api.ErrNone)
		d.On()
	}
	d.Crash(math.MaxUint64)
	mustLast(t, d, 0, image)
}

// mustHaveEither: the region has the one records or the others; so has it behind an Open.
func mustHaveEither(t *testing.T, d *disk.Disk, one, other []string) {
	t.Helper()
	_, records, e := stream.Open(d, 0)
	if e != api.OK || !slices.Equal(records, one) && !slices.Equal(records, other) {
		t.Errorf("behind the loss of power: %.60q, %d, want %.60q or %.60q", records, e, one, other)
	}
	mustOpen(t, d, 0, records...)
}

// An Open, too, may be what is under way; and so may the one behind that.
func TestP8_2P8_6OpenUnderWay(t *testing.T) {
	r := rand.New(rand.NewSource(4))
	for _, ops := range cases() {
		for _, sectors := range []int{7, 10} {
			_, _, _, image := begun(t, sectors, ops)
			cutOpens(t, r, image, 3)
			// As an Append that was lost leaves it.
			_, _, m, before := begun(t, sectors, ops[:len(ops)-1])
			_, steps, _ := ops[len(ops)-1].steps(m)
			for n := range steps {
				cutOpens(t, r, lasting(before, steps, n+1, r.Uint64()), 1)
			}
		}
	}
}

// cutOpens: the power fails at each call of an Open of a region with these bytes; and, so many times, of the Open behind it.
func cutOpens(t *testing.T, r *rand.Rand, image string, again int) {
	t.Helper()
	m, steps, _ := open(image)
	for n := 1; n <= len(steps); n++ {
		for i, keep := range masks(r, writesAhead(steps, n)) {
			d := laid(image)
			d.Cut(0, n, keep)
			mustRefuse(t, d, 0, api.ErrPower)
			left := lasting(image, steps, n, keep)
			mustLast(t, d, 0, left)
			d.On()
			if again > 1 && i == n {
				cutOpens(t, r, left, again-1)
			}
			s := mustOpen(t, d, 0, m.records...)
			// Whatever is left of what failed: a record more comes behind those that there were.
			if s.Append("more") == api.OK {
				mustOpen(t, d, 0, append(slices.Clone(m.records), "more")...)
			}
		}
	}
}

// A long life on one disk, with many losses of power.
func TestP8_6ALongLife(t *testing.T) {
	r := rand.New(rand.NewSource(5))
	for range 40 {
		d := disk.New(3 + r.Intn(20))
		var told, perhaps []string
		for range 60 {
			d.Crash(r.Uint64())
			if r.Intn(3) == 0 {
				d.Cut(0, 1+r.Intn(12), r.Uint64())
			}
			s, records, e := stream.Open(d, 0)
			if e == api.ErrPower {
				continue
			}
			if e != api.OK || !slices.Equal(records, told) && !slices.Equal(records, perhaps) {
				t.Fatalf("Open = %q, %d, want %q or %q", records, e, told, perhaps)
			}
			told, perhaps = live(r, d, s, records)
		}
	}
}

// live: some calls of a stream, perhaps up to a loss of power: what was told; and what may be instead.
func live(r *rand.Rand, d *disk.Disk, s *stream.Stream, told []string) (sure, perhaps []string) {
	if r.Intn(3) != 0 {
		d.Cut(0, 1+r.Intn(30), r.Uint64())
	}
	for range r.Intn(10) {
		o := anyOp(r, s.Left())
		then := append(slices.Clone(told), o.bodies...)
		if o.reset {
			then = o.bodies
		}
		switch o.do(s) {
		case api.OK:
			told = then
		case api.ErrPower:
			return told, then
		}
	}
	return told, told
}

// The power may fail while another region is used: what was told lasts all the same.
func TestP8_6PowerLostElsewhere(t *testing.T) {
	d := disk.New(5, 5)
	s := mustOpen(t, d, 0)
	mustBe(t, "Append", s.Append("a"), api.OK)
	d.Cut(1, 1)
	mustRefuse(t, d, 1, api.ErrPower)
	m := model{sectors: 5, gen: 1, records: []string{"a"}}
	mustBe(t, "Append", s.Append("b"), api.ErrPower)
	mustBeBroken(t, d, s, m)
	mustOpen(t, d, 0, "a")
	// A loss of power that no call met makes no difference to a stream.
	s = mustOpen(t, d, 1)
	mustBe(t, "Append", s.Append("c"), api.OK)
	d.Crash()
	mustBe(t, "Append", s.Append("d"), api.OK)
	mustBe(t, "Reset", s.Reset("e"), api.OK)
	d.Crash()
	mustOpen(t, d, 1, "e")
}

// No call of a stream's comes to another region: nothing is counted there, flushed or changed.
func TestP8_6NoCallForAnotherRegion(t *testing.T) {
	for region := range 3 {
		d := disk.New(7, 7, 7)
		for other := range 3 {
			if other != region {
				d.Write(other, 1, slowCell(5, 0, "x"))
			}
		}
		for other := range 3 {
			if other == region {
				continue
			}
			d.Cut(other, 1)
			s := mustOpen(t, d, region)
			mustBe(t, "Append", s.Append(text(100)), api.OK)
			mustBe(t, "Reset", s.Reset("a", text(90)), api.OK)
			mustBe(t, "Append", s.Append("b"), api.OK)
			mustBe(t, "Append", s.Append(text(4000)), api.ErrFull)
			mustOpen(t, d, region, "a", text(90), "b")
			mustBe(t, "Reset", s.Reset(), api.OK)
			if d.Off() {
				t.Fatalf("a stream of region %d made a call for region %d", region, other)
			}
			mustLast(t, d, other, noughts(7*64))
		}
		d.Crash(1, 1, 1)
		for other := range 3 {
			if other != region {
				mustLast(t, d, other, noughts(64)+slowCell(5, 0, "x")+noughts(5*64))
			}
		}
	}
}

// Streams of other disks, and of other regions, have nothing to do with one another.
func TestP2StreamsApart(t *testing.T) {
	r := rand.New(rand.NewSource(6))
	shared, alone := disk.New(9, 9, 9), []*disk.Disk{disk.New(9), disk.New(9), disk.New(9)}
	var many, single []*stream.Stream
	for i := range 3 {
		many = append(many, mustOpen(t, shared, i))
		single = append(single, mustOpen(t, alone[i], 0))
	}
	for range 500 {
		i := r.Intn(3)
		o := anyOp(r, single[i].Left())
		mustBe(t, "a call", o.do(many[i]), o.do(single[i]))
		for i := range 3 {
			mustLast(t, shared, i, alone[i].Image(0))
			if many[i].Left() != single[i].Left() || many[i].Gen() != single[i].Gen() {
				t.Fatalf("%d, %d", many[i].Left(), single[i].Left())
			}
		}
	}
}

// What is handed in is neither changed nor kept; what is answered is new.
func TestMemory(t *testing.T) {
	d := disk.New(9)
	s := mustOpen(t, d, 0)
	list := []string{"a", "b", "behind"}
	mustBe(t, "Reset", s.Reset(list[:2]...), api.OK)
	if !slices.Equal(list, []string{"a", "b", "behind"}) {
		t.Errorf("Reset changed what it was handed: %q", list)
	}
	list[0], list[1] = "x", "y"
	mustBe(t, "Append", s.Append("c"), api.OK)
	first, second := mustRecords(t, d), mustRecords(t, d)
	first[0] = "z"
	_ = append(first[:1], "z")
	if !slices.Equal(second, []string{"a", "b", "c"}) {
		t.Errorf("two answers of Open share memory: %q", second)
	}
	s, l, _ := stream.Open(d, 0)
	l[0] = "z"
	mustBe(t, "Append", s.Append("d"), api.OK)
	mustOpen(t, d, 0, "a", "b", "c", "d")
}

func mustRecords(t *testing.T, d *disk.Disk) []string {
	t.Helper()
	_, records, e := stream.Open(d, 0)
	mustBe(t, "Open", e, api.OK)
	return records
}
