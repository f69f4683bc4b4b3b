package stream_test

import (
	"math"
	"math/rand"
	"slices"
	"strings"
	"testing"

	"precinct/api"
	"precinct/disk"
	"precinct/stream"
)

func mustBe(t *testing.T, what string, got, want api.Errno) {
	t.Helper()
	if got != want {
		t.Errorf("%s: %d, want %d", what, got, want)
	}
}

func mustLast(t *testing.T, d *disk.Disk, region int, want string) {
	t.Helper()
	got := d.Image(region)
	if got == want {
		return
	}
	for i := range min(len(got), len(want)) / 64 {
		if got[64*i:64*i+64] != want[64*i:64*i+64] {
			t.Errorf("sector %d of region %d is %x, want %x", i, region, got[64*i:64*i+64], want[64*i:64*i+64])
			return
		}
	}
	t.Errorf("region %d has %d bytes, want %d", region, len(got), len(want))
}

func mustOpen(t *testing.T, d *disk.Disk, region int, want ...string) *stream.Stream {
	t.Helper()
	s, records, e := stream.Open(d, region)
	if e != api.OK || s == nil || !slices.Equal(records, want) {
		t.Fatalf("Open = %.40q, %d, want %.40q", records, e, want)
	}
	return s
}

func mustRefuse(t *testing.T, d *disk.Disk, region int, want api.Errno) {
	t.Helper()
	s, records, e := stream.Open(d, region)
	if s != nil || len(records) != 0 || e != want {
		t.Errorf("Open of region %d: %v, %q, %d, want %d", region, s != nil, records, e, want)
	}
}

// mustHave: is the stream where the model is?
func mustHave(t *testing.T, s *stream.Stream, m model) {
	t.Helper()
	if s.Left() != m.left() || s.Gen() != m.gen {
		t.Errorf("Left is %d, Gen %d, want %d, %d", s.Left(), s.Gen(), m.left(), m.gen)
	}
}

// regionOf: a region's bytes: a head, and the sectors of its two halves.
func regionOf(sectors int, head string, halves ...[]string) string {
	b := []byte(head + noughts(64*sectors-64))
	for half, cells := range halves {
		copy(b[64*slowStart(half, sectors):], strings.Join(cells, ""))
	}
	return string(b)
}

func laid(image string) *disk.Disk {
	d := disk.New(len(image) / 64)
	d.Lay(0, image)
	return d
}

func TestP8_1Capacity(t *testing.T) {
	for _, x := range [][2]int{
		{math.MinInt, 0}, {-1, 0}, {0, 0}, {1, 0}, {2, 0},
		{3, 54}, {4, 54}, {5, 109}, {6, 109}, {7, 164}, {21, 549},
		{4094, 112529}, {4095, 112584}, {4096, 112584}, {4097, 112584}, {4098, 112584}, {5000, 112584}, {math.MaxInt, 112584},
	} {
		if got := stream.Capacity(x[0]); got != x[1] {
			t.Errorf("Capacity(%d) = %d, want %d", x[0], got, x[1])
		}
	}
	for sectors := -5; sectors < 4200; sectors++ {
		if got, want := stream.Capacity(sectors), slowCapacity(sectors); got != want {
			t.Fatalf("Capacity(%d) = %d, want %d", sectors, got, want)
		}
	}
}

func TestP8_2OpenOfANewRegion(t *testing.T) {
	for _, sectors := range []int{3, 4, 5, 6, 21, 4095, 4096} {
		d := disk.New(sectors)
		s := mustOpen(t, d, 0)
		if s.Gen() != 1 || s.Left() != stream.Capacity(sectors) {
			t.Errorf("%d sectors: Gen is %d, Left %d", sectors, s.Gen(), s.Left())
		}
		mustLast(t, d, 0, regionOf(sectors, slowHead(1, 0), []string{slowCell(1, 0, "")}))
	}
}

func TestP8_2Refused(t *testing.T) {
	mustRefuse(t, nil, 0, api.ErrNil)
	mustRefuse(t, nil, -1, api.ErrNil)
	mustRefuse(t, &disk.Disk{}, 0, api.ErrRegion)
	full := regionOf(3, slowHead(maxGen, 0))
	for _, off := range []bool{false, true} {
		d := disk.New(3, 2, 1, 0, 4, 3)
		d.Lay(5, full)
		if off {
			d.Cut(0, 1)
			d.Flush(0)
		}
		// A region that won't do is told ahead of the power.
		for _, region := range []int{1, 2, 3, 6, 7, 8, -1, math.MinInt, math.MaxInt} {
			mustRefuse(t, d, region, api.ErrRegion)
		}
		if off {
			// The power is told ahead of what the region has.
			mustRefuse(t, d, 0, api.ErrPower)
			mustRefuse(t, d, 5, api.ErrPower)
			d.On()
		}
		mustRefuse(t, d, 5, api.ErrFull)
		mustLast(t, d, 5, full)
		mustLast(t, d, 0, noughts(3*64))
		mustOpen(t, d, 0)
		mustOpen(t, d, 4)
	}
}

// What is refused writes nothing: no call of it is counted by Cut.
func TestP8_2ErrFull(t *testing.T) {
	// As many bytes of frames as h cells hold are one more than there is room for.
	most, over := slowFrame(text(60))+slowFrame(text(37)), slowFrame(text(60))+slowFrame(text(38))
	if len(most) != 109 || len(over) != 110 {
		t.Fatalf("%d, %d", len(most), len(over))
	}
	for i, x := range []struct {
		image   string
		e       api.Errno
		gen     int64
		records []string
	}{
		{regionOf(5, slowHead(maxGen, 0)), api.ErrFull, 0, nil},
		{regionOf(5, slowHead(maxGen, 1), nil, slowCells(maxGen, slowFrame("a"))), api.ErrFull, 0, nil},
		{regionOf(5, slowHead(1, 0), nil, []string{slowCell(maxGen, 9, "x")}), api.ErrFull, 0, nil},
		{regionOf(5, slowHead(1, 0), []string{noughts(64), slowCell(maxGen, 0, "")}), api.ErrFull, 0, nil},
		{regionOf(5, noughts(64), []string{slowCell(maxGen, 0, "")}), api.ErrFull, 0, nil},
		{regionOf(5, noughts(64), nil, []string{noughts(64), slowCell(maxGen, 0, "")}), api.ErrFull, 0, nil},
		{regionOf(5, slowHead(maxGen-1, 0)), api.OK, maxGen, nil},
		{regionOf(5, slowHead(2, 0), slowCells(2, most)), api.OK, 3, []string{text(60), text(37)}},
		{regionOf(5, slowHead(2, 0), slowCells(2, over)[:2]), api.ErrFull, 0, nil},
		{regionOf(5, slowHead(2, 1), nil, slowCells(2, over)[:2]), api.ErrFull, 0, nil},
		// Full cells, but with bytes behind the frames.
		{regionOf(5, slowHead(2, 1), nil, slowCells(2, most+"x")[:2]), api.OK, 3, []string{text(60), text(37)}},
		// What would go on behind the half isn't read: neither in the other one, nor in the sector that no half has.
		{regionOf(5, slowHead(2, 0), slowCells(2, slowFrame("a")+slowFrame(text(120)))), api.OK, 3, []string{"a"}},
		{regionOf(6, slowHead(2, 1), nil, slowCells(2, slowFrame("a")+slowFrame(text(120)))), api.OK, 3, []string{"a"}},
		// Nor does that sector count for the greatest generation.
		{regionOf(6, slowHead(2, 1))[:5*64] + slowCell(maxGen, 0, ""), api.OK, 3, nil},
	} {
		d := laid(x.image)
		if x.e != api.OK {
			d.Cut(0, 1)
			mustRefuse(t, d, 0, x.e)
			if d.Off() || d.Image(0) != x.image {
				t.Errorf("%d: what is refused made a call", i)
			}
			continue
		}
		if s := mustOpen(t, d, 0, x.records...); s.Gen() != x.gen {
			t.Errorf("%d: Gen is %d, want %d", i, s.Gen(), x.gen)
		}
	}
}

func TestP8_2TheHalfThatTheHeadDoesNotName(t *testing.T) {
	a, b := []string{"one", text(70)}, []string{"two"}
	half0, half1 := slowCells(7, slowFrames(a)), slowCells(9, slowFrames(b))
	for _, x := range []struct {
		head    string
		records []string
		gen     int64
		half    int
	}{
		{slowHead(7, 0), a, 10, 1},
		{slowHead(9, 1), b, 10, 0},
		// Cells of another generation than the head's.
		{slowHead(9, 0), nil, 10, 1},
		{slowHead(8, 1), nil, 10, 0},
		{slowHead(12, 1), nil, 13, 0},
		{slowHead(1<<40, 0), nil, 1<<40 + 1, 1},
		// No heads.
		{noughts(64), nil, 10, 0},
		{strings.Repeat("\xff", 64), nil, 10, 0},
		{slowHead(7, 2), nil, 10, 0},
		{slowHead(7, 255), nil, 10, 0},
		{slowHead(0, 0), nil, 10, 0},
		{slowHead(0, 1), nil, 10, 0},
		{"precinct" + slowHead(7, 0)[8:], nil, 10, 0},
		{slowHead(7, 0)[:63] + "\x01", nil, 10, 0},
		{slowHead(7, 0)[:15] + "\x01" + noughts(48), nil, 10, 0},
		{slowHead(12, 1)[:63] + "\x01", nil, 10, 0},
	} {
		image := regionOf(9, x.head, half0, half1)
		d := laid(image)
		s := mustOpen(t, d, 0, x.records...)
		mustHave(t, s, model{sectors: 9, half: x.half, gen: x.gen, records: x.records})
		want := []byte(image)
		copy(want, slowHead(x.gen, x.half))
		copy(want[64*slowStart(x.half, 9):], strings.Join(slowCells(x.gen, slowFrames(x.records)), ""))
		mustLast(t, d, 0, string(want))
	}
}

// A region's bytes with some of them spoilt: Open does just what the chapter says of them.
func TestP8_2SpoiltRegions(t *testing.T) {
	r := rand.New(rand.NewSource(1))
	for range 6000 {
		sectors := 3 + r.Intn(9)
		gens := []int64{int64(1 + r.Intn(3)), int64(1 + r.Intn(3))}
		var halves [][]string
		for half := range 2 {
			data := anyRecordFrames(r, (sectors-1)/2*room)
			cells := slowCells(gens[half], data)
			halves = append(halves, cells[:min(len(cells), (sectors-1)/2)])
		}
		half := r.Intn(2)
		b := []byte(regionOf(sectors, slowHead(gens[half], half), halves...))
		for range r.Intn(4) {
			at := r.Intn(len(b))
			if r.Intn(3) == 0 {
				at = r.Intn(64)
			}
			b[at] ^= 1 << r.Intn(8)
		}
		mustOpenByTheModel(t, string(b))
	}
}

// anyRecordFrames: frames of records, some of which may be cut off, of at most so many bytes.
func anyRecordFrames(r *rand.Rand, most int) string {
	data := ""
	for len(data) < most && r.Intn(8) != 0 {
		data += slowFrame(anyText(r, 1+r.Intn(60)))
	}
	return data[:min(len(data), most)]
}

func mustOpenByTheModel(t *testing.T, image string) {
	t.Helper()
	d := laid(image)
	m, steps, wantE := open(image)
	s, records, e := stream.Open(d, 0)
	if e != wantE {
		t.Fatalf("Open = %d, want %d, of %x", e, wantE, image)
	}
	if e != api.OK {
		if s != nil || len(records) != 0 || d.Image(0) != image {
			t.Fatalf("Open of %x, refused, answers or changes something", image)
		}
		return
	}
	if !slices.Equal(records, m.records) || d.Image(0) != lasting(image, steps, 0, 0) {
		t.Fatalf("Open = %q, want %q, of %x", records, m.records, image)
	}
	mustHave(t, s, m)
}

// What wasn't flushed yet is read, too, and lasts behind Open.
func TestP8_2WhatIsNotFlushed(t *testing.T) {
	d := disk.New(5)
	d.Write(0, 0, slowHead(4, 1))
	d.Write(0, 3, slowCell(4, 0, slowFrame("a")))
	s := mustOpen(t, d, 0, "a")
	d.Crash()
	mustLast(t, d, 0, regionOf(5, slowHead(5, 0), slowCells(5, slowFrame("a")), slowCells(4, slowFrame("a"))))
	if s.Gen() != 5 {
		t.Errorf("Gen is %d", s.Gen())
	}
}

func TestP8_3Reset(t *testing.T) {
	d := disk.New(9)
	s := mustOpen(t, d, 0)
	m, _, _ := open(noughts(9 * 64))
	for _, bodies := range [][]string{{"x", "y"}, {}, {text(49)}, {text(48), "z"}, {text(213)}, {"\x00", noughts(3)}, {text(100), text(101)}, nil, {"a", "a", "a"}} {
		image := d.Image(0)
		next, steps, _ := m.reset(bodies...)
		mustBe(t, "Reset", s.Reset(bodies...), api.OK)
		mustHave(t, s, next)
		mustLast(t, d, 0, lasting(image, steps, 0, 0))
		if f := slowFind(d.Image(0)); !slices.Equal(f.records, bodies) {
			t.Errorf("the region has %q, want %q", f.records, bodies)
		}
		m = next
	}
}

func TestP8_3ResetRefused(t *testing.T) {
	var none *stream.Stream
	mustBe(t, "Reset of nil", none.Reset(), api.ErrNil)
	mustBe(t, "Reset of nil", none.Reset(""), api.ErrNil)
	d := disk.New(5)
	s := mustOpen(t, d, 0)
	mustBe(t, "Append", s.Append("kept"), api.OK)
	image := d.Image(0)
	d.Cut(0, 1)
	long := text(4097)
	for i, x := range []struct {
		bodies []string
		e      api.Errno
	}{
		{[]string{""}, api.ErrArg}, {[]string{"a", ""}, api.ErrArg}, {[]string{long}, api.ErrLong}, {[]string{"a", long}, api.ErrLong},
		{[]string{long, ""}, api.ErrLong}, {[]string{"", long}, api.ErrArg}, {[]string{"a", long, "b", ""}, api.ErrLong},
		// A body's error is told ahead of the room, wherever it stands.
		{[]string{text(200), ""}, api.ErrArg}, {[]string{text(4096), text(4096), long}, api.ErrLong},
		{[]string{text(104)}, api.ErrFull}, {[]string{text(200)}, api.ErrFull}, {[]string{text(4096)}, api.ErrFull},
		{[]string{text(50), text(48)}, api.ErrFull}, {strings.Split(text(16), ""), api.ErrFull},
	} {
		if e := s.Reset(x.bodies...); e != x.e {
			t.Errorf("%d: Reset = %d, want %d", i, e, x.e)
		}
		if d.Off() || d.Image(0) != image || s.Gen() != 1 || s.Left() != 99 {
			t.Fatalf("%d: what is refused changed something", i)
		}
	}
	d.Cut(0, 0)
	for _, most := range [][]string{{text(103)}, {text(50), text(47)}, strings.Split(text(15), "")} {
		mustBe(t, "Reset of as much as there is room for", s.Reset(most...), api.OK)
	}
	mustOpen(t, d, 0, strings.Split(text(15), "")...)
}

func TestP8_3TheGreatestGeneration(t *testing.T) {
	d := laid(regionOf(5, slowHead(maxGen-2, 1), nil, slowCells(maxGen-2, slowFrame("a"))))
	s := mustOpen(t, d, 0, "a")
	mustBe(t, "Reset", s.Reset("b"), api.OK)
	if s.Gen() != maxGen {
		t.Fatalf("Gen is %d", s.Gen())
	}
	image := d.Image(0)
	for range 2 {
		mustBe(t, "Reset", s.Reset(), api.ErrFull)
		mustBe(t, "Reset", s.Reset("c"), api.ErrFull)
		mustBe(t, "Reset", s.Reset(""), api.ErrArg)
	}
	mustLast(t, d, 0, image)
	// Records can still come behind.
	mustBe(t, "Append", s.Append("c"), api.OK)
	mustLast(t, d, 0, regionOf(5, slowHead(maxGen, 1), slowCells(maxGen-1, slowFrame("a")), slowCells(maxGen, slowFrame("b")+slowFrame("c"))))
	mustRefuse(t, d, 0, api.ErrFull)
}

func TestP8_4Example(t *testing.T) {
	d := disk.New(5)
	s := mustOpen(t, d, 0)
	// The first call is a Write, which is of sector 1: it is what lasts.
	d.Cut(0, 1, 1)
	mustBe(t, "Append", s.Append("a"), api.ErrPower)
	mustLast(t, d, 0, regionOf(5, slowHead(1, 0), slowCells(1, slowFrame("a"))))
}

func TestP8_4AppendOfEverySize(t *testing.T) {
	// Sizes at which a cell becomes full, or another one is needed.
	for _, first := range []int{1, 42, 47, 48, 49, 50, 103, 104, 105} {
		for second := 1; second < 180; second++ {
			d := disk.New(15)
			s := mustOpen(t, d, 0)
			m, _, _ := open(noughts(15 * 64))
			for _, body := range []string{text(first), strings.Repeat("b", second), "c"} {
				image := d.Image(0)
				next, steps, _ := m.append(body)
				mustBe(t, "Append", s.Append(body), api.OK)
				mustHave(t, s, next)
				mustLast(t, d, 0, lasting(image, steps, 0, 0))
				m = next
			}
		}
	}
}

func TestP8_4AppendRefused(t *testing.T) {
	var none *stream.Stream
	mustBe(t, "Append of nil", none.Append("a"), api.ErrNil)
	mustBe(t, "Append of nil", none.Append(""), api.ErrNil)
	d := disk.New(5)
	s := mustOpen(t, d, 0)
	mustBe(t, "Append", s.Append("kept"), api.OK)
	image := d.Image(0)
	d.Cut(0, 1)
	for _, x := range []struct {
		body string
		e    api.Errno
	}{{"", api.ErrArg}, {text(4097), api.ErrLong}, {text(1 << 20), api.ErrLong}, {text(4096), api.ErrFull}, {text(94), api.ErrFull}} {
		mustBe(t, "Append", s.Append(x.body), x.e)
		if d.Off() || d.Image(0) != image || s.Gen() != 1 || s.Left() != 99 {
			t.Fatalf("what is refused changed something")
		}
	}
	d.Cut(0, 0)
	mustBe(t, "Append of as much as is left", s.Append(text(93)), api.OK)
	if s.Left() != 0 {
		t.Errorf("Left is %d", s.Left())
	}
	mustBe(t, "Append", s.Append("a"), api.ErrFull)
	mustOpen(t, d, 0, "kept", text(93))
}

// A region of the most sectors, filled up to the last byte.
func TestP8_4TheGreatestRegion(t *testing.T) {
	d := disk.New(5000)
	s := mustOpen(t, d, 0)
	var records []string
	// 28 frames of 4006 bytes; 416 of the 112584 are left.
	for i := range 28 {
		body := number(1, int64(i)) + text(3999)
		mustBe(t, "Append", s.Append(body), api.OK)
		records = append(records, body)
	}
	last := text(416 - 6)
	mustBe(t, "Append of a byte more", s.Append(last+"a"), api.ErrFull)
	mustBe(t, "Append", s.Append(last), api.OK)
	records = append(records, last)
	if s.Left() != 0 {
		t.Errorf("Left is %d", s.Left())
	}
	s = mustOpen(t, d, 0, records...)
	if s.Left() != 0 || s.Gen() != 2 {
		t.Errorf("Left is %d, Gen %d", s.Left(), s.Gen())
	}
	mustBe(t, "Reset", s.Reset(records...), api.OK)
	mustBe(t, "Reset", s.Reset(append(records, "a")...), api.ErrFull)
	mustOpen(t, d, 0, records...)
}

func TestP8_5NilStream(t *testing.T) {
	var s *stream.Stream
	if s.Left() != 0 || s.Gen() != 0 {
		t.Errorf("%d, %d", s.Left(), s.Gen())
	}
}

// A stream of no Open has no disk: it answers, without a panic.
func TestP1StreamOfNoOpen(t *testing.T) {
	s := &stream.Stream{}
	if s.Left() != 0 || s.Gen() != 0 {
		t.Errorf("%d, %d", s.Left(), s.Gen())
	}
	if s.Append("a") == api.OK || s.Reset("a") == api.OK || s.Reset() == api.OK || s.Append("a") == api.OK {
		t.Errorf("a stream without a disk tells that something lasts")
	}
}

// op: a call of a stream: an Append of the first body, or a Reset.
type op struct {
	reset  bool
	bodies []string
}

func (o op) do(s *stream.Stream) api.Errno {
	if o.reset {
		return s.Reset(o.bodies...)
	}
	return s.Append(o.bodies[0])
}

func (o op) steps(m model) (model, []step, api.Errno) {
	if o.reset {
		return m.reset(o.bodies...)
	}
	return m.append(o.bodies[0])
}

func anyOp(r *rand.Rand, left int) op {
	size := 1 + r.Intn(60)
	if r.Intn(3) == 0 {
		size = max(1, left-6+r.Intn(3)-1)
	}
	o := op{reset: r.Intn(4) == 0, bodies: []string{anyText(r, size)}}
	if o.reset {
		o.bodies = nil
		for range r.Intn(4) {
			o.bodies = append(o.bodies, anyText(r, r.Intn(50)))
		}
	}
	return o
}

// Any calls, one behind the other, answer and leave what the model says.
func TestP8_2To5AnyCalls(t *testing.T) {
	r := rand.New(rand.NewSource(2))
	for range 300 {
		image := noughts(64 * (3 + r.Intn(20)))
		d := laid(image)
		s := mustOpen(t, d, 0)
		m, steps, _ := open(image)
		image = lasting(image, steps, 0, 0)
		for range 20 {
			o := anyOp(r, m.left())
			next, steps, want := o.steps(m)
			mustBe(t, "a call", o.do(s), want)
			image, m = lasting(image, steps, 0, 0), next
			mustHave(t, s, m)
			mustLast(t, d, 0, image)
			if r.Intn(8) == 0 {
				d.Crash(r.Uint64())
				m, steps, _ = open(image)
				s = mustOpen(t, d, 0, m.records...)
				image = lasting(image, steps, 0, 0)
			}
			if t.Failed() {
				t.FailNow()
			}
		}
	}
}
