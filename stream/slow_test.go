package stream_test

import (
	"hash/crc32"
	"math/rand"
	"strings"

	"precinct/api"
)

// What stands here is the chapter's words once more, of bytes alone, so that
// the program's answers and what it leaves on a disk can be held against them.

const (
	room   = 55
	maxGen = 281474976710655 // 2^48 - 1
)

func text(size int) string { return strings.Repeat("a", size) }

func noughts(size int) string { return strings.Repeat("\x00", size) }

// anyText: so many bytes by chance (the same at every run).
func anyText(r *rand.Rand, size int) string {
	b := make([]byte, size)
	r.Read(b)
	return string(b)
}

func number(width int, n int64) string {
	b := make([]byte, width)
	for i := range b {
		b[width-1-i] = byte(n >> (8 * i))
	}
	return string(b)
}

func slowFrame(body string) string {
	size := number(2, int64(len(body)))
	sum := crc32.Checksum([]byte(size+body), crc32.MakeTable(crc32.Castagnoli))
	return size + number(4, int64(sum)) + body
}

func slowFrames(bodies []string) string {
	frames := ""
	for _, body := range bodies {
		frames += slowFrame(body)
	}
	return frames
}

// slowBodies: the bodies of the frames that data begins with.
func slowBodies(data string) []string {
	var bodies []string
	for len(data) >= 6 {
		size := int(data[0])*256 + int(data[1])
		if size == 0 || size > 4096 || len(data) < 6+size || slowFrame(data[6:6+size]) != data[:6+size] {
			break
		}
		bodies = append(bodies, data[6:6+size])
		data = data[6+size:]
	}
	return bodies
}

func slowCell(gen int64, index int, data string) string {
	return number(6, gen) + number(2, int64(index)) + number(1, int64(len(data))) + data + noughts(room-len(data))
}

// slowCells: the cells of data, from index 0 on.
func slowCells(gen int64, data string) []string {
	var cells []string
	for len(data) >= room {
		cells = append(cells, slowCell(gen, len(cells), data[:room]))
		data = data[room:]
	}
	return append(cells, slowCell(gen, len(cells), data))
}

func slowHead(gen int64, half int) string {
	return "PRECINCT" + number(6, gen) + number(1, int64(half)) + noughts(49)
}

func slowCapacity(sectors int) int {
	if sectors < 3 {
		return 0
	}
	return (min(sectors, 4096)-1)/2*room - 1
}

// slowStart: the first sector of a half.
func slowStart(half, sectors int) int { return 1 + half*((sectors-1)/2) }

// slowGen: the generation of the cell that a sector is; 0, if it is none.
func slowGen(sector string) int64 {
	gen := int64(0)
	for i := range 6 {
		gen = gen*256 + int64(sector[i])
	}
	if size := int(sector[8]); size > room || strings.Trim(sector[9+size:], "\x00") != "" {
		return 0
	}
	return gen
}

// found: what a region's bytes say.
type found struct {
	isHead  bool
	half    int
	records []string
	newest  int64 // the greatest generation
}

func slowFind(image string) found {
	sectors := len(image) / 64
	sector := func(i int) string { return image[64*i : 64*i+64] }
	var f found
	for i := 1; i <= (sectors-1)/2*2; i++ {
		f.newest = max(f.newest, slowGen(sector(i)))
	}
	gen := int64(0)
	for i := range 6 {
		gen = gen*256 + int64(image[8+i])
	}
	half := int(image[14])
	if gen == 0 || half > 1 || slowHead(gen, half) != sector(0) {
		return f
	}
	data := ""
	for i := range (sectors - 1) / 2 {
		s := sector(slowStart(half, sectors) + i)
		if slowGen(s) != gen || s[6:8] != number(2, int64(i)) {
			break
		}
		data += s[9 : 9+int(s[8])]
		if s[8] < room {
			break
		}
	}
	return found{isHead: true, half: half, records: slowBodies(data), newest: max(f.newest, gen)}
}

// step: a call for the disk: a Write of a sector, or (sector -1) a Flush.
type step struct {
	sector int
	data   string
}

// model: what a stream has, and which calls it must make.
type model struct {
	sectors, half int
	gen           int64
	records       []string
}

func (m model) left() int { return slowCapacity(m.sectors) - len(slowFrames(m.records)) }

func slowBodyError(body string) api.Errno {
	if body == "" {
		return api.ErrArg
	}
	if len(body) > 4096 {
		return api.ErrLong
	}
	return api.OK
}

// open: what Open of a region with these bytes must do.
func open(image string) (model, []step, api.Errno) {
	f := slowFind(image)
	m := model{sectors: len(image) / 64, half: 1, gen: f.newest}
	if f.isHead {
		m.half = f.half
	}
	return m.reset(f.records...)
}

func (m model) reset(bodies ...string) (model, []step, api.Errno) {
	for _, body := range bodies {
		if e := slowBodyError(body); e != api.OK {
			return m, nil, e
		}
	}
	next := model{sectors: m.sectors, half: 1 - m.half, gen: m.gen + 1, records: append([]string(nil), bodies...)}
	if next.left() < 0 || m.gen == maxGen {
		return m, nil, api.ErrFull
	}
	var steps []step
	for i, cell := range slowCells(next.gen, slowFrames(bodies)) {
		steps = append(steps, step{slowStart(next.half, m.sectors) + i, cell})
	}
	return next, append(steps, step{sector: -1}, step{0, slowHead(next.gen, next.half)}, step{sector: -1}), api.OK
}

func (m model) append(body string) (model, []step, api.Errno) {
	if e := slowBodyError(body); e != api.OK {
		return m, nil, e
	}
	next := m
	next.records = append(append([]string(nil), m.records...), body)
	if next.left() < 0 {
		return m, nil, api.ErrFull
	}
	before := slowCells(m.gen, slowFrames(m.records))
	var steps []step
	for i, cell := range slowCells(m.gen, slowFrames(next.records)) {
		if i >= len(before) || before[i] != cell {
			steps = append(steps, step{slowStart(m.half, m.sectors) + i, cell})
		}
	}
	return next, append(steps, step{sector: -1}), api.OK
}

// writesAhead: how many writes stand in the queue when the power fails at the n-th call.
func writesAhead(steps []step, n int) int {
	count := 0
	for i, s := range steps[:min(n, len(steps))] {
		if s.sector >= 0 {
			count++
		} else if i < n-1 {
			count = 0
		}
	}
	return count
}

// lasting: a region's bytes behind these calls, of which the n-th meets a loss of power that keeps so much.
func lasting(image string, steps []step, n int, keep uint64) string {
	b := []byte(image)
	var queue []step
	settle := func(keep uint64) {
		for i, s := range queue {
			if keep>>(i%64)&1 == 1 {
				copy(b[64*s.sector:], s.data)
			}
		}
		queue = nil
	}
	for i, s := range steps {
		if s.sector >= 0 {
			queue = append(queue, s)
		}
		if i == n-1 {
			settle(keep)
			break
		}
		if s.sector < 0 {
			settle(1<<64 - 1)
		}
	}
	return string(b)
}
