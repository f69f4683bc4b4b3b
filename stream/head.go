package stream

import (
	"strings"

	"precinct/api"
	"precinct/area"
	"precinct/disk"
	"precinct/frame"
	"precinct/words"
)

const (
	mark         = "PRECINCT"
	genWidth     = 6
	halfWidth    = 1
	leastSectors = 3 // a head, and two halves of a sector each
)

// head is what a region's sector 0 says: in which half its records stand, and of which generation.
type head struct {
	gen  int64
	half int
}

// next: the head of what takes the place of this one's records.
func (h head) next() head { return head{gen: h.gen + 1, half: 1 - h.half} }

func (h head) sector() string {
	told := mark + words.Put(genWidth, uint64(h.gen)) + words.Put(halfWidth, uint64(h.half))
	return told + strings.Repeat("\x00", api.Sector-len(told))
}

// parseHead: the head that a sector is.
func parseHead(sector string) (head, bool) {
	gen, at, _ := words.Get(sector, len(mark), genWidth)
	half, _, _ := words.Get(sector, at, halfWidth)
	h := head{gen: int64(gen), half: int(half)}
	// Made again, as the mark and the noughts are then told by one function alone.
	if h.gen < 1 || h.half > 1 || h.sector() != sector {
		return head{}, false
	}
	return h, true
}

func halfSize(sectors int) int { return (sectors - 1) / 2 }

// startOf: the first sector of a half, in a region of so many sectors.
func startOf(half, sectors int) int { return 1 + half*halfSize(sectors) }

func readAll(d *disk.Disk, region int) ([]string, api.Errno) {
	sectors := make([]string, d.Sectors(region))
	for i := range sectors {
		sector, e := d.Read(region, i)
		if e != api.OK {
			return nil, e
		}
		sectors[i] = sector
	}
	return sectors, api.OK
}

// find: the records of a region's sectors; and the half in which they stand,
// with the greatest generation, so that the next one is above all that is there.
func find(sectors []string) (head, []string) {
	size := halfSize(len(sectors))
	newest := area.Newest(sectors[1 : 1+2*size])
	h, ok := parseHead(sectors[0])
	if !ok {
		// Half 1, so that the next one is half 0.
		return head{gen: newest, half: 1}, nil
	}
	start := startOf(h.half, len(sectors))
	records, _ := frame.All(area.Join(sectors[start:start+size], h.gen))
	return head{gen: max(h.gen, newest), half: h.half}, records
}
