package disk

import "precinct/api"

const keepBits = 64 // of a number that tells which writes are kept

// regionState is sectors, and what was written to them.
type regionState struct {
	lasting []byte   // of all its sectors, one behind the other
	queue   []queued // what isn't flushed yet, in order
}

// queued is what a sector is to be.
type queued struct {
	sector int
	data   [api.Sector]byte
}

// newRegion: a region of noughts, with so many sectors, as far as the bounds let.
func newRegion(size int) regionState {
	size = min(max(size, 0), api.MaxSectors)
	return regionState{lasting: make([]byte, size*api.Sector)}
}

func (r *regionState) sectors() int { return len(r.lasting) / api.Sector }

// at: the lasting bytes of a sector, to be read or written in place.
func (r *regionState) at(sector int) []byte {
	return r.lasting[sector*api.Sector : (sector+1)*api.Sector]
}

// read: a sector's bytes, of the last write to it, if one is in the queue.
func (r *regionState) read(sector int) string {
	for i := len(r.queue) - 1; i >= 0; i-- {
		if w := &r.queue[i]; w.sector == sector {
			return string(w.data[:])
		}
	}
	return string(r.at(sector))
}

// write: a sector's bytes, of which there are as many as a sector has, stand behind the queue.
func (r *regionState) write(sector int, data string) {
	w := queued{sector: sector}
	copy(w.data[:], data)
	r.queue = append(r.queue, w)
}

// settle: the writes in the queue that are kept, told by their numbers, last; the others are lost.
func (r *regionState) settle(kept func(i int) bool) {
	for i := range r.queue {
		if w := &r.queue[i]; kept(i) {
			copy(r.at(w.sector), w.data[:])
		}
	}
	r.queue = nil
}

// lay: the lasting bytes are those of data, and noughts behind.
func (r *regionState) lay(data string) {
	n := copy(r.lasting, data)
	clear(r.lasting[n:])
	r.queue = nil
}

// keptBy: which of a region's writes the numbers keep; none, if they have none for it.
func keptBy(keep []uint64, region int) func(i int) bool {
	if region >= len(keep) {
		return func(int) bool { return false }
	}
	bits := keep[region]
	return func(i int) bool { return bits>>(i%keepBits)&1 == 1 }
}
