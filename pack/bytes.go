package pack

import (
	"math/bits"
	"strings"

	"precinct/api"
	"precinct/words"
)

// The first byte of a value's bytes.
const (
	intMark = iota + 1
	textMark
	listMark
)

const (
	markWidth  = 1 // bytes of a mark
	widthWidth = 1 // bytes that tell how many bytes a number has
	countWidth = 2 // bytes that tell how many values a list has
	maxWidth   = 8 // bytes of the greatest number
)

// widthOf: how many bytes n has without noughts ahead.
func widthOf(n uint64) int { return (bits.Len64(n) + 7) / 8 }

// bytesOf: the bytes of v; leaves by a fault, if v has none.
func bytesOf(v Value) string {
	var w writer
	w.value(v, 0)
	return w.out.String()
}

type writer struct{ out strings.Builder }

func (w *writer) number(width int, n uint64) { w.out.WriteString(words.Put(width, n)) }

// value writes v, which stands in so many lists.
func (w *writer) value(v Value, within int) {
	switch v.Kind {
	case Int:
		n := words.Fold(v.N)
		width := widthOf(n)
		w.number(markWidth, intMark)
		w.number(widthWidth, uint64(width))
		w.number(width, n)
	case Text:
		w.text(v.S)
	case List:
		w.list(v.L, within)
	default:
		fail(api.ErrArg)
	}
}

func (w *writer) text(s string) {
	if len(s) > api.MaxBytes {
		fail(api.ErrLong)
	}
	b, e := words.Text(s)
	check(e)
	w.number(markWidth, textMark)
	w.out.WriteString(b)
}

func (w *writer) list(l []Value, within int) {
	if len(l) > api.MaxItems || within >= api.MaxDepth {
		fail(api.ErrLong)
	}
	w.number(markWidth, listMark)
	w.number(countWidth, uint64(len(l)))
	for _, v := range l {
		w.value(v, within+1)
	}
}

// valueOf: the value whose bytes s is; leaves by a fault, if it is none's.
func valueOf(s string) Value {
	r := reader{s: s}
	v := r.value(0)
	if r.at != len(s) {
		fail(api.ErrForm)
	}
	return v
}

// reader goes through s from the left; at is the place behind what was read.
type reader struct {
	s  string
	at int
}

func (r *reader) number(width int) uint64 {
	n, behind, e := words.Get(r.s, r.at, width)
	check(e)
	r.at = behind
	return n
}

// value reads the next value, which stands in so many lists.
func (r *reader) value(within int) Value {
	switch r.number(markWidth) {
	case intMark:
		return Value{Kind: Int, N: words.Unfold(r.folded())}
	case textMark:
		return Value{Kind: Text, S: r.text()}
	case listMark:
		return Value{Kind: List, L: r.list(within)}
	default:
		panic(fault{api.ErrForm})
	}
}

func (r *reader) folded() uint64 {
	width := int(r.number(widthWidth))
	if width > maxWidth {
		fail(api.ErrForm)
	}
	// Layer 1 reads no number of no bytes.
	if width == 0 {
		return 0
	}
	n := r.number(width)
	// A nought ahead would be a second way to write the same number.
	if widthOf(n) != width {
		fail(api.ErrForm)
	}
	return n
}

func (r *reader) text() string {
	s, behind, e := words.GetText(r.s, r.at)
	check(e)
	if len(s) > api.MaxBytes {
		fail(api.ErrLong)
	}
	r.at = behind
	return s
}

func (r *reader) list(within int) []Value {
	if within >= api.MaxDepth {
		fail(api.ErrLong)
	}
	count := r.number(countWidth)
	if count > api.MaxItems {
		fail(api.ErrLong)
	}
	l := make([]Value, count)
	for i := range l {
		l[i] = r.value(within + 1)
	}
	return l
}
