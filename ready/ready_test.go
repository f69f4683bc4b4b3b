package ready_test

import (
	"math"
	"math/rand"
	"slices"
	"sync"
	"testing"
	"time"

	"precinct/ready"
)

// waitsFor: does node a wait for node b, of at most 32 that count?
func waitsFor(masks []uint32, a, b int) bool {
	n := howMany(masks)
	return a >= 0 && a < n && b >= 0 && b < n && isIn(masks[a], b)
}

// isIn: is a node's bit set? Told by halving, not by shifting.
func isIn(set uint32, node int) bool {
	for range node {
		set /= 2
	}
	return set%2 == 1
}

func howMany(masks []uint32) int {
	if len(masks) > 32 {
		return 32
	}
	return len(masks)
}

// setOf: nodes as bits, by adding.
func setOf(nodes ...int) uint32 {
	set := uint32(0)
	for at, bit := 0, uint32(1); at < 32; at, bit = at+1, bit*2 {
		if slices.Contains(nodes, at) {
			set += bit
		}
	}
	return set
}

// slowOrder: by the chapter's words: each time from the first node on.
func slowOrder(masks []uint32) []int {
	var order []int
	for {
		next := -1
		for a := howMany(masks) - 1; a >= 0; a-- {
			free := !slices.Contains(order, a)
			for b := range howMany(masks) {
				free = free && (!waitsFor(masks, a, b) || slices.Contains(order, b))
			}
			if free {
				next = a
			}
		}
		if next < 0 {
			return order
		}
		order = append(order, next)
	}
}

// slowReady: of each node there is: isn't it done, and are all that it waits for?
func slowReady(masks []uint32, done uint32) uint32 {
	var nodes []int
	for a := range howMany(masks) {
		fit := !isIn(done, a)
		for b := range howMany(masks) {
			fit = fit && (!waitsFor(masks, a, b) || isIn(done, b))
		}
		if fit {
			nodes = append(nodes, a)
		}
	}
	return setOf(nodes...)
}

// slowBehind: of each node there is: does a way down from it lead to that one?
func slowBehind(masks []uint32, n int) uint32 {
	var nodes []int
	for a := range howMany(masks) {
		seen := map[int]bool{}
		var down func(a int)
		down = func(a int) {
			for b := range howMany(masks) {
				if waitsFor(masks, a, b) && !seen[b] {
					seen[b] = true
					down(b)
				}
			}
		}
		down(a)
		if seen[n] {
			nodes = append(nodes, a)
		}
	}
	return setOf(nodes...)
}

// slowDepths: of each node that an order has: one more than the deepest it waits
// for, gone down to one by one.
func slowDepths(masks []uint32) []int {
	order := slowOrder(masks)
	known := map[int]int{}
	var row func(a int) int
	row = func(a int) int {
		if known[a] > 0 {
			return known[a]
		}
		longest := 0
		for b := range howMany(masks) {
			if waitsFor(masks, a, b) && row(b) > longest {
				longest = row(b)
			}
		}
		known[a] = longest + 1
		return known[a]
	}
	var depths []int
	for a := range howMany(masks) {
		if slices.Contains(order, a) {
			depths = append(depths, row(a))
		} else {
			depths = append(depths, -1)
		}
	}
	return depths
}

// holdAll: is each call's answer the one that the chapter's words give?
func holdAll(t *testing.T, masks []uint32, done uint32, n int) {
	t.Helper()
	if got, want := ready.Order(masks), slowOrder(masks); !slices.Equal(got, want) {
		t.Fatalf("Order(%v): %v, not %v", masks, got, want)
	}
	if got, want := ready.Ready(masks, done), slowReady(masks, done); got != want {
		t.Fatalf("Ready(%v, %b): %b, not %b", masks, done, got, want)
	}
	if got, want := ready.Behind(masks, n), slowBehind(masks, n); got != want {
		t.Fatalf("Behind(%v, %d): %b, not %b", masks, n, got, want)
	}
	if got, want := ready.Depths(masks), slowDepths(masks); !slices.Equal(got, want) {
		t.Fatalf("Depths(%v): %v, not %v", masks, got, want)
	}
}

// row: nodes each of which waits for the one ahead.
func row(count int) []uint32 {
	masks := make([]uint32, count)
	for at := 1; at < count && at < 32; at++ {
		masks[at] = setOf(at - 1)
	}
	return masks
}

// rowBack: nodes each of which waits for the one behind it.
func rowBack(count int) []uint32 {
	masks := make([]uint32, count)
	for at := range count - 1 {
		masks[at] = setOf(at + 1)
	}
	return masks
}

func upTo(count int) []int {
	var list []int
	for at := range count {
		list = append(list, at)
	}
	return list
}

func TestExamples(t *testing.T) {
	masks := []uint32{0, 1, 3}
	if got := ready.Order(masks); !slices.Equal(got, []int{0, 1, 2}) {
		t.Errorf("Order: %v", got)
	}
	if got := ready.Ready(masks, 1); got != 2 {
		t.Errorf("Ready: %d", got)
	}
	if got := ready.Behind(masks, 0); got != 6 {
		t.Errorf("Behind: %d", got)
	}
	if got := ready.Depths(masks); !slices.Equal(got, []int{1, 2, 3}) {
		t.Errorf("Depths: %v", got)
	}
}

func TestP13_1Order(t *testing.T) {
	for _, x := range []struct {
		masks []uint32
		order []int
	}{
		{nil, nil},
		{[]uint32{}, nil},
		{[]uint32{0}, []int{0}},
		{[]uint32{0, 0, 0}, []int{0, 1, 2}},
		{[]uint32{setOf(1), setOf(2), 0}, []int{2, 1, 0}},
		// What is made ready by a later one with a lesser number goes ahead of the rest.
		{[]uint32{setOf(2), 0, 0, 0}, []int{1, 2, 0, 3}},
		{[]uint32{setOf(3), 0, setOf(0), 0, 0}, []int{1, 3, 0, 2, 4}},
		{[]uint32{0, setOf(0), setOf(0), setOf(1, 2)}, []int{0, 1, 2, 3}},
		{[]uint32{setOf(1, 2, 3), 0, setOf(3), 0}, []int{1, 3, 2, 0}},
	} {
		if got := ready.Order(x.masks); !slices.Equal(got, x.order) {
			t.Errorf("Order(%v): %v, not %v", x.masks, got, x.order)
		}
	}
}

func TestP13_1NodesBehindThemselvesOrSuchAreLeftOut(t *testing.T) {
	for _, x := range []struct {
		masks []uint32
		order []int
	}{
		{[]uint32{setOf(0)}, nil},
		{[]uint32{setOf(0), 0}, []int{1}},
		{[]uint32{setOf(1), setOf(0), 0}, []int{2}},
		{[]uint32{setOf(1), setOf(0), setOf(0), setOf(2, 4), 0}, []int{4}},
		{[]uint32{setOf(2), setOf(0), setOf(1)}, nil},
		// What these wait for themselves isn't left out.
		{[]uint32{0, setOf(0, 1), setOf(0)}, []int{0, 2}},
	} {
		if got := ready.Order(x.masks); !slices.Equal(got, x.order) {
			t.Errorf("Order(%v): %v, not %v", x.masks, got, x.order)
		}
	}
}

func TestP13_1BitsOfNodesThatThereArent(t *testing.T) {
	for _, masks := range [][]uint32{
		{1 << 1},
		{1 << 31},
		{math.MaxUint32 - 1},
		{1 << 2, 1<<31 | 1},
		{math.MaxUint32 - 3, math.MaxUint32 - 3},
	} {
		if got := ready.Order(masks); !slices.Equal(got, upTo(len(masks))) {
			t.Errorf("Order(%v): %v", masks, got)
		}
	}
}

func TestP13_1OfMoreThan32NodesTheFirst32Count(t *testing.T) {
	for _, count := range []int{31, 32, 33, 40, 1000} {
		whole := min(count, 32)
		if got := ready.Order(make([]uint32, count)); !slices.Equal(got, upTo(whole)) {
			t.Errorf("%d nodes: %v", count, got)
		}
		if got := ready.Order(row(count)); !slices.Equal(got, upTo(whole)) {
			t.Errorf("a row of %d: %v", count, got)
		}
	}
	back := upTo(32)
	slices.Reverse(back)
	if got := ready.Order(rowBack(32)); !slices.Equal(got, back) {
		t.Errorf("a row back: %v", got)
	}
	// With 31 nodes the bit of number 31 isn't one's, with 32 it is.
	masks := make([]uint32, 32)
	masks[0] = setOf(31)
	if got := ready.Order(masks[:31]); !slices.Equal(got, upTo(31)) {
		t.Errorf("31 nodes: %v", got)
	}
	if got := ready.Order(masks); got[30] != 31 || got[31] != 0 || got[0] != 1 {
		t.Errorf("32 nodes: %v", got)
	}
}

func TestP13_2Ready(t *testing.T) {
	diamond := []uint32{0, setOf(0), setOf(0), setOf(1, 2)}
	for _, x := range []struct {
		masks      []uint32
		done, want uint32
	}{
		{nil, 0, 0},
		{nil, math.MaxUint32, 0},
		{[]uint32{0}, 0, 1},
		{[]uint32{0}, 1, 0},
		{[]uint32{0, 0, 0}, setOf(1), setOf(0, 2)},
		{diamond, 0, setOf(0)},
		{diamond, setOf(0), setOf(1, 2)},
		{diamond, setOf(0, 1), setOf(2)},
		{diamond, setOf(0, 1, 2), setOf(3)},
		{diamond, setOf(0, 1, 2, 3), 0},
		{diamond, setOf(1, 2), setOf(0, 3)},
		{diamond, setOf(3), setOf(0)},
		{diamond, setOf(1), setOf(0)},
		// One that waits for itself is ready never, whatever is done.
		{[]uint32{setOf(0)}, 0, 0},
		{[]uint32{setOf(0)}, 1, 0},
		{[]uint32{setOf(1), setOf(0)}, 0, 0},
		{[]uint32{setOf(1), setOf(0)}, setOf(0), setOf(1)},
	} {
		if got := ready.Ready(x.masks, x.done); got != x.want {
			t.Errorf("Ready(%v, %b): %b, not %b", x.masks, x.done, got, x.want)
		}
	}
}

func TestP13_2BitsOfNodesThatThereArent(t *testing.T) {
	masks := []uint32{0, setOf(0, 2, 31), math.MaxUint32 - 3}
	if got := ready.Ready(masks[:2], 0); got != 1 {
		t.Errorf("none done: %b", got)
	}
	if got := ready.Ready(masks[:2], 1|1<<31|1<<2); got != 2 {
		t.Errorf("done bits beyond: %b", got)
	}
	if got := ready.Ready(masks[:2], math.MaxUint32-3); got != 1 {
		t.Errorf("done bits beyond alone: %b", got)
	}
	if got := ready.Ready([]uint32{1 << 5}, 0); got != 1 {
		t.Errorf("waits for none that there is: %b", got)
	}
	if got := ready.Behind([]uint32{1 << 1, 1 << 1}, 1); got != 3 {
		t.Errorf("Behind(1): %b", got)
	}
	if got := ready.Behind([]uint32{1 << 1}, 1); got != 0 {
		t.Errorf("Behind(1) of one node: %b", got)
	}
	if got := ready.Behind([]uint32{1 << 31, 1}, 31); got != 0 {
		t.Errorf("Behind(31) of two nodes: %b", got)
	}
	if got := ready.Behind([]uint32{1 << 31, 1 << 31}, 0); got != 0 {
		t.Errorf("Behind(0) by bits beyond: %b", got)
	}
}

func TestP13_2Behind(t *testing.T) {
	for _, x := range []struct {
		masks []uint32
		n     int
		want  uint32
	}{
		{[]uint32{0}, 0, 0},
		{[]uint32{setOf(0)}, 0, setOf(0)},
		{[]uint32{0, setOf(0)}, 0, setOf(1)},
		{[]uint32{0, setOf(0)}, 1, 0},
		{row(5), 0, setOf(1, 2, 3, 4)},
		{row(5), 2, setOf(3, 4)},
		{rowBack(5), 4, setOf(0, 1, 2, 3)},
		{rowBack(5), 2, setOf(0, 1)},
		// Three that wait for one another in a ring, and one behind them.
		{[]uint32{setOf(2), setOf(0), setOf(1), setOf(1), 0}, 0, setOf(0, 1, 2, 3)},
		{[]uint32{setOf(2), setOf(0), setOf(1), setOf(1), 0}, 3, 0},
		{[]uint32{setOf(2), setOf(0), setOf(1), setOf(1), 0}, 4, 0},
		// What a ring waits for doesn't come behind itself.
		{[]uint32{0, setOf(0, 2), setOf(1)}, 0, setOf(1, 2)},
		// What waits for itself doesn't put what it waits for behind itself.
		{[]uint32{setOf(0, 1), 0}, 1, setOf(0)},
		{[]uint32{setOf(0, 1), 0}, 0, setOf(0)},
	} {
		if got := ready.Behind(x.masks, x.n); got != x.want {
			t.Errorf("Behind(%v, %d): %b, not %b", x.masks, x.n, got, x.want)
		}
	}
}

func TestP13_2NoSuchNode(t *testing.T) {
	full := make([]uint32, 40)
	for at := range full {
		full[at] = math.MaxUint32
	}
	for _, count := range []int{0, 1, 3, 31, 32, 33, 40} {
		masks := full[:count]
		there := min(count, 32)
		for _, n := range []int{math.MinInt, math.MinInt32, -64, -33, -32, -31, -1, there, there + 1, 32, 33, 63, 64, 65, 1 << 8, 1 << 31, 1 << 32, 1<<32 + 1, math.MaxInt32, math.MaxInt} {
			if got := ready.Behind(masks, n); got != 0 {
				t.Errorf("%d nodes: Behind(%d): %b", count, n, got)
			}
		}
		for n := range there {
			if got := ready.Behind(masks, n); got != setOf(upTo(there)...) {
				t.Errorf("%d nodes: Behind(%d): %b", count, n, got)
			}
		}
	}
}

func TestP13_2OfMoreThan32NodesTheFirst32Count(t *testing.T) {
	for _, count := range []int{32, 33, 40} {
		if got := ready.Ready(make([]uint32, count), 0); got != math.MaxUint32 {
			t.Errorf("%d nodes: %b", count, got)
		}
		if got := ready.Ready(make([]uint32, count), math.MaxUint32); got != 0 {
			t.Errorf("%d nodes, all done: %b", count, got)
		}
		if got := ready.Ready(row(count), math.MaxUint32>>1); got != 1<<31 {
			t.Errorf("a row of %d: %b", count, got)
		}
		if got := ready.Behind(row(count), 0); got != math.MaxUint32-1 {
			t.Errorf("a row of %d: Behind(0): %b", count, got)
		}
		if got := ready.Behind(row(count), 30); got != 1<<31 {
			t.Errorf("a row of %d: Behind(30): %b", count, got)
		}
		if got := ready.Behind(row(count), 31); got != 0 {
			t.Errorf("a row of %d: Behind(31): %b", count, got)
		}
	}
	masks := make([]uint32, 33)
	masks[32] = math.MaxUint32
	if got := ready.Behind(masks, 0); got != 0 {
		t.Errorf("behind by number 32: %b", got)
	}
}

func TestP13_3Depths(t *testing.T) {
	for _, x := range []struct {
		masks  []uint32
		depths []int
	}{
		{nil, nil},
		{[]uint32{0}, []int{1}},
		{[]uint32{0, 0}, []int{1, 1}},
		{rowBack(4), []int{4, 3, 2, 1}},
		// The longest row counts, not the first, nor the last.
		{[]uint32{0, 0, setOf(1), setOf(0, 2), setOf(2, 0)}, []int{1, 1, 2, 3, 3}},
		{[]uint32{0, setOf(0), setOf(1), setOf(0, 1, 2), 0, setOf(3, 4)}, []int{1, 2, 3, 4, 1, 5}},
		{[]uint32{setOf(1, 3), setOf(2), 0, 0}, []int{3, 2, 1, 1}},
		// Left out: behind themselves, or behind such.
		{[]uint32{setOf(0)}, []int{-1}},
		{[]uint32{setOf(0), setOf(0), 0, setOf(2)}, []int{-1, -1, 1, 2}},
		{[]uint32{setOf(1), setOf(0), setOf(1, 3), 0}, []int{-1, -1, -1, 1}},
		// Bits of nodes that there aren't make no row longer.
		{[]uint32{math.MaxUint32 - 3, 1 | 1<<31}, []int{1, 2}},
	} {
		if got := ready.Depths(x.masks); !slices.Equal(got, x.depths) {
			t.Errorf("Depths(%v): %v, not %v", x.masks, got, x.depths)
		}
	}
	for _, count := range []int{31, 32, 33, 50} {
		want := upTo(min(count, 32))
		for at := range want {
			want[at]++
		}
		if got := ready.Depths(row(count)); !slices.Equal(got, want) {
			t.Errorf("a row of %d: %v", count, got)
		}
	}
}

func TestP13_3List(t *testing.T) {
	for _, x := range []struct {
		set  uint32
		list []int
	}{
		{0, nil},
		{1, []int{0}},
		{2, []int{1}},
		{3, []int{0, 1}},
		{0x80000000, []int{31}},
		{0x80000001, []int{0, 31}},
		{0x00018000, []int{15, 16}},
		{0xaaaa, []int{1, 3, 5, 7, 9, 11, 13, 15}},
		{math.MaxUint32, upTo(32)},
		{math.MaxUint32 - 1, upTo(32)[1:]},
		{math.MaxInt32, upTo(31)},
	} {
		if got := ready.List(x.set); !slices.Equal(got, x.list) {
			t.Errorf("List(%b): %v", x.set, got)
		}
	}
	by := rand.New(rand.NewSource(133))
	for range 20000 {
		set := by.Uint32() & by.Uint32()
		var want []int
		for at := range 32 {
			if isIn(set, at) {
				want = append(want, at)
			}
		}
		if got := ready.List(set); !slices.Equal(got, want) {
			t.Fatalf("List(%b): %v", set, got)
		}
	}
}

// All masks of up to three nodes with a bit of one that there isn't, with all that
// may be done and every node asked for; and of four nodes without such bits.
func TestP13AllSmallMasks(t *testing.T) {
	for count := range 4 {
		allMasks(count, count+1, func(masks []uint32) {
			for code := range 1 << (count + 1) {
				holdAll(t, masks, uint32(code), code%(count+3)-1)
			}
			for n := -1; n <= count+1; n++ {
				holdAll(t, masks, 0, n)
			}
		})
	}
	code := 0
	allMasks(4, 4, func(masks []uint32) {
		code++
		done, n := uint32(code/7%16), code/5%4
		holdAll(t, masks, done, n)
	})
}

// allMasks: every one of so many nodes, of so many bits each.
func allMasks(count, bits int, visit func(masks []uint32)) {
	for code := range 1 << (bits * count) {
		masks := make([]uint32, count)
		for at := range masks {
			masks[at] = uint32(code>>(at*bits)) & (1<<bits - 1)
		}
		visit(masks)
	}
}

// Masks of all sizes by chance: thin ones, thick ones, ones without rings, with
// bits beyond the nodes and nodes beyond 32.
func TestP13MasksByChance(t *testing.T) {
	by := rand.New(rand.NewSource(13))
	for round := range 6000 {
		masks := make([]uint32, by.Intn(37))
		places := by.Perm(32)
		for at := range masks {
			switch round % 4 {
			case 0:
				masks[at] = by.Uint32() & by.Uint32() & by.Uint32() & by.Uint32() & by.Uint32()
			case 1:
				masks[at] = by.Uint32()
			default:
				masks[at] = thin(by, places, at)
			}
		}
		holdAll(t, masks, by.Uint32()|by.Uint32(), by.Intn(40)-3)
	}
}

// thin: a mask of up to three nodes that stand ahead in some other order, now and
// then with one that may stand behind.
func thin(by *rand.Rand, places []int, at int) uint32 {
	mask := uint32(0)
	for range by.Intn(4) {
		b := by.Intn(32)
		if at < 32 && (places[b] < places[at] || by.Intn(40) == 0) {
			mask |= setOf(b)
		}
	}
	return mask
}

// What the calls answer fits together: an order's nodes are ready one by one, and
// what is left out has no depth, and comes behind one that comes behind itself.
func TestP13TheCallsFitTogether(t *testing.T) {
	by := rand.New(rand.NewSource(1313))
	for range 2000 {
		masks := make([]uint32, by.Intn(33))
		places := by.Perm(32)
		for at := range masks {
			masks[at] = thin(by, places, at)
		}
		order, depths := ready.Order(masks), ready.Depths(masks)
		done := uint32(0)
		for _, at := range order {
			if list := ready.List(ready.Ready(masks, done)); list[0] != at {
				t.Fatalf("%v: %d stands where the least of %v should", masks, at, list)
			}
			done += setOf(at)
		}
		if ready.Ready(masks, done) != 0 {
			t.Fatalf("%v: something is ready behind %v", masks, order)
		}
		for at := range masks {
			behind := uint32(0)
			for n := range masks {
				if isIn(ready.Behind(masks, n), n) && isIn(ready.Behind(masks, n), at) {
					behind += setOf(n)
				}
			}
			if out := !isIn(done, at); out != (depths[at] == -1) || out != (behind != 0) {
				t.Fatalf("%v: node %d: order %v, depth %d, behind %b", masks, at, order, depths[at], behind)
			}
		}
	}
}

func TestP1LargeMasksEndSoon(t *testing.T) {
	begin := time.Now()
	many := make([]uint32, 1<<22)
	for at := range many {
		many[at] = math.MaxUint32
	}
	for range 200 {
		if len(ready.Order(many)) != 0 || ready.Ready(many, 0) != 0 || ready.Behind(many, 0) != math.MaxUint32 || len(ready.Depths(many)) != 32 {
			t.Fatal("of nodes that all wait for all")
		}
	}
	// As many ways as there can be: each waits for all ahead of it.
	thick := make([]uint32, 32)
	for at := range thick {
		thick[at] = setOf(upTo(at)...)
	}
	for range 200 {
		if depths := ready.Depths(thick); depths[31] != 32 || ready.Behind(thick, 0) != math.MaxUint32-1 || len(ready.Order(thick)) != 32 {
			t.Fatalf("of nodes that wait for all ahead: %v", depths)
		}
	}
	if spent := time.Since(begin); spent > 20*time.Second {
		t.Errorf("took %v", spent)
	}
}

func TestP1WhatIsHandedInStaysAndAnswersAreNewMemory(t *testing.T) {
	whole := []uint32{setOf(2), 0, setOf(1), 7, 7, 7}
	kept := slices.Clone(whole)
	masks := whole[:3]
	calls := func() ([]int, []int, []int, uint32, uint32) {
		return ready.Order(masks), ready.Depths(masks), ready.List(7), ready.Ready(masks, 2), ready.Behind(masks, 1)
	}
	order, depths, list, free, behind := calls()
	if !slices.Equal(whole, kept) {
		t.Fatalf("the masks, or what lies behind them, were changed: %v", whole)
	}
	// What stands behind the length makes no difference.
	for at := 3; at < len(whole); at++ {
		whole[at] = 0
	}
	for _, answer := range [][]int{order, depths, list} {
		for _, x := range []int{-5, -6, -7, -8} {
			_ = append(answer, x)
		}
		for at := range answer {
			answer[at] = -9
		}
	}
	order, depths, list, again, behindAgain := calls()
	if !slices.Equal(order, []int{1, 2, 0}) || !slices.Equal(depths, []int{3, 1, 2}) || !slices.Equal(list, []int{0, 1, 2}) {
		t.Errorf("answers changed: %v, %v, %v", order, depths, list)
	}
	if free != setOf(2) || again != free || behind != setOf(0, 2) || behindAgain != behind {
		t.Errorf("answers changed: %b, %b, %b, %b", free, again, behind, behindAgain)
	}
	if masks[0] != setOf(2) || masks[1] != 0 || masks[2] != setOf(1) {
		t.Errorf("masks changed: %v", masks)
	}
	// And what is handed in isn't kept.
	masks[0] = 0
	if !slices.Equal(order, []int{1, 2, 0}) || !slices.Equal(depths, []int{3, 1, 2}) {
		t.Errorf("answers hang on masks: %v, %v", order, depths)
	}
}

// Nothing is kept from call to call: so calls at one time don't feel one another.
func TestP2CallsHaveNothingToDoWithOneAnother(t *testing.T) {
	one, other := []uint32{0, 1, 3}, []uint32{setOf(2), setOf(2), 0, 0}
	wants := [2][]int{{0, 1, 2}, {2, 0, 1, 3}}
	var all sync.WaitGroup
	wrong := make([]int, 8)
	for at := range wrong {
		all.Add(1)
		go func() {
			defer all.Done()
			masks := one
			if at%2 == 1 {
				masks = other
			}
			for range 2000 {
				if !slices.Equal(ready.Order(masks), wants[at%2]) || ready.Behind(masks, 2) != []uint32{0, 3}[at%2] || ready.Depths(masks)[2] != []int{3, 1}[at%2] || len(ready.List(uint32(at))) != []int{0, 1, 1, 2, 1, 2, 2, 3}[at] {
					wrong[at]++
				}
			}
		}()
	}
	all.Wait()
	for at, times := range wrong {
		if times > 0 {
			t.Errorf("%d: wrong %d times", at, times)
		}
	}
}
