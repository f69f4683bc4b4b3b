package graph_test

import (
	"math"
	"math/rand"
	"reflect"
	"regexp"
	"slices"
	"strconv"
	"strings"
	"testing"
	"time"
	"unsafe"

	"precinct/api"
	"precinct/graph"
	"precinct/pack"
)

const letters = "abcdefghijklmnopqrstuvwxyz0123456789"

func task(name string, deps ...string) graph.Node {
	return graph.Node{Name: name, Deps: deps, Tries: 1, Lease: 1, Tenant: graph.Own}
}

func call(name string, tenant int, flow string, deps ...string) graph.Node {
	return graph.Node{Name: name, Deps: deps, Tries: 1, Lease: 1, Tenant: tenant, Flow: flow}
}

func flow(nodes ...graph.Node) graph.Flow { return graph.Flow{Name: "f", Nodes: nodes} }

// but: the node, changed.
func but(n graph.Node, change func(*graph.Node)) graph.Node {
	change(&n)
	return n
}

// nameOf: node n's name in the workflows made here.
func nameOf(n int) string { return letters[n : n+1] }

// tasks: that many that wait for nothing.
func tasks(count int) []graph.Node {
	var nodes []graph.Node
	for n := range count {
		nodes = append(nodes, task(nameOf(n)))
	}
	return nodes
}

// slowNamed: is it a name, by chapter 11's words?
func slowNamed(s string) bool {
	if len(s) < 1 || len(s) > 16 {
		return false
	}
	return strings.Trim(s, letters) == ""
}

// slowCheck: by the chapter's words, one after the other.
func slowCheck(f graph.Flow) (int, api.Errno) {
	if !slowNamed(f.Name) {
		return -1, api.ErrName
	}
	if len(f.Nodes) == 0 || len(f.Nodes) > 12 {
		return -1, api.ErrNode
	}
	for at, n := range f.Nodes {
		twice := false
		for ahead := range at {
			twice = twice || f.Nodes[ahead].Name == n.Name
		}
		if !slowNamed(n.Name) || twice {
			return at, api.ErrName
		}
		if n.Tries < 1 || n.Tries > 4 || n.Lease < 1 || n.Lease > 1048576 || n.Tenant < -1 || n.Tenant > 7 || len(n.Deps) > 12 {
			return at, api.ErrNode
		}
		isTask := n.Tenant == -1
		if isTask && len(n.Flow) > 0 || !isTask && !slowNamed(n.Flow) || !isTask && n.Tries != 1 {
			return at, api.ErrNode
		}
	}
	for at, n := range f.Nodes {
		for i, dep := range n.Deps {
			names, same := 0, 0
			for _, m := range f.Nodes {
				if m.Name == dep {
					names++
				}
			}
			for _, other := range n.Deps {
				if other == n.Deps[i] {
					same++
				}
			}
			if names == 0 || same > 1 {
				return at, api.ErrDep
			}
		}
	}
	for at := range f.Nodes {
		if comesBehind(f, at)[f.Nodes[at].Name] {
			return at, api.ErrCycle
		}
	}
	return 0, api.OK
}

// comesBehind: the names of the nodes that one comes behind: those it waits for,
// and those that these come behind, gone down to one by one.
func comesBehind(f graph.Flow, at int) map[string]bool {
	found := map[string]bool{}
	var down func(n graph.Node)
	down = func(n graph.Node) {
		for _, dep := range n.Deps {
			if found[dep] {
				continue
			}
			found[dep] = true
			for _, m := range f.Nodes {
				if m.Name == dep {
					down(m)
				}
			}
		}
	}
	down(f.Nodes[at])
	return found
}

// slowMasks: bit by bit: does the node wait for that one?
func slowMasks(f graph.Flow) []uint32 {
	var masks []uint32
	for _, n := range f.Nodes {
		mask, bit := uint32(0), uint32(1)
		for _, m := range f.Nodes {
			for _, dep := range n.Deps {
				if dep == m.Name {
					mask += bit
				}
			}
			bit *= 2
		}
		masks = append(masks, mask)
	}
	return masks
}

// slowValue: written as the chapter lists it, without layer 2's calls.
func slowValue(f graph.Flow) pack.Value {
	text := func(s string) pack.Value { return pack.Value{Kind: pack.Text, S: s} }
	number := func(n int64) pack.Value { return pack.Value{N: n} }
	list := func(l []pack.Value) pack.Value { return pack.Value{Kind: pack.List, L: l} }
	var nodes []pack.Value
	for _, n := range f.Nodes {
		var deps []pack.Value
		for _, dep := range n.Deps {
			deps = append(deps, text(dep))
		}
		nodes = append(nodes, list([]pack.Value{
			text(n.Name), list(deps), number(int64(n.Tries)), number(n.Lease), number(int64(n.Tenant)), text(n.Flow),
		}))
	}
	return list([]pack.Value{text(f.Name), list(nodes)})
}

// shape: a value's kinds: a number is n, a text t, another one x, a list its
// values' shapes between brackets.
func shape(v pack.Value) string {
	switch v.Kind {
	case pack.Int:
		return "n"
	case pack.Text:
		return "t"
	case pack.List:
		var b strings.Builder
		for _, w := range v.L {
			b.WriteString(shape(w))
		}
		return "[" + b.String() + "]"
	}
	return "x"
}

var flowShape = regexp.MustCompile(`^\[t\[(\[t\[t*\]nnnt\])*\]\]$`)

// slowReads: is it the Value of a workflow that Read must give?
func slowReads(v pack.Value) bool {
	if !flowShape.MatchString(shape(v)) {
		return false
	}
	for _, n := range v.L[1].L {
		for _, at := range []int{2, 4} {
			if n.L[at].N < -2147483648 || n.L[at].N > 2147483647 {
				return false
			}
		}
	}
	return true
}

// sameFlow: are these alike, an empty list like none?
func sameFlow(a, b graph.Flow) bool {
	return a.Name == b.Name && slices.EqualFunc(a.Nodes, b.Nodes, func(m, n graph.Node) bool {
		return m.Name == n.Name && slices.Equal(m.Deps, n.Deps) && m.Tries == n.Tries && m.Lease == n.Lease && m.Tenant == n.Tenant && m.Flow == n.Flow
	})
}

// sameBits: are values alike in each field, an empty list like none? (Equal
// doesn't look at fields that aren't the kind's.)
func sameBits(a, b pack.Value) bool {
	return a.Kind == b.Kind && a.N == b.N && a.S == b.S && slices.EqualFunc(a.L, b.L, sameBits)
}

// isNone: is it the zero value, an empty list like none?
func isNone(f graph.Flow) bool { return f.Name == "" && len(f.Nodes) == 0 }

func wantCheck(t *testing.T, what string, f graph.Flow, at int, e api.Errno) {
	t.Helper()
	if gotAt, got := graph.Check(f); gotAt != at || got != e {
		t.Errorf("%s: %d at %d, not %d at %d", what, got, gotAt, e, at)
	}
}

// checkAlike: what is wrong with a workflow, held against the slow form.
func checkAlike(t *testing.T, what string, f graph.Flow) api.Errno {
	t.Helper()
	at, e := slowCheck(f)
	wantCheck(t, what, f, at, e)
	return e
}

// readAlike: what Read tells of a value, held against the slow form: it is what
// it was read from, or nothing.
func readAlike(t *testing.T, what string, v pack.Value) bool {
	t.Helper()
	f, e := graph.Read(v)
	if !slowReads(v) {
		if e != api.ErrForm || !isNone(f) {
			t.Errorf("%s: %.200s is read: %d", what, shape(v), e)
		}
		return false
	}
	if e != api.OK || !pack.Equal(slowValue(f), v) {
		t.Errorf("%s: %.200s: %d", what, shape(v), e)
	}
	return true
}

func oddTexts() []string {
	texts := []string{
		"", " ", "a b", "a-b", "A", "aB", "Z", "/", ":", "`", "{", "a\x00", "\x00", "a\n", "ä", "aä", "١", "\xff", "a\xff", "\xc3", "\ufffd",
		"0", "9", "a", "z", "0a", "007", letters[:15], letters[:16], letters[:17], letters, "abcdefghijklmnoä", strings.Repeat("a", 1<<16+1),
	}
	return texts
}

func edgeInts() []int {
	return []int{
		math.MinInt, math.MinInt + 1, -1 << 53, -1<<32 - 1, -1 << 32, -1<<31 - 1, -1 << 31, -1<<31 + 1, -257, -256, -2, -1, 0, 1, 2, 3, 4, 5, 6, 7, 8, 9, 11, 12, 13,
		15, 16, 17, 255, 256, 257, 1<<20 - 1, 1 << 20, 1<<20 + 1, 1<<31 - 1, 1 << 31, 1<<32 - 1, 1 << 32, 1<<32 + 1, 1<<32 + 2, 1 << 53, math.MaxInt - 1, math.MaxInt,
	}
}

func TestExamples(t *testing.T) {
	f := flow(task("a"), task("b", "a"), task("c", "a", "b"))
	wantCheck(t, "the example", f, 0, api.OK)
	if m := graph.Masks(f); !slices.Equal(m, []uint32{0, 1, 3}) {
		t.Errorf("Masks: %v", m)
	}
	if graph.Own != -1 {
		t.Errorf("Own: %d", graph.Own)
	}
}

func TestP12_1TheWorkflowItself(t *testing.T) {
	for _, name := range oddTexts() {
		f := graph.Flow{Name: name, Nodes: tasks(1)}
		if slowNamed(name) {
			wantCheck(t, "name", f, 0, api.OK)
			continue
		}
		wantCheck(t, "no name", f, -1, api.ErrName)
		wantCheck(t, "no name, no nodes", graph.Flow{Name: name}, -1, api.ErrName)
		wantCheck(t, "no name, too many nodes", graph.Flow{Name: name, Nodes: tasks(13)}, -1, api.ErrName)
		wantCheck(t, "no name, a bad node", graph.Flow{Name: name, Nodes: make([]graph.Node, 1)}, -1, api.ErrName)
	}
	wantCheck(t, "nothing", graph.Flow{}, -1, api.ErrName)
	wantCheck(t, "nil nodes", flow(), -1, api.ErrNode)
	wantCheck(t, "empty nodes", flow(make([]graph.Node, 0, 3)...), -1, api.ErrNode)
	for count := 1; count <= 30; count++ {
		if count <= api.MaxNodes {
			wantCheck(t, strconv.Itoa(count), flow(tasks(count)...), 0, api.OK)
			continue
		}
		wantCheck(t, strconv.Itoa(count), flow(tasks(count)...), -1, api.ErrNode)
		wantCheck(t, strconv.Itoa(count)+" bad ones", flow(make([]graph.Node, count)...), -1, api.ErrNode)
	}
}

func TestP12_1NodesNames(t *testing.T) {
	for _, name := range oddTexts() {
		for at := range 12 {
			nodes := tasks(12)
			nodes[at].Name = name
			checkAlike(t, name, flow(nodes...))
		}
	}
	for at := range 12 {
		for ahead := range at {
			nodes := tasks(12)
			nodes[at].Name = strings.Clone(nodes[ahead].Name)
			wantCheck(t, "twice", flow(nodes...), at, api.ErrName)
		}
	}
	wantCheck(t, "one that begins so", flow(task("ab"), task("a"), task("abc"), task("b")), 0, api.OK)
	wantCheck(t, "the workflow's own name", flow(task("f")), 0, api.OK)
	wantCheck(t, "the workflow that is called", flow(call("a", 3, "a"), call("f", 3, "f")), 0, api.OK)
}

func TestP12_1EdgesOfNumbers(t *testing.T) {
	for _, n := range edgeInts() {
		for at := range 3 {
			for _, isCall := range []bool{false, true} {
				nodes := tasks(3)
				if isCall {
					nodes[at] = call(nameOf(at), 2, "x")
				}
				with := func(change func(*graph.Node)) graph.Flow {
					l := slices.Clone(nodes)
					change(&l[at])
					return flow(l...)
				}
				want := func(what string, f graph.Flow, good bool) {
					t.Helper()
					if good {
						wantCheck(t, what, f, 0, api.OK)
					} else {
						wantCheck(t, what, f, at, api.ErrNode)
					}
				}
				what := strconv.Itoa(n)
				want("tries "+what, with(func(m *graph.Node) { m.Tries = n }), n >= 1 && n <= 4 && (!isCall || n == 1))
				want("lease "+what, with(func(m *graph.Node) { m.Lease = int64(n) }), n >= 1 && n <= 1048576)
				// A task has no workflow that it calls, a call has one.
				want("tenant "+what, with(func(m *graph.Node) { m.Tenant = n }), isCall && n >= 0 && n <= 7 || !isCall && n == -1)
			}
		}
	}
	for tenant := range 8 {
		wantCheck(t, "each tenant", flow(call("a", tenant, "x")), 0, api.OK)
	}
}

func TestP12_1TasksAndCalls(t *testing.T) {
	for _, name := range oddTexts() {
		for tenant := -2; tenant <= 8; tenant++ {
			for tries := 0; tries <= 5; tries++ {
				n := call("a", tenant, name)
				n.Tries = tries
				good := tenant == -1 && name == "" && tries >= 1 && tries <= 4 || tenant >= 0 && tenant <= 7 && slowNamed(name) && tries == 1
				if good {
					wantCheck(t, name, flow(n), 0, api.OK)
				} else {
					wantCheck(t, name, flow(n), 0, api.ErrNode)
				}
			}
		}
	}
}

// How many deps there are is told of the node, what they are only behind all
// nodes.
func TestP12_1HowManyDeps(t *testing.T) {
	for count := range 30 {
		nodes := tasks(12)
		var deps []string
		for n := range count {
			deps = append(deps, nameOf(n))
		}
		nodes[5].Deps = deps
		checkAlike(t, strconv.Itoa(count), flow(nodes...))
		if count > 12 {
			wantCheck(t, strconv.Itoa(count), flow(nodes...), 5, api.ErrNode)
			nodes[5].Deps = make([]string, count)
			wantCheck(t, strconv.Itoa(count)+" of no names", flow(nodes...), 5, api.ErrNode)
			nodes[4].Deps = []string{"nobody"}
			wantCheck(t, strconv.Itoa(count)+" behind others", flow(nodes...), 5, api.ErrNode)
		}
	}
	nodes := tasks(12)
	for n := range 11 {
		nodes[11].Deps = append(nodes[11].Deps, nameOf(n))
	}
	wantCheck(t, "all others", flow(nodes...), 0, api.OK)
	nodes[11].Deps = append(nodes[11].Deps, nameOf(11))
	wantCheck(t, "all", flow(nodes...), 11, api.ErrCycle)
	nodes[11].Deps[11] = "more"
	wantCheck(t, "as many as can be, one of which there isn't", flow(nodes...), 11, api.ErrDep)
	nodes[11].Deps[11] = nameOf(0)
	wantCheck(t, "as many as can be, one twice", flow(nodes...), 11, api.ErrDep)
}

func TestP12_1Deps(t *testing.T) {
	for _, dep := range append(oddTexts(), "aa", "ab", "c", "f", "x") {
		for at := range 3 {
			nodes := []graph.Node{task("0"), call("a", 1, "x"), task("ab")}
			nodes[at].Deps = []string{dep}
			checkAlike(t, dep, flow(nodes...))
			nodes[at].Deps = []string{"0", dep}
			checkAlike(t, dep, flow(nodes...))
			nodes[at].Deps = []string{dep, "0"}
			checkAlike(t, dep, flow(nodes...))
		}
	}
	wantCheck(t, "the workflow's name", flow(task("a", "f")), 0, api.ErrDep)
	wantCheck(t, "the name of what is called", flow(call("a", 1, "x"), task("b", "x")), 1, api.ErrDep)
	wantCheck(t, "one behind", flow(task("a", "b"), task("b")), 0, api.OK)
	for _, deps := range [][]string{{"a", "a"}, {"a", "b", "a"}, {"b", "a", "a"}, {"a", "b", "b"}, {"c", "c"}, {"x", "x"}, {"a", "b", "c", "a"}} {
		wantCheck(t, strings.Join(deps, " "), flow(task("a"), task("b"), task("c", deps...)), 2, api.ErrDep)
	}
	wantCheck(t, "two that wait for one", flow(task("a"), task("b", "a"), task("c", "a")), 0, api.OK)
}

func TestP12_1Cycles(t *testing.T) {
	for size := 1; size <= 12; size++ {
		for first := range 12 - size + 1 {
			nodes := tasks(12)
			for n := range size {
				nodes[first+n].Deps = []string{nameOf(first + (n+1)%size)}
			}
			wantCheck(t, "round and round", flow(nodes...), first, api.ErrCycle)
			for n := range size {
				nodes[first+n].Deps = []string{nameOf(first + (n+size-1)%size)}
			}
			wantCheck(t, "the other way", flow(nodes...), first, api.ErrCycle)
			// What only comes behind a cycle, or what one comes behind, is in none.
			for n := range first {
				nodes[n].Deps = []string{nameOf(first)}
			}
			for n := first + size; n < 12; n++ {
				nodes[first].Deps = append(nodes[first].Deps, nameOf(n))
			}
			wantCheck(t, "with others ahead and behind", flow(nodes...), first, api.ErrCycle)
		}
	}
	r := rand.New(rand.NewSource(121))
	for range 500 {
		// One cycle through some nodes, in any order; all that come behind them
		// stand ahead of them in the list.
		places := r.Perm(12)
		size := 1 + r.Intn(12)
		ring := places[:size]
		nodes := tasks(12)
		for n, at := range ring {
			nodes[at].Deps = []string{nameOf(ring[(n+1)%size])}
		}
		for _, at := range places[size:] {
			nodes[at].Deps = []string{nameOf(ring[r.Intn(size)])}
		}
		wantCheck(t, "a ring", flow(nodes...), slices.Min(ring), api.ErrCycle)
	}
}

// Long ways through nodes in any order, and no node behind itself.
func TestP12_1RowsWithoutACycle(t *testing.T) {
	r := rand.New(rand.NewSource(122))
	for range 500 {
		places := r.Perm(12)
		nodes := tasks(12)
		for n := 1; n < 12; n++ {
			nodes[places[n]].Deps = []string{nameOf(places[n-1])}
			if other := r.Intn(n); other < n-1 {
				nodes[places[n]].Deps = append(nodes[places[n]].Deps, nameOf(places[other]))
			}
		}
		wantCheck(t, "a row", flow(nodes...), 0, api.OK)
		nodes[places[0]].Deps = []string{nameOf(places[11])}
		wantCheck(t, "its end tied to its beginning", flow(nodes...), 0, api.ErrCycle)
	}
	nodes := tasks(12)
	for at := range nodes {
		for ahead := range at {
			nodes[at].Deps = append(nodes[at].Deps, nameOf(ahead))
		}
	}
	wantCheck(t, "each waits for all ahead", flow(nodes...), 0, api.OK)
	slices.Reverse(nodes)
	wantCheck(t, "each waits for all behind", flow(nodes...), 0, api.OK)
}

// Each fault, at a node of its own, with another one beside it: the first as the
// chapter names them is told.
func TestP12_1OrderOfErrors(t *testing.T) {
	faults := []struct {
		rank, e int
		lay     func(*graph.Node)
	}{
		{2, int(api.ErrName), func(n *graph.Node) { n.Name = "" }},
		{2, int(api.ErrName), func(n *graph.Node) { n.Name = "B" }},
		{2, int(api.ErrNode), func(n *graph.Node) { n.Tries = 0 }},
		{2, int(api.ErrNode), func(n *graph.Node) { n.Lease = 1<<20 + 1 }},
		{2, int(api.ErrNode), func(n *graph.Node) { n.Tenant = -2 }},
		{2, int(api.ErrNode), func(n *graph.Node) { n.Flow = "x" }},
		{2, int(api.ErrNode), func(n *graph.Node) { n.Tenant = 1 }},
		{2, int(api.ErrNode), func(n *graph.Node) { n.Deps = make([]string, 13) }},
		{3, int(api.ErrDep), func(n *graph.Node) { n.Deps = append(n.Deps, "nobody") }},
		{3, int(api.ErrDep), func(n *graph.Node) { n.Deps = append(n.Deps, "k", "k") }},
		{4, int(api.ErrCycle), func(n *graph.Node) { n.Deps = append(n.Deps, n.Name) }},
	}
	for _, a := range faults {
		for _, b := range faults {
			for at := range 3 {
				for beside := range 3 {
					// In a node of its own, a fault of one step is told ahead of
					// one of a step behind.
					nodes := []graph.Node{task("a"), task("b"), task("c"), task("k")}
					a.lay(&nodes[at])
					b.lay(&nodes[beside])
					checkAlike(t, "two faults", flow(nodes...))
					if at == beside {
						continue
					}
					want, wantAt := a, at
					if b.rank < a.rank || b.rank == a.rank && beside < at {
						want, wantAt = b, beside
					}
					if want.rank == 4 {
						continue
					}
					wantCheck(t, "two faults", flow(nodes...), wantAt, api.Errno(want.e))
				}
			}
		}
	}
	wantCheck(t, "name ahead of the rest of a node", flow(but(task(""), func(n *graph.Node) { n.Tries = 0; n.Deps = make([]string, 20) })), 0, api.ErrName)
	wantCheck(t, "a node's twice ahead of its rest", flow(task("a"), but(task("a", "x"), func(n *graph.Node) { n.Lease = 0 })), 1, api.ErrName)
	wantCheck(t, "a node's rest ahead of the next one's name", flow(but(task("a"), func(n *graph.Node) { n.Lease = 0 }), task("a")), 0, api.ErrNode)
	wantCheck(t, "a later dep ahead of a cycle", flow(task("a", "a"), task("b", "x")), 1, api.ErrDep)
}

// anyFlow: a workflow that is sound but for what chance has broken, now and then.
func anyFlow(r *rand.Rand) graph.Flow {
	nodes := tasks(1 + r.Intn(12))
	order := r.Perm(len(nodes))
	for n, at := range order {
		if r.Intn(3) == 0 {
			nodes[at] = call(nameOf(at), r.Intn(8), letters[:1+r.Intn(16)])
		} else {
			nodes[at].Tries = 1 + r.Intn(4)
		}
		nodes[at].Lease = 1 + r.Int63n(1<<20)
		for _, ahead := range r.Perm(n) {
			if r.Intn(4) == 0 {
				nodes[at].Deps = append(nodes[at].Deps, nameOf(order[ahead]))
			}
		}
	}
	f := flow(nodes...)
	for range r.Intn(3) {
		breakOne(r, f)
	}
	return f
}

// breakOne: lays a fault, or what looks like one, to a node.
func breakOne(r *rand.Rand, f graph.Flow) {
	texts, ints := oddTexts(), edgeInts()
	n := &f.Nodes[r.Intn(len(f.Nodes))]
	switch r.Intn(10) {
	case 0:
		n.Name = texts[r.Intn(len(texts))]
	case 1:
		n.Name = nameOf(r.Intn(12))
	case 2:
		n.Tries = ints[r.Intn(len(ints))]
	case 3:
		n.Lease = int64(ints[r.Intn(len(ints))])
	case 4:
		n.Tenant = ints[r.Intn(len(ints))]
	case 5:
		n.Flow = texts[r.Intn(len(texts))]
	case 6:
		n.Deps = append(n.Deps, texts[r.Intn(len(texts))])
	case 7:
		n.Deps = append(n.Deps, make([]string, r.Intn(14))...)
	default:
		n.Deps = append(n.Deps, nameOf(r.Intn(len(f.Nodes))))
	}
}

func TestP12_1ByChance(t *testing.T) {
	r := rand.New(rand.NewSource(123))
	seen := map[api.Errno]int{}
	for range 30000 {
		f := anyFlow(r)
		e := checkAlike(t, "by chance", f)
		seen[e]++
		if e != api.OK {
			continue
		}
		if got := graph.Masks(f); !slices.Equal(got, slowMasks(f)) {
			t.Errorf("Masks: %v, not %v", got, slowMasks(f))
		}
	}
	for _, e := range []api.Errno{api.OK, api.ErrName, api.ErrNode, api.ErrDep, api.ErrCycle} {
		if seen[e] < 300 {
			t.Errorf("error %d was seen but %d times", e, seen[e])
		}
	}
}

// All workflows of three nodes, by what each waits for.
func TestP12_1AllOfThreeNodes(t *testing.T) {
	for all := range 1 << 9 {
		nodes := tasks(3)
		for bit := range 9 {
			if all>>bit&1 == 1 {
				nodes[bit/3].Deps = append(nodes[bit/3].Deps, nameOf(bit%3))
			}
		}
		f := flow(nodes...)
		if checkAlike(t, strconv.Itoa(all), f) != api.OK {
			continue
		}
		if got, want := graph.Masks(f), []uint32{uint32(all & 7), uint32(all >> 3 & 7), uint32(all >> 6 & 7)}; !slices.Equal(got, want) {
			t.Errorf("%d: Masks: %v, not %v", all, got, want)
		}
	}
}

func TestP12_2Masks(t *testing.T) {
	for _, x := range []struct {
		f    graph.Flow
		want []uint32
	}{
		{flow(task("a")), []uint32{0}},
		{flow(task("a", "b"), task("b")), []uint32{2, 0}},
		{flow(task("a", "c"), task("b"), task("c", "b")), []uint32{4, 0, 2}},
		{flow(task("c", "a", "b"), task("b", "a"), task("a")), []uint32{6, 4, 0}},
		{flow(task("c", "b", "a"), task("b", "a"), task("a")), []uint32{6, 4, 0}},
		{flow(call("x", 1, "a"), call("a", 7, "x", "x"), task("b", "a")), []uint32{0, 1, 2}},
		{flow(task("a"), task("aa", "a"), task("aaa", "aa")), []uint32{0, 1, 2}},
	} {
		wantCheck(t, "sound", x.f, 0, api.OK)
		if got := graph.Masks(x.f); !slices.Equal(got, x.want) {
			t.Errorf("%v: %v, not %v", x.f, got, x.want)
		}
	}
	for at := range 12 {
		for other := range 12 {
			nodes := tasks(12)
			want := make([]uint32, 12)
			if at != other {
				nodes[at].Deps, want[at] = []string{nameOf(other)}, 1<<other
			}
			if got := graph.Masks(flow(nodes...)); !slices.Equal(got, want) {
				t.Errorf("%d waits for %d: %v", at, other, got)
			}
		}
	}
	nodes := tasks(12)
	for n := range 11 {
		nodes[11].Deps = append(nodes[11].Deps, nameOf(10-n))
	}
	if got := graph.Masks(flow(nodes...)); len(got) != 12 || got[11] != 1<<11-1 {
		t.Errorf("all others: %v", got)
	}
}

// A mask tells what a node waits for itself, not what it comes behind.
func TestP12_2MasksOfARow(t *testing.T) {
	nodes := tasks(12)
	for n := 1; n < 12; n++ {
		nodes[n].Deps = []string{nameOf(n - 1)}
	}
	f := flow(nodes...)
	wantCheck(t, "a row", f, 0, api.OK)
	for n, mask := range graph.Masks(f) {
		if want := uint32(1) << n >> 1; mask != want {
			t.Errorf("%d: %b, not %b", n, mask, want)
		}
	}
}

func TestP12_3ValueOfOne(t *testing.T) {
	f := graph.Flow{Name: "flow", Nodes: []graph.Node{
		{Name: "a", Tries: 3, Lease: 20, Tenant: graph.Own},
		{Name: "b", Deps: []string{"a", "c"}, Tries: 1, Lease: 1 << 20, Tenant: 7, Flow: "other"},
	}}
	want := pack.All(pack.Str("flow"), pack.All(
		pack.All(pack.Str("a"), pack.All(), pack.Num(3), pack.Num(20), pack.Num(-1), pack.Str("")),
		pack.All(pack.Str("b"), pack.All(pack.Str("a"), pack.Str("c")), pack.Num(1), pack.Num(1<<20), pack.Num(7), pack.Str("other")),
	))
	if got := graph.Value(f); !sameBits(got, want) {
		t.Errorf("Value: %v, not %v", got, want)
	}
	if got, e := graph.Read(want); e != api.OK || !sameFlow(got, f) {
		t.Errorf("Read: %v, %d", got, e)
	}
	b, e := pack.Put(graph.Value(flow(task("a"))))
	if want := "\x03\x00\x02\x02\x00\x01f\x03\x00\x01\x03\x00\x06\x02\x00\x01a\x03\x00\x00\x01\x01\x02\x01\x01\x02\x01\x01\x01\x02\x00\x00"; b != want || e != api.OK {
		t.Errorf("the bytes: %x, %d", b, e)
	}
}

// oddFlows: workflows most of which Check refuses; all have a Value.
func oddFlows() []graph.Flow {
	flows := []graph.Flow{
		{}, {Name: "f"}, {Nodes: make([]graph.Node, 1)}, {Nodes: make([]graph.Node, 300)}, {Name: "f", Nodes: []graph.Node{}},
		flow(tasks(12)...), flow(task("a", make([]string, 300)...)), flow(task("a", "a", "a", "nobody")), flow(task("a"), task("a")),
		flow(task(strings.Repeat("long", 5000), strings.Repeat("longer", 5000))),
	}
	for _, s := range oddTexts() {
		flows = append(flows, graph.Flow{Name: s, Nodes: []graph.Node{call(s, 1, s, s, s)}})
	}
	for _, n := range edgeInts() {
		flows = append(flows, flow(graph.Node{Lease: int64(n)}))
		if n >= -1<<31 && n <= 1<<31-1 {
			flows = append(flows, flow(graph.Node{Tries: n}), flow(graph.Node{Tenant: n}))
		}
	}
	return flows
}

func TestP12_3AnyWorkflow(t *testing.T) {
	for _, f := range oddFlows() {
		v := graph.Value(f)
		if !sameBits(v, slowValue(f)) {
			t.Errorf("Value: %.200v", v)
		}
		if got, e := graph.Read(v); e != api.OK || !sameFlow(got, f) {
			t.Errorf("Read: %d: %.200v", e, f)
		}
	}
	r := rand.New(rand.NewSource(124))
	for range 3000 {
		f := anyFlow(r)
		v := graph.Value(f)
		if !sameBits(v, slowValue(f)) {
			t.Errorf("Value: %v", v)
		}
		if readAlike(t, "by chance", v) {
			if got, _ := graph.Read(v); !sameFlow(got, f) {
				t.Errorf("Read: %v, not %v", got, f)
			}
		}
	}
}

func TestP12_3FromWhereToWhere(t *testing.T) {
	for _, n := range edgeInts() {
		want := api.OK
		if n < math.MinInt32 || n > math.MaxInt32 {
			want = api.ErrForm
		}
		for at := range 3 {
			for what, change := range map[string]func(*graph.Node){
				"Tries":  func(m *graph.Node) { m.Tries = n },
				"Tenant": func(m *graph.Node) { m.Tenant = n },
			} {
				nodes := tasks(3)
				change(&nodes[at])
				f := flow(nodes...)
				v := graph.Value(f)
				if !sameBits(v, slowValue(f)) {
					t.Errorf("%s %d: %v", what, n, v)
				}
				got, e := graph.Read(v)
				if e != want || e == api.OK && !sameFlow(got, f) || e != api.OK && !isNone(got) {
					t.Errorf("%s %d: %d, %v", what, n, e, got)
				}
			}
		}
		f := flow(but(task("a"), func(m *graph.Node) { m.Lease = int64(n) }))
		if got, e := graph.Read(graph.Value(f)); e != api.OK || !sameFlow(got, f) {
			t.Errorf("Lease %d: %d", n, e)
		}
	}
}

func TestP12_3NoWorkflow(t *testing.T) {
	text, number, none := pack.Str("a"), pack.Num(1), pack.All()
	node := []pack.Value{text, none, number, number, number, text}
	values := []pack.Value{
		{}, {Kind: 3}, {Kind: -1}, {Kind: math.MaxInt}, text, number, none,
		pack.All(text), pack.All(none), pack.All(none, text), pack.All(text, text), pack.All(text, number), pack.All(number, none), pack.All(none, none),
		pack.All(text, none, none), pack.All(text, none, text), pack.All(text, none, number),
		pack.All(text, pack.All(text)), pack.All(text, pack.All(number)), pack.All(text, pack.All(none)),
		pack.All(text, pack.All(node...)), pack.All(node...), pack.All(pack.All(node...)),
		pack.All(text, pack.All(pack.All(node...), none)), pack.All(text, pack.All(none, pack.All(node...))),
		pack.All(text, pack.All(pack.All(pack.All(node...)))),
		{Kind: 3, L: pack.All(text, none).L}, {Kind: pack.Text, L: pack.All(text, none).L}, {L: pack.All(text, none).L},
	}
	flowOf := func(nodes ...pack.Value) pack.Value { return pack.All(text, pack.All(nodes...)) }
	for count := range 12 {
		l := append(slices.Clone(node), text, text, text, text, text, text)[:count]
		if count != 6 {
			values = append(values, flowOf(pack.All(l...)), flowOf(pack.All(node...), pack.All(l...)))
		}
	}
	for at, is := range node {
		for _, other := range []pack.Value{text, number, none, {Kind: 3}, {Kind: -1}} {
			if other.Kind == is.Kind {
				continue
			}
			l := slices.Clone(node)
			l[at] = other
			values = append(values, flowOf(pack.All(l...)), flowOf(pack.All(node...), pack.All(l...)), flowOf(pack.All(l...), pack.All(node...)))
		}
	}
	for _, other := range []pack.Value{number, none, {Kind: 3}, pack.All(text)} {
		for _, deps := range [][]pack.Value{{other}, {text, other}, {other, text}} {
			l := slices.Clone(node)
			l[1] = pack.All(deps...)
			values = append(values, flowOf(pack.All(l...)), flowOf(pack.All(node...), pack.All(l...)))
		}
	}
	for _, v := range values {
		if f, e := graph.Read(v); e != api.ErrForm || !isNone(f) {
			t.Errorf("%s: %d, %v", shape(v), e, f)
		}
		if slowReads(v) {
			t.Errorf("%s: the slow form reads it", shape(v))
		}
	}
	if f, e := graph.Read(flowOf(pack.All(node...))); e != api.OK || !sameFlow(f, graph.Flow{Name: "a", Nodes: []graph.Node{{Name: "a", Tries: 1, Lease: 1, Tenant: 1, Flow: "a"}}}) {
		t.Errorf("the sound one: %d, %v", e, f)
	}
}

// What isn't a value's kind's counts for nothing (layer 2), neither for it nor
// against it.
func TestP12_3FieldsOfOtherKinds(t *testing.T) {
	f := flow(task("a"), call("b", 3, "x", "a"))
	var spoil func(v pack.Value) pack.Value
	spoil = func(v pack.Value) pack.Value {
		w := pack.Value{Kind: v.Kind, N: math.MaxInt64, S: "spoilt", L: []pack.Value{{Kind: 9}, {}}}
		switch v.Kind {
		case pack.Int:
			w.N = v.N
		case pack.Text:
			w.S = v.S
		case pack.List:
			w.L = nil
			for _, x := range v.L {
				w.L = append(w.L, spoil(x))
			}
		}
		return w
	}
	if got, e := graph.Read(spoil(graph.Value(f))); e != api.OK || !sameFlow(got, f) {
		t.Errorf("%d, %v", e, got)
	}
}

// places: how many values stand in one, itself among them.
func places(v pack.Value) int {
	n := 1
	for _, w := range v.L {
		n += places(w)
	}
	return n
}

// changed: the value, with what stands at a place, counted from the outside in,
// put into the place of another one.
func changed(v pack.Value, place int, to func(pack.Value) pack.Value) pack.Value {
	if place == 0 {
		return to(v)
	}
	place--
	for at, w := range v.L {
		if n := places(w); place < n {
			l := slices.Clone(v.L)
			l[at] = changed(w, place, to)
			v.L = l
			return v
		} else {
			place -= n
		}
	}
	return v
}

func TestP12_3ReadByChance(t *testing.T) {
	r := rand.New(rand.NewSource(125))
	ints := edgeInts()
	reads := 0
	other := func(v pack.Value) pack.Value {
		switch r.Intn(7) {
		case 0:
			return pack.Str("t")
		case 1:
			return pack.Num(int64(ints[r.Intn(len(ints))]))
		case 2:
			return pack.All()
		case 3:
			return pack.All(v)
		case 4:
			return pack.Value{Kind: v.Kind + 1, N: v.N, S: v.S, L: v.L}
		case 5:
			if len(v.L) > 0 {
				return pack.All(v.L[1:]...)
			}
			return pack.Value{Kind: v.Kind, N: -v.N, S: v.S + v.S}
		}
		return pack.Value{Kind: v.Kind, N: v.N, S: v.S, L: append(slices.Clone(v.L), pack.Str("m"))}
	}
	for range 20000 {
		v := graph.Value(anyFlow(r))
		for range r.Intn(3) {
			v = changed(v, r.Intn(places(v)), other)
		}
		if readAlike(t, "by chance", v) {
			reads++
		}
	}
	if reads < 3000 || reads > 17000 {
		t.Errorf("%d of 20000 are read", reads)
	}
}

// Calls end soon, and none panics, whatever is handed in.
func TestP1AnyArguments(t *testing.T) {
	for _, f := range oddFlows() {
		checkAlike(t, "odd", f)
		graph.Masks(f)
	}
	many := make([]graph.Node, 40)
	for at := range many {
		many[at] = task("n"+strconv.Itoa(at), "n39", "nobody", "n0")
	}
	if got := graph.Masks(flow(many...)); len(got) != 40 {
		t.Errorf("%d masks", len(got))
	}
	var kinds func(depth int) pack.Value
	kinds = func(depth int) pack.Value {
		if depth == 0 {
			return pack.All()
		}
		return pack.Value{Kind: pack.List, L: []pack.Value{kinds(depth - 1)}}
	}
	if f, e := graph.Read(kinds(1 << 16)); e != api.ErrForm || !isNone(f) {
		t.Errorf("many lists within one another: %d", e)
	}
	round := []pack.Value{pack.Str("f"), {Kind: pack.List}}
	round[1].L = round
	if f, e := graph.Read(pack.Value{Kind: pack.List, L: round}); e != api.ErrForm || !isNone(f) {
		t.Errorf("a list within itself: %d", e)
	}
}

func TestP1LargeOnesEndSoon(t *testing.T) {
	start := time.Now()
	long := strings.Repeat("a", 1<<20)
	nodes := tasks(12)
	for at := range nodes {
		for range 12 {
			nodes[at].Deps = append(nodes[at].Deps, strings.Clone(long)[at:])
		}
	}
	wantCheck(t, "long texts", flow(nodes...), 0, api.ErrDep)
	wantCheck(t, "a long name", graph.Flow{Name: long, Nodes: nodes}, -1, api.ErrName)
	nodes = tasks(12)
	nodes[3].Deps = make([]string, 1<<22)
	wantCheck(t, "many deps", flow(nodes...), 3, api.ErrNode)
	wantCheck(t, "many nodes", flow(make([]graph.Node, 1<<20)...), -1, api.ErrNode)
	f := graph.Flow{Name: long, Nodes: make([]graph.Node, 1<<17)}
	f.Nodes[7].Deps = make([]string, 1<<18)
	if got, e := graph.Read(graph.Value(f)); e != api.OK || !sameFlow(got, f) {
		t.Errorf("a large value: %d", e)
	}
	if d := time.Since(start); d > time.Minute {
		t.Errorf("it took %v", d)
	}
}

// Rule 7, and P2: what one call is told makes no difference to the next.
func TestP2SameAgain(t *testing.T) {
	good, bad := flow(task("a"), task("b", "a")), flow(task("a", "b"), task("b", "a"))
	for range 3 {
		wantCheck(t, "good", good, 0, api.OK)
		wantCheck(t, "bad", bad, 0, api.ErrCycle)
		if got := graph.Masks(good); !slices.Equal(got, []uint32{0, 1}) {
			t.Errorf("Masks: %v", got)
		}
		if got, e := graph.Read(graph.Value(good)); e != api.OK || !sameFlow(got, good) {
			t.Errorf("Read: %v, %d", got, e)
		}
	}
}

// Rule 4: what is handed in is not changed.
func TestArgumentsStayAsTheyAre(t *testing.T) {
	r := rand.New(rand.NewSource(126))
	for range 500 {
		f := anyFlow(r)
		before := deepCopy(f)
		graph.Check(f)
		graph.Masks(f)
		v := graph.Value(f)
		if !reflect.DeepEqual(f, before) {
			t.Fatalf("the workflow was changed: %v", f)
		}
		same := slowValue(f)
		graph.Read(v)
		if !sameBits(v, same) {
			t.Fatalf("the value was changed: %v", v)
		}
	}
}

func deepCopy(f graph.Flow) graph.Flow {
	f.Nodes = slices.Clone(f.Nodes)
	for at := range f.Nodes {
		f.Nodes[at].Deps = slices.Clone(f.Nodes[at].Deps)
	}
	return f
}

// Rule 4: what lies behind a list's length is neither read nor written.
func TestBehindAListsLength(t *testing.T) {
	deps := []string{"a", "a", "x"}
	nodes := []graph.Node{task("a"), task("b", deps[:1]...), task("a", "c")}
	f := flow(nodes[:2]...)
	wantCheck(t, "cut short", f, 0, api.OK)
	if got := graph.Masks(f); !slices.Equal(got, []uint32{0, 1}) {
		t.Errorf("Masks: %v", got)
	}
	v := graph.Value(f)
	if !sameBits(v, slowValue(flow(task("a"), task("b", "a")))) {
		t.Errorf("Value: %v", v)
	}
	l := append(slices.Clone(v.L[1].L), pack.Num(1))
	v.L[1].L = l[:2]
	if got, e := graph.Read(v); e != api.OK || !sameFlow(got, flow(task("a"), task("b", "a"))) {
		t.Errorf("Read: %v, %d", got, e)
	}
	if nodes[2].Name != "a" || !slices.Equal(deps, []string{"a", "a", "x"}) || l[2].N != 1 {
		t.Errorf("it was written behind a list's length")
	}
}

// behindIt: is there nothing behind a list's length?
func behindIt[T any](l []T) bool {
	for _, x := range l[len(l):cap(l)] {
		if !reflect.ValueOf(x).IsZero() {
			return false
		}
	}
	return true
}

// textsOf: where the texts of a workflow lie.
func textsOf(f graph.Flow) []*byte {
	all := []*byte{unsafe.StringData(f.Name)}
	for _, n := range f.Nodes {
		all = append(all, unsafe.StringData(n.Name), unsafe.StringData(n.Flow))
		for _, dep := range n.Deps {
			all = append(all, unsafe.StringData(dep))
		}
	}
	return all
}

// textsIn: where the texts of a value lie.
func textsIn(v pack.Value) []*byte {
	var all []*byte
	if v.Kind == pack.Text {
		all = append(all, unsafe.StringData(v.S))
	}
	for _, w := range v.L {
		all = append(all, textsIn(w)...)
	}
	return all
}

// Rule 4: what is answered is new memory, its texts, too.
func TestAnswersShareNothing(t *testing.T) {
	f := graph.Flow{Name: "flow", Nodes: []graph.Node{task("one"), call("two", 2, "other", "one", "three"), call("three", 3, "more", "one")}}
	v := graph.Value(f)
	kept := slowValue(deepCopy(f))
	for _, p := range textsIn(v) {
		if p != nil && slices.Contains(textsOf(f), p) {
			t.Errorf("Value shares a text")
		}
	}
	g, e := graph.Read(v)
	if e != api.OK {
		t.Fatal(e)
	}
	h, _ := graph.Read(v)
	for _, p := range textsOf(g) {
		if p != nil && slices.Contains(textsIn(v), p) {
			t.Errorf("Read shares a text")
		}
	}
	for at := range f.Nodes {
		clear(f.Nodes[at].Deps)
	}
	clear(f.Nodes)
	if !sameBits(v, kept) {
		t.Errorf("Value keeps what it was handed")
	}
	var wipe func(l []pack.Value)
	wipe = func(l []pack.Value) {
		for _, w := range l {
			wipe(w.L)
		}
		clear(l)
	}
	wipe(v.L)
	if !sameBits(slowValue(g), kept) {
		t.Errorf("Read keeps what it was handed")
	}
	for at := range g.Nodes {
		if !behindIt(g.Nodes[at].Deps) {
			t.Errorf("there is something behind Deps")
		}
		// Writing behind one list reaches no other.
		full := g.Nodes[at].Deps[:cap(g.Nodes[at].Deps)]
		for n := range full {
			full[n] = "spoilt"
		}
	}
	if !behindIt(g.Nodes) {
		t.Errorf("there is something behind Nodes")
	}
	clear(g.Nodes[:cap(g.Nodes)])
	if !sameBits(slowValue(h), kept) {
		t.Errorf("two answers share something")
	}
}

func TestListsOfOneAnswerShareNothing(t *testing.T) {
	f := flow(task("a"), task("b", "a"), task("c", "a", "b"), task("d"))
	g, _ := graph.Read(graph.Value(f))
	for at := range g.Nodes {
		l := g.Nodes[at].Deps
		_ = append(l, "spoilt", "spoilt", "spoilt")
		if !slices.Equal(l, f.Nodes[at].Deps) {
			t.Errorf("node %d: %v", at, l)
		}
	}
	if !sameFlow(g, f) {
		t.Errorf("a list was written behind another one's length: %v", g)
	}
	masks := graph.Masks(f)
	again := graph.Masks(f)
	clear(masks[:cap(masks)])
	if !slices.Equal(again, []uint32{0, 1, 3, 0}) {
		t.Errorf("Masks share something: %v", again)
	}
	v := graph.Value(f)
	_ = append(v.L[1].L[1].L[1].L, pack.Str("spoilt"))
	_ = append(v.L[1].L[0].L[1].L, pack.Str("spoilt"))
	_ = append(v.L[1].L, pack.Str("spoilt"))
	if !sameBits(v, slowValue(f)) {
		t.Errorf("lists of a value share something")
	}
}
