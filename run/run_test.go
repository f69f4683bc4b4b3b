package run_test

import (
	"math"
	"math/rand"
	"reflect"
	"slices"
	"strings"
	"sync"
	"testing"
	"time"
	"unsafe"

	"precinct/api"
	"precinct/graph"
	"precinct/node"
	"precinct/pack"
	"precinct/run"
)

const letters = "abcdefghijkl"

func task(name string, tries int, lease int64, deps ...string) graph.Node {
	return graph.Node{Name: name, Deps: deps, Tries: tries, Lease: lease, Tenant: graph.Own}
}

func call(name string, lease int64, deps ...string) graph.Node {
	return graph.Node{Name: name, Deps: deps, Tries: 1, Lease: lease, Tenant: 3, Flow: "other"}
}

func flow(nodes ...graph.Node) graph.Flow { return graph.Flow{Name: "f", Nodes: nodes} }

// example: a, b that waits for a, and c that calls and waits for b.
func example() graph.Flow {
	return flow(task("a", 1, 5), task("b", 2, 5, "a"), call("c", 7, "b"))
}

// bare: a run of a workflow in these states, as Read would give it.
func bare(f graph.Flow, states ...node.State) run.Run {
	return run.Run{ID: 8, From: run.Origin{Tenant: 2, Call: 5}, Flow: f, Nodes: states}
}

// in: states in these phases, each at try 1, up to 10, since 4.
func in(phases ...node.Phase) []node.State {
	states := make([]node.State, len(phases))
	for n, p := range phases {
		states[n] = node.State{Phase: p, Try: 1, Until: 10, At: 4}
	}
	return states
}

// phasesOf: the phases of a run's nodes.
func phasesOf(r run.Run) []node.Phase {
	var phases []node.Phase
	for _, s := range r.Nodes {
		phases = append(phases, s.Phase)
	}
	return phases
}

// told: what a call tells, with what its error, or its bool, would be.
type told struct {
	run          run.Run
	ready, calls []int
	e            api.Errno
	ok           bool
}

func changed(c run.Change, e api.Errno) told {
	return told{run: c.Run, ready: c.Ready, calls: c.Calls, e: e}
}

func expired(c run.Change, ok bool) told {
	return told{run: c.Run, ready: c.Ready, calls: c.Calls, ok: ok}
}

func leased(r run.Run, e api.Errno) told { return told{run: r, e: e} }

func sameFlow(a, b graph.Flow) bool {
	return a.Name == b.Name && slices.EqualFunc(a.Nodes, b.Nodes, func(n, m graph.Node) bool {
		same := slices.Equal(n.Deps, m.Deps)
		n.Deps, m.Deps = nil, nil
		return same && reflect.DeepEqual(n, m)
	})
}

// sameRun: are two runs alike, whether their empty lists are nil or not?
func sameRun(a, b run.Run) bool {
	return a.ID == b.ID && a.From == b.From && sameFlow(a.Flow, b.Flow) && slices.Equal(a.Nodes, b.Nodes)
}

func alike(a, b told) bool {
	return sameRun(a.run, b.run) && slices.Equal(a.ready, b.ready) && slices.Equal(a.calls, b.calls) && a.e == b.e && a.ok == b.ok
}

func hold(t *testing.T, what string, of run.Run, got, want told) {
	t.Helper()
	if !alike(got, want) {
		t.Fatalf("%s of %+v:\n%+v, not\n%+v", what, of, got, want)
	}
}

func deepCopy(r run.Run) run.Run {
	r.Nodes = slices.Clone(r.Nodes)
	r.Flow.Nodes = slices.Clone(r.Flow.Nodes)
	for n := range r.Flow.Nodes {
		r.Flow.Nodes[n].Deps = slices.Clone(r.Flow.Nodes[n].Deps)
	}
	return r
}

// slowSettle: by the chapter's words, going through names; what woke is told as it wakes.
func slowSettle(r run.Run, now int64) (ready, calls []int) {
	for again := true; again; {
		again = false
		for n, s := range r.Nodes {
			if s.Phase != node.Waiting {
				continue
			}
			skip, wake := false, true
			for _, dep := range r.Flow.Nodes[n].Deps {
				for m, other := range r.Flow.Nodes {
					if other.Name != dep {
						continue
					}
					p := r.Nodes[m].Phase
					skip = skip || p == node.Failed || p == node.Skipped
					wake = wake && p == node.Done
				}
			}
			isCall := r.Flow.Nodes[n].Tenant >= 0
			switch {
			case skip:
				r.Nodes[n], _ = s.Skip(now)
			case wake:
				r.Nodes[n], _ = s.Wake(now, r.Flow.Nodes[n].Lease, isCall)
				if isCall {
					calls = append(calls, n)
				} else {
					ready = append(ready, n)
				}
			}
			again = again || skip || wake
		}
	}
	slices.Sort(ready)
	slices.Sort(calls)
	return ready, calls
}

func slowBegin(id int64, f graph.Flow, from run.Origin, now int64) told {
	if _, e := graph.Check(f); e != 0 {
		return told{e: e}
	}
	r := deepCopy(run.Run{ID: id, From: from, Flow: f})
	for range f.Nodes {
		r.Nodes = append(r.Nodes, node.State{At: now})
	}
	ready, calls := slowSettle(r, now)
	return told{run: r, ready: ready, calls: calls}
}

func slowLease(r run.Run, n int, now int64) told {
	if n < 0 || n >= len(r.Flow.Nodes) {
		return told{e: 13}
	}
	s, e := r.Nodes[n].Lease(now, r.Flow.Nodes[n].Lease)
	if e != 0 {
		return told{e: e}
	}
	next := deepCopy(r)
	next.Nodes[n] = s
	return told{run: next}
}

// slowGoOn: the run with that state, settled; Ready: the node, if it is Ready, and those that have become so.
func slowGoOn(r run.Run, n int, s node.State, e api.Errno, now int64) told {
	if e != 0 {
		return told{e: e}
	}
	next := deepCopy(r)
	next.Nodes[n] = s
	ready, calls := slowSettle(next, now)
	if s.Phase == node.Ready {
		ready = append(ready, n)
		slices.Sort(ready)
	}
	return told{run: next, ready: ready, calls: calls}
}

func slowFinish(r run.Run, n int, now int64, try int, ok bool) told {
	if n < 0 || n >= len(r.Flow.Nodes) {
		return told{e: 13}
	}
	s, e := r.Nodes[n].Finish(now, try, r.Flow.Nodes[n].Tries, ok)
	return slowGoOn(r, n, s, e, now)
}

func slowAnswer(r run.Run, n int, now int64, ok bool) told {
	if n < 0 || n >= len(r.Flow.Nodes) {
		return told{e: 13}
	}
	s, e := r.Nodes[n].Answer(now, ok)
	return slowGoOn(r, n, s, e, now)
}

func slowExpire(r run.Run, now int64) told {
	next, some := deepCopy(r), false
	var ready []int
	for n, s := range r.Nodes {
		given, over := s.Expire(now, r.Flow.Nodes[n].Tries)
		if !over {
			continue
		}
		some = true
		next.Nodes[n] = given
		if given.Phase == node.Ready {
			ready = append(ready, n)
		}
	}
	if !some {
		return told{run: next}
	}
	more, calls := slowSettle(next, now)
	ready = append(ready, more...)
	slices.Sort(ready)
	return told{run: next, ready: ready, calls: calls, ok: true}
}

func slowStatus(r run.Run) run.Status {
	count := map[node.Phase]int{}
	for _, s := range r.Nodes {
		count[s.Phase]++
	}
	switch len(r.Nodes) {
	case count[node.Done]:
		return 1
	case count[node.Done] + count[node.Failed] + count[node.Skipped]:
		return 2
	}
	return 0
}

func slowValue(r run.Run) pack.Value {
	num := func(n int64) pack.Value { return pack.Value{N: n} }
	list := func(l ...pack.Value) pack.Value { return pack.Value{Kind: 2, L: l} }
	var states []pack.Value
	for _, s := range r.Nodes {
		states = append(states, list(num(int64(s.Phase)), num(int64(s.Try)), num(s.Until), num(s.At)))
	}
	return list(num(r.ID), num(int64(r.From.Tenant)), num(r.From.Call), graph.Value(r.Flow), list(states...))
}

// sameBits: are two values alike in all fields, whether empty lists are nil or not?
func sameBits(a, b pack.Value) bool {
	return a.Kind == b.Kind && a.N == b.N && a.S == b.S && slices.EqualFunc(a.L, b.L, sameBits)
}

// numbers: those that a list is of, as many as must be.
func numbers(v pack.Value, count int) ([]int64, bool) {
	if v.Kind != 2 || len(v.L) != count {
		return nil, false
	}
	var all []int64
	for _, w := range v.L {
		if w.Kind != 0 {
			return nil, false
		}
		all = append(all, w.N)
	}
	return all, true
}

// slowRead: by the chapter's words.
func slowRead(v pack.Value) (run.Run, api.Errno) {
	if v.Kind != 2 || len(v.L) != 5 {
		return run.Run{}, 4
	}
	first, ok := numbers(pack.Value{Kind: 2, L: v.L[:3]}, 3)
	f, e := graph.Read(v.L[3])
	_, wrong := graph.Check(f)
	if !ok || e != 0 || wrong != 0 || v.L[4].Kind != 2 || len(v.L[4].L) != len(f.Nodes) || int64(int32(first[1])) != first[1] {
		return run.Run{}, 4
	}
	r := run.Run{ID: first[0], From: run.Origin{Tenant: int(first[1]), Call: first[2]}, Flow: f}
	for _, w := range v.L[4].L {
		of, ok := numbers(w, 4)
		if !ok || of[0] < 0 || of[0] > 6 || int64(int32(of[1])) != of[1] {
			return run.Run{}, 4
		}
		r.Nodes = append(r.Nodes, node.State{Phase: node.Phase(of[0]), Try: int(of[1]), Until: of[2], At: of[3]})
	}
	return r, 0
}

// readAlike: does Read tell what the slow form does?
func readAlike(t *testing.T, what string, v pack.Value) bool {
	t.Helper()
	r, e := run.Read(v)
	slow, want := slowRead(v)
	hold(t, what, r, leased(r, e), leased(slow, want))
	if e == api.OK && !sameBits(r.Value(), slowValue(slow)) {
		t.Fatalf("%s: %v has another value", what, r)
	}
	return e == api.OK
}

// allAlike: does each call tell of a run what the slow form does?
func allAlike(t *testing.T, r run.Run, now int64) {
	t.Helper()
	for n := range r.Nodes {
		hold(t, "Lease", r, leased(r.Lease(n, now)), slowLease(r, n, now))
		for _, ok := range []bool{false, true} {
			hold(t, "Answer", r, changed(r.Answer(n, now, ok)), slowAnswer(r, n, now, ok))
			hold(t, "Finish", r, changed(r.Finish(n, now, r.Nodes[n].Try, ok)), slowFinish(r, n, now, r.Nodes[n].Try, ok))
		}
	}
	hold(t, "Expire", r, expired(r.Expire(now)), slowExpire(r, now))
	if got := r.Status(); got != slowStatus(r) {
		t.Fatalf("Status of %+v: %d", r, got)
	}
}

// anyFlow: a workflow that Check lets pass, whose nodes may wait for later ones, too.
func anyFlow(r *rand.Rand, most int) graph.Flow {
	count := 1 + r.Intn(most)
	place := r.Perm(count)
	nodes := make([]graph.Node, count)
	for at, n := range place {
		var deps []string
		for _, ahead := range place[:at] {
			if r.Intn(3) == 0 {
				deps = append(deps, letters[ahead:ahead+1])
			}
		}
		r.Shuffle(len(deps), func(i, j int) { deps[i], deps[j] = deps[j], deps[i] })
		nodes[n] = task(letters[n:n+1], 1+r.Intn(4), 1+r.Int63n(6), deps...)
		if r.Intn(3) == 0 {
			nodes[n] = call(letters[n:n+1], 1+r.Int63n(6), deps...)
			nodes[n].Tenant = r.Intn(api.MaxTenants)
		}
	}
	return flow(nodes...)
}

func TestExamples(t *testing.T) {
	c, e := run.Begin(1, example(), run.Origin{Tenant: graph.Own}, 3)
	if e != api.OK || !slices.Equal(c.Ready, []int{0}) || len(c.Calls) != 0 {
		t.Fatalf("Begin: %+v, %d", c, e)
	}
	r, _ := c.Run.Lease(0, 4)
	c, e = r.Finish(0, 5, 1, true)
	if e != api.OK || !slices.Equal(c.Ready, []int{1}) || len(c.Calls) != 0 {
		t.Fatalf("with a done: %+v, %d", c, e)
	}
	for try := 1; try <= 2; try++ {
		r, _ = c.Run.Lease(1, 6)
		c, e = r.Finish(1, 7, try, false)
	}
	if e != api.OK || c.Run.Nodes[1].Phase != node.Failed || c.Run.Nodes[2] != (node.State{Phase: node.Skipped, At: 7}) || c.Run.Status() != run.Broken {
		t.Errorf("with b failed for good: %+v, %d", c, e)
	}
	if len(c.Ready) != 0 || len(c.Calls) != 0 {
		t.Errorf("with b failed for good: %v, %v", c.Ready, c.Calls)
	}
}

func TestStatusesAreNumberedInTheirOrder(t *testing.T) {
	if run.Running != 0 || run.Succeeded != 1 || run.Broken != 2 {
		t.Errorf("%d, %d, %d", run.Running, run.Succeeded, run.Broken)
	}
}

func TestP15_1Begin(t *testing.T) {
	f := flow(call("a", 9), task("b", 2, 5), task("c", 1, 1, "b"), call("d", 4, "a"), call("e", 1<<20), task("f", 4, 2))
	c, e := run.Begin(77, f, run.Origin{Tenant: 6, Call: -3}, 20)
	want := told{
		run: run.Run{ID: 77, From: run.Origin{Tenant: 6, Call: -3}, Flow: f, Nodes: []node.State{
			{Phase: node.Calling, Until: 29, At: 20}, {Phase: node.Ready, At: 20}, {At: 20}, {At: 20}, {Phase: node.Calling, Until: 20 + 1<<20, At: 20}, {Phase: node.Ready, At: 20},
		}},
		ready: []int{1, 5}, calls: []int{0, 4},
	}
	hold(t, "Begin", run.Run{}, changed(c, e), want)
}

// The first tenant is one as any other: what calls its workflow is a call.
func TestP15_1CallsOfEachTenant(t *testing.T) {
	for tenant := range api.MaxTenants {
		n := call("a", 4)
		n.Tenant = tenant
		c, e := run.Begin(1, flow(n), run.Origin{Tenant: graph.Own}, 3)
		if e != api.OK || !slices.Equal(c.Calls, []int{0}) || len(c.Ready) != 0 || c.Run.Nodes[0] != (node.State{Phase: node.Calling, Until: 7, At: 3}) {
			t.Errorf("of tenant %d: %+v, %d", tenant, c, e)
		}
	}
}

// Numbers, origins and times are the caller's affair: all pass.
func TestP15_1BeginAtTheEdges(t *testing.T) {
	ints := []int64{math.MinInt64, math.MinInt32, -1, 0, 1, 7, math.MaxInt32, math.MaxInt64 - 5, math.MaxInt64}
	f := flow(task("a", 1, 1<<20), call("b", 1<<20), task("c", 1, 1, "a", "b"))
	for _, id := range ints {
		for _, from := range ints {
			for _, now := range ints {
				o := run.Origin{Tenant: int(from), Call: from}
				c, e := run.Begin(id, f, o, now)
				hold(t, "Begin", run.Run{}, changed(c, e), slowBegin(id, f, o, now))
				if until := c.Run.Nodes[1].Until; now > math.MaxInt64-1<<20 && until != math.MaxInt64 {
					t.Errorf("a call at %d lasts up to %d", now, until)
				}
			}
		}
	}
}

func TestP15_1BeginOfWrongOnes(t *testing.T) {
	good := task("a", 1, 1)
	for what, x := range map[string]struct {
		f graph.Flow
		e api.Errno
	}{
		"nothing":          {graph.Flow{}, api.ErrName},
		"no name":          {graph.Flow{Nodes: []graph.Node{good}}, api.ErrName},
		"no nodes":         {flow(), api.ErrNode},
		"too many nodes":   {flow(make([]graph.Node, 13)...), api.ErrNode},
		"a node's name":    {flow(good, task("B", 1, 1)), api.ErrName},
		"the same name":    {flow(good, good), api.ErrName},
		"no tries":         {flow(task("a", 0, 1)), api.ErrNode},
		"too many tries":   {flow(task("a", 5, 1)), api.ErrNode},
		"no lease":         {flow(good, task("b", 1, 0)), api.ErrNode},
		"too long a lease": {flow(good, task("b", 1, 1<<20+1)), api.ErrNode},
		"nobody":           {flow(task("a", 1, 1, "b")), api.ErrDep},
		"itself":           {flow(task("a", 1, 1, "a")), api.ErrCycle},
		"a round":          {flow(task("a", 1, 1, "b"), task("b", 1, 1, "a")), api.ErrCycle},
	} {
		c, e := run.Begin(1, x.f, run.Origin{Tenant: 1, Call: 2}, 3)
		if e != x.e || !alike(changed(c, e), told{e: x.e}) {
			t.Errorf("%s: %+v, %d", what, c, e)
		}
	}
}

func TestP15_1BeginByChance(t *testing.T) {
	r := rand.New(rand.NewSource(151))
	for range 3000 {
		f, from, now := anyFlow(r, 12), run.Origin{Tenant: r.Intn(9) - 1, Call: r.Int63()}, r.Int63n(100)
		c, e := run.Begin(5, f, from, now)
		hold(t, "Begin", run.Run{Flow: f}, changed(c, e), slowBegin(5, f, from, now))
		if c.Run.Status() != run.Running || len(c.Ready)+len(c.Calls) == 0 {
			t.Fatalf("%+v begins with nothing to be done", f)
		}
	}
}

func TestP15_1Status(t *testing.T) {
	f := flow(task("a", 1, 1), task("b", 1, 1), task("c", 1, 1))
	for a := range node.Phases {
		for b := range node.Phases {
			for c := range node.Phases {
				r := bare(f, in(a, b, c)...)
				want := run.Succeeded
				for _, p := range []node.Phase{a, b, c} {
					if p == node.Failed || p == node.Skipped {
						want = run.Broken
					}
				}
				for _, p := range []node.Phase{a, b, c} {
					if p < node.Done {
						want = run.Running
					}
				}
				if got := r.Status(); got != want || got != slowStatus(r) {
					t.Errorf("%d, %d, %d: %d, not %d", a, b, c, got, want)
				}
			}
		}
	}
}

// Nothing stands in a run that an error goes with: none of its nodes isn't over, and all are Done.
func TestP15_1StatusOfNone(t *testing.T) {
	if got := (run.Run{}).Status(); got != run.Succeeded {
		t.Errorf("%d", got)
	}
}

func TestP15_2NoSuchNode(t *testing.T) {
	c, _ := run.Begin(1, example(), run.Origin{}, 0)
	for _, n := range []int{math.MinInt, math.MinInt32, -1, 3, 4, 12, 1 << 20, math.MaxInt32, math.MaxInt} {
		hold(t, "Lease", c.Run, leased(c.Run.Lease(n, 1)), told{e: api.ErrNone})
		hold(t, "Finish", c.Run, changed(c.Run.Finish(n, 1, 0, true)), told{e: api.ErrNone})
		hold(t, "Answer", c.Run, changed(c.Run.Answer(n, 1, true)), told{e: api.ErrNone})
	}
	var none run.Run
	hold(t, "Lease", none, leased(none.Lease(0, 1)), told{e: api.ErrNone})
	hold(t, "Finish", none, changed(none.Finish(0, 1, 0, true)), told{e: api.ErrNone})
	hold(t, "Answer", none, changed(none.Answer(0, 1, true)), told{e: api.ErrNone})
}

func TestP15_2Lease(t *testing.T) {
	f := flow(task("a", 2, 6), task("b", 1, 9, "a"), task("c", 3, 1<<20))
	for at := range 3 {
		for p := range node.Phases {
			phases := []node.Phase{node.Done, node.Done, node.Done}
			phases[at] = p
			r := bare(f, in(phases...)...)
			want := told{e: api.ErrLease}
			if p == node.Ready {
				want = told{run: deepCopy(r)}
				want.run.Nodes[at] = node.State{Phase: node.Leased, Try: 2, Until: 30 + f.Nodes[at].Lease, At: 30}
			}
			hold(t, "Lease", r, leased(r.Lease(at, 30)), want)
		}
	}
	late := bare(f, in(node.Ready, node.Waiting, node.Ready)...)
	if got, e := late.Lease(2, math.MaxInt64-3); e != api.OK || got.Nodes[2].Until != math.MaxInt64 {
		t.Errorf("at the greatest int64: %+v, %d", got, e)
	}
}

// Lease does no more than that: a run that isn't settled isn't settled by it.
func TestP15_2LeaseSettlesNothing(t *testing.T) {
	r := bare(flow(task("a", 1, 1), task("b", 1, 1), task("c", 1, 1, "a")), in(node.Done, node.Ready, node.Waiting)...)
	got, e := r.Lease(1, 5)
	if e != api.OK || !slices.Equal(phasesOf(got), []node.Phase{node.Done, node.Leased, node.Waiting}) {
		t.Errorf("%+v, %d", got, e)
	}
}

func TestP15_2Finish(t *testing.T) {
	f := flow(task("a", 2, 6), task("b", 1, 9, "a"), call("c", 8, "a"), task("d", 1, 1, "b", "c"), call("e", 5, "a"), task("g", 1, 1, "a"))
	r := bare(f, in(node.Leased, node.Waiting, node.Waiting, node.Waiting, node.Waiting, node.Waiting)...)
	at7 := func(p node.Phase, until int64) node.State {
		return node.State{Phase: p, Try: 1, Until: until, At: 7}
	}
	want := told{run: deepCopy(r), ready: []int{1, 5}, calls: []int{2, 4}}
	want.run.Nodes = []node.State{at7(node.Done, 0), at7(node.Ready, 0), at7(node.Calling, 15), r.Nodes[3], at7(node.Calling, 12), at7(node.Ready, 0)}
	hold(t, "Finish", r, changed(r.Finish(0, 7, 1, true)), want)

	// It may be tried again: it alone is Ready, and what waits for it waits on.
	want = told{run: deepCopy(r), ready: []int{0}}
	want.run.Nodes[0] = at7(node.Ready, 0)
	hold(t, "Finish", r, changed(r.Finish(0, 7, 1, false)), want)

	// It may not: all that comes behind it is skipped.
	r.Nodes[0].Try = 2
	want = told{run: deepCopy(r)}
	want.run.Nodes[0] = node.State{Phase: node.Failed, Try: 2, At: 7}
	for n := 1; n < 6; n++ {
		want.run.Nodes[n] = at7(node.Skipped, 0)
	}
	hold(t, "Finish", r, changed(r.Finish(0, 7, 2, false)), want)

	for _, x := range []struct {
		n   int
		now int64
		try int
		e   api.Errno
	}{
		{0, 7, 1, api.ErrLease}, {0, 7, 3, api.ErrLease}, {0, 11, 2, api.ErrLease}, {1, 7, 1, api.ErrLease},
		{0, 7, math.MinInt, api.ErrLease}, {0, 7, math.MaxInt, api.ErrLease}, {0, math.MaxInt64, 2, api.ErrLease},
		{0, 10, 2, api.OK}, {0, math.MinInt64, 2, api.OK},
	} {
		got := changed(r.Finish(x.n, x.now, x.try, true))
		if got.e != x.e || x.e != api.OK && !alike(got, told{e: x.e}) {
			t.Errorf("Finish(%d, %d, %d): %+v", x.n, x.now, x.try, got)
		}
	}
}

func TestP15_2Answer(t *testing.T) {
	f := flow(call("a", 6), task("b", 1, 9, "a"), call("c", 8, "a", "b"), call("d", 3, "a"))
	r := bare(f, in(node.Calling, node.Waiting, node.Waiting, node.Waiting)...)
	at10 := func(p node.Phase, until int64) node.State {
		return node.State{Phase: p, Try: 1, Until: until, At: 10}
	}
	want := told{run: deepCopy(r), ready: []int{1}, calls: []int{3}}
	want.run.Nodes = []node.State{at10(node.Done, 0), at10(node.Ready, 0), r.Nodes[2], at10(node.Calling, 13)}
	hold(t, "Answer", r, changed(r.Answer(0, 10, true)), want)

	want = told{run: deepCopy(r)}
	want.run.Nodes = []node.State{at10(node.Failed, 0), at10(node.Skipped, 0), at10(node.Skipped, 0), at10(node.Skipped, 0)}
	hold(t, "Answer", r, changed(r.Answer(0, 10, false)), want)

	for _, ok := range []bool{false, true} {
		for n := 1; n < 4; n++ {
			hold(t, "Answer", r, changed(r.Answer(n, 5, ok)), told{e: api.ErrLease})
		}
		hold(t, "Answer", r, changed(r.Answer(0, 11, ok)), told{e: api.ErrLease})
		hold(t, "Answer", r, changed(r.Answer(0, math.MaxInt64, ok)), told{e: api.ErrLease})
		taken := bare(f, in(node.Leased, node.Waiting, node.Waiting, node.Waiting)...)
		hold(t, "Answer", taken, changed(taken.Answer(0, 5, ok)), told{e: api.ErrLease})
	}
}

// Settling goes through the nodes again and again: what waits for a later node follows it, row by row.
func TestP15_2SettlingGoesBackToo(t *testing.T) {
	var nodes []graph.Node
	for n := range 11 {
		nodes = append(nodes, call(letters[n:n+1], 4, letters[n+1:n+2]))
	}
	f := flow(append(nodes, task("l", 1, 1))...)
	states := in(node.Waiting, node.Waiting, node.Waiting, node.Waiting, node.Waiting, node.Waiting, node.Waiting, node.Waiting, node.Waiting, node.Waiting, node.Waiting, node.Leased)
	r := bare(f, states...)
	got := changed(r.Finish(11, 9, 1, false))
	for n, s := range got.run.Nodes[:11] {
		if s != (node.State{Phase: node.Skipped, Try: 1, At: 9}) {
			t.Errorf("node %d: %+v", n, s)
		}
	}
	if got.run.Status() != run.Broken || len(got.ready) != 0 || len(got.calls) != 0 {
		t.Errorf("%+v", got)
	}
	got = changed(r.Finish(11, 9, 1, true))
	if got.run.Status() != run.Running || !slices.Equal(got.calls, []int{10}) || len(got.ready) != 0 {
		t.Errorf("%+v", got)
	}
}

// A failed one is told ahead of others that aren't Done yet: nobody waits on for those.
func TestP15_2SkippedAtOnce(t *testing.T) {
	f := flow(task("a", 1, 5), task("b", 1, 5), task("c", 1, 5, "a", "b"), task("d", 1, 5, "c"))
	r := bare(f, in(node.Leased, node.Leased, node.Waiting, node.Waiting)...)
	c, e := r.Finish(1, 5, 1, false)
	if e != api.OK || !slices.Equal(phasesOf(c.Run), []node.Phase{node.Leased, node.Failed, node.Skipped, node.Skipped}) || c.Run.Status() != run.Running {
		t.Errorf("%+v, %d", c, e)
	}
	c, e = c.Run.Finish(0, 5, 1, true)
	if e != api.OK || c.Run.Status() != run.Broken || len(c.Ready) != 0 {
		t.Errorf("%+v, %d", c, e)
	}
}

func TestP15_3Expire(t *testing.T) {
	f := flow(task("a", 2, 6), task("b", 1, 9), call("c", 8), task("d", 3, 1, "c"), task("e", 1, 1, "a"), call("g", 5), task("h", 1, 1))
	states := in(node.Leased, node.Leased, node.Calling, node.Waiting, node.Waiting, node.Calling, node.Ready)
	states[5].Until = 11
	r := bare(f, states...)
	for _, now := range []int64{math.MinInt64, 0, 9, 10} {
		hold(t, "Expire", r, expired(r.Expire(now)), told{run: r})
	}
	at := func(p node.Phase) node.State { return node.State{Phase: p, Try: 1, At: 11} }
	want := told{run: deepCopy(r), ready: []int{0}, ok: true}
	want.run.Nodes = []node.State{at(node.Ready), at(node.Failed), at(node.Failed), at(node.Skipped), states[4], states[5], states[6]}
	hold(t, "Expire", r, expired(r.Expire(11)), want)
	want.run.Nodes[5] = at(node.Failed)
	for n := range want.run.Nodes {
		if want.run.Nodes[n].At == 11 {
			want.run.Nodes[n].At = math.MaxInt64
		}
	}
	hold(t, "Expire", r, expired(r.Expire(math.MaxInt64)), want)
	if again := expired(want.run.Expire(math.MaxInt64)); again.ok || !sameRun(again.run, want.run) {
		t.Errorf("it expires again: %+v", again)
	}
}

// Read gives runs that aren't settled, too: they are once one is given up, and not ahead of that.
func TestP15_3ExpireSettlesOnlyThen(t *testing.T) {
	f := flow(task("a", 2, 6), task("b", 1, 9), task("c", 1, 1, "b"), call("d", 7, "b"))
	r := bare(f, in(node.Leased, node.Done, node.Waiting, node.Waiting)...)
	hold(t, "Expire", r, expired(r.Expire(10)), told{run: r})
	got := expired(r.Expire(11))
	if !got.ok || !slices.Equal(got.ready, []int{0, 2}) || !slices.Equal(got.calls, []int{3}) || got.run.Nodes[3].Until != 18 {
		t.Errorf("%+v", got)
	}
}

// byHand: three nodes, of each way in which they can wait for one another; some are calls.
func byHand(yield func(graph.Flow) bool) {
	for waits := range 1 << 6 {
		nodes := []graph.Node{task("a", 2, 3), task("b", 1, 2), call("c", 4)}
		for bit, pair := range [][2]int{{0, 1}, {0, 2}, {1, 0}, {1, 2}, {2, 0}, {2, 1}} {
			if waits>>bit&1 == 1 {
				n := &nodes[pair[0]]
				n.Deps = append(n.Deps, letters[pair[1]:pair[1]+1])
			}
		}
		f := flow(nodes...)
		if _, e := graph.Check(f); e == api.OK && !yield(f) {
			return
		}
	}
}

// All workflows of three nodes, with their nodes in all phases: settled or not.
func TestP15AllOfThreeNodes(t *testing.T) {
	flows := 0
	for f := range byHand {
		flows++
		for p := range int(node.Phases * node.Phases * node.Phases) {
			a, b, c := node.Phase(p%7), node.Phase(p/7%7), node.Phase(p/49)
			r := bare(f, in(a, b, c)...)
			allAlike(t, r, 10)
			hold(t, "Expire", r, expired(r.Expire(11)), slowExpire(r, 11))
		}
	}
	if flows != 25 {
		t.Errorf("%d workflows, not 25", flows)
	}
}

// anyStates: states by chance, settled or not.
func anyStates(r *rand.Rand, count int) []node.State {
	states := make([]node.State, count)
	for n := range states {
		states[n] = node.State{Phase: node.Phase(r.Intn(7)), Try: r.Intn(5), Until: r.Int63n(20), At: r.Int63n(20)}
	}
	return states
}

func TestP15AnyStatesByChance(t *testing.T) {
	r := rand.New(rand.NewSource(152))
	for range 3000 {
		f := anyFlow(r, 12)
		allAlike(t, bare(f, anyStates(r, len(f.Nodes))...), r.Int63n(20))
	}
}

// step: a call by chance of a run, and what the chapter's words give for it.
func step(r *rand.Rand, of run.Run, now int64) (got, want told) {
	n, ok := r.Intn(len(of.Nodes)+2)-1, r.Intn(8) > 0
	try := r.Intn(4)
	if n >= 0 && n < len(of.Nodes) && r.Intn(4) > 0 {
		try = of.Nodes[n].Try
	}
	switch r.Intn(6) {
	case 0, 1:
		return leased(of.Lease(n, now)), slowLease(of, n, now)
	case 2, 3:
		return changed(of.Finish(n, now, try, ok)), slowFinish(of, n, now, try, ok)
	case 4:
		return changed(of.Answer(n, now, ok)), slowAnswer(of, n, now, ok)
	}
	return expired(of.Expire(now)), slowExpire(of, now)
}

// Whole lives: from the beginning till nothing is to come, with what is told on the way.
func TestP15WholeLives(t *testing.T) {
	r := rand.New(rand.NewSource(153))
	var ends [3]int
	for range 400 {
		c, _ := run.Begin(1, anyFlow(r, 12), run.Origin{}, 0)
		at, now := c.Run, int64(0)
		for at.Status() == run.Running {
			if r.Intn(20) == 0 {
				now++
			}
			got, want := step(r, at, now)
			hold(t, "a step", at, got, want)
			if got.e != api.OK {
				continue
			}
			for _, n := range got.ready {
				if got.run.Nodes[n].Phase != node.Ready || got.run.Nodes[n].At != now {
					t.Fatalf("%d isn't Ready since %d: %+v", n, now, got.run)
				}
			}
			for _, n := range got.calls {
				if got.run.Nodes[n].Phase != node.Calling || got.run.Nodes[n].At != now {
					t.Fatalf("%d isn't Calling since %d: %+v", n, now, got.run)
				}
			}
			at = got.run
			readAlike(t, "on the way", at.Value())
		}
		ends[at.Status()]++
	}
	if ends[run.Running] > 0 || ends[run.Succeeded] < 50 || ends[run.Broken] < 50 {
		t.Errorf("the lives end so: %v", ends)
	}
}

func TestP15_4ValueOfOne(t *testing.T) {
	f := flow(task("a", 2, 6), call("b", 9, "a"))
	r := run.Run{ID: 300, From: run.Origin{Tenant: graph.Own, Call: -9}, Flow: f, Nodes: []node.State{
		{Phase: node.Done, Try: 2, At: 40}, {Phase: node.Calling, Try: -1, Until: 49, At: -40},
	}}
	want := pack.All(pack.Num(300), pack.Num(-1), pack.Num(-9), graph.Value(f), pack.All(
		pack.All(pack.Num(4), pack.Num(2), pack.Num(0), pack.Num(40)),
		pack.All(pack.Num(3), pack.Num(-1), pack.Num(49), pack.Num(-40)),
	))
	if got := r.Value(); !sameBits(got, want) {
		t.Errorf("Value: %v, not %v", got, want)
	}
	if got, e := run.Read(want); e != api.OK || !sameRun(got, r) {
		t.Errorf("Read: %+v, %d", got, e)
	}
	b, e := pack.Put(want)
	back, _ := pack.Get(b)
	if got, _ := run.Read(back); e != api.OK || !sameRun(got, r) {
		t.Errorf("by way of its bytes: %+v, %d", got, e)
	}
}

var edges = []int64{
	math.MinInt64, math.MinInt64 + 1, math.MinInt32 - 1, math.MinInt32, math.MinInt32 + 1, -7, -1, 0, 1, 3, 6, 7, 8, 64,
	math.MaxInt32 - 1, math.MaxInt32, math.MaxInt32 + 1, 1 << 32, 1<<32 + 3, math.MaxInt64 - 1, math.MaxInt64,
}

func TestP15_4FromWhereToWhere(t *testing.T) {
	f := flow(task("a", 2, 6), call("b", 9, "a"), task("c", 1, 1))
	good := slowValue(bare(f, in(node.Done, node.Calling, node.Ready)...))
	within := func(from, to, n int64) bool { return from <= n && n <= to }
	for _, n := range edges {
		small := within(-1<<31, 1<<31-1, n)
		for _, x := range []struct {
			what   string
			places [][]int
			passes bool
		}{
			{"ID and Call", [][]int{{0}, {2}}, true},
			{"Tenant", [][]int{{1}}, small},
			{"Phase", [][]int{{4, 0, 0}, {4, 1, 0}, {4, 2, 0}}, within(0, 6, n)},
			{"Try", [][]int{{4, 0, 1}, {4, 1, 1}, {4, 2, 1}}, small},
			{"Until and At", [][]int{{4, 0, 2}, {4, 1, 2}, {4, 2, 2}, {4, 0, 3}, {4, 1, 3}, {4, 2, 3}}, true},
		} {
			for _, place := range x.places {
				v := with(good, place, pack.Num(n))
				if passes := readAlike(t, x.what, v); passes != x.passes {
					t.Errorf("%s %d at %v: %v", x.what, n, place, passes)
				}
				if r, e := run.Read(v); e == api.OK && !sameBits(r.Value(), v) {
					t.Errorf("%s %d at %v: %v", x.what, n, place, r)
				}
			}
		}
	}
}

// with: the value, with another one at a place, which is told list by list.
func with(v pack.Value, place []int, other pack.Value) pack.Value {
	if len(place) == 0 {
		return other
	}
	v.L = slices.Clone(v.L)
	v.L[place[0]] = with(v.L[place[0]], place[1:], other)
	return v
}

// at: what stands at a place.
func at(v pack.Value, place []int) pack.Value {
	for _, n := range place {
		v = v.L[n]
	}
	return v
}

// placesIn: all places in a value, its own among them.
func placesIn(v pack.Value) [][]int {
	all := [][]int{nil}
	for n, w := range v.L {
		for _, place := range placesIn(w) {
			all = append(all, append([]int{n}, place...))
		}
	}
	return all
}

func TestP15_4NoRun(t *testing.T) {
	f := flow(task("a", 2, 6), call("b", 9, "a"))
	good := slowValue(bare(f, in(node.Done, node.Calling)...))
	if !readAlike(t, "the good one", good) {
		t.Fatal("the good one isn't read")
	}
	refused := func(what string, v pack.Value) {
		t.Helper()
		if readAlike(t, what, v) {
			t.Errorf("%s is read: %v", what, v)
		}
	}
	others := []pack.Value{pack.Num(1), pack.Str("a"), pack.All(), {Kind: 3, N: 1, S: "a", L: good.L}, {Kind: -1}}
	for _, place := range placesIn(good) {
		is := at(good, place)
		for _, other := range others {
			if other.Kind != is.Kind {
				refused("another kind", with(good, place, other))
			}
			more := is
			more.L = append(slices.Clone(is.L), other)
			if is.Kind == pack.List && !slices.Equal(place, []int{3, 1, 0, 1}) {
				refused("one more", with(good, place, more))
			}
		}
		if is.Kind == pack.List && len(is.L) > 0 {
			fewer := is
			fewer.L = is.L[:len(is.L)-1]
			if !slices.Equal(place, []int{3, 1, 1, 1}) {
				refused("one fewer", with(good, place, fewer))
				refused("none", with(good, place, pack.All()))
			}
		}
	}
	state := good.L[4].L[0]
	for count := range 13 {
		states := pack.Value{Kind: pack.List}
		for range count {
			states.L = append(states.L, state)
		}
		if read := readAlike(t, "states", with(good, []int{4}, states)); read != (count == 2) {
			t.Errorf("%d states: %v", count, read)
		}
	}
}

// A workflow that Check refuses is no run's, though it has a Value.
func TestP15_4WorkflowsThatCheckRefuses(t *testing.T) {
	for what, f := range map[string]graph.Flow{
		"no name":        {Nodes: []graph.Node{task("a", 1, 1)}},
		"no nodes":       flow(),
		"too many nodes": flow(make([]graph.Node, 13)...),
		"no tries":       flow(task("a", 0, 1)),
		"nobody":         flow(task("a", 1, 1, "b")),
		"a round":        flow(task("a", 1, 1, "b"), task("b", 1, 1, "a")),
	} {
		r := bare(f, make([]node.State, len(f.Nodes))...)
		if readAlike(t, what, r.Value()) {
			t.Errorf("%s: it is read", what)
		}
	}
	var most []graph.Node
	for n := range 12 {
		most = append(most, task(letters[n:n+1], 1, 1))
	}
	if r := bare(flow(most...), make([]node.State, 12)...); !readAlike(t, "twelve", r.Value()) {
		t.Errorf("twelve nodes aren't read")
	}
}

// What isn't a value's kind's counts for nothing (layer 2), neither for it nor against it.
func TestP15_4FieldsOfOtherKinds(t *testing.T) {
	r := bare(flow(task("a", 2, 6), call("b", 9, "a")), in(node.Done, node.Calling)...)
	var spoil func(v pack.Value) pack.Value
	spoil = func(v pack.Value) pack.Value {
		w := pack.Value{Kind: v.Kind, N: math.MaxInt64, S: "spoilt", L: []pack.Value{{Kind: 9}, {}}}
		switch v.Kind {
		case pack.Int:
			w.N = v.N
		case pack.Text:
			w.S = v.S
		case pack.List:
			w.L = nil
			for _, x := range v.L {
				w.L = append(w.L, spoil(x))
			}
		}
		return w
	}
	if got, e := run.Read(spoil(r.Value())); e != api.OK || !sameRun(got, r) {
		t.Errorf("%+v, %d", got, e)
	}
}

func TestP15_4ReadByChance(t *testing.T) {
	r := rand.New(rand.NewSource(154))
	reads := 0
	for range 10000 {
		f := anyFlow(r, 4)
		v := bare(f, anyStates(r, len(f.Nodes))...).Value()
		for range r.Intn(3) {
			places := placesIn(v)
			place := places[r.Intn(len(places))]
			is := at(v, place)
			switch r.Intn(5) {
			case 0:
				is.Kind = pack.Kind(r.Intn(4))
			case 1, 2:
				is.N = edges[r.Intn(len(edges))]
			case 3:
				is.L = append(slices.Clone(is.L), pack.Num(1))
			case 4:
				is.L = is.L[:r.Intn(len(is.L)+1)]
			}
			v = with(v, place, is)
		}
		if readAlike(t, "by chance", v) {
			reads++
		}
	}
	if reads < 2000 || reads > 9000 {
		t.Errorf("%d of 10000 are read", reads)
	}
}

// whatItGives: all that a call can give of a run, with the run beside which it stands.
func whatItGives(r run.Run) []run.Run {
	l, _ := r.Lease(1, 5)
	f, _ := r.Finish(0, 5, 1, false)
	a, _ := r.Answer(2, 5, true)
	x, some := r.Expire(11)
	same, none := r.Expire(10)
	if len(l.Nodes) == 0 || len(f.Run.Nodes) == 0 || len(a.Run.Nodes) == 0 || !some || none {
		panic("a call is refused")
	}
	return []run.Run{l, f.Run, a.Run, x.Run, same.Run}
}

// sharing: a run of which each call gives something.
func sharing() run.Run {
	f := graph.Flow{Name: "flow", Nodes: []graph.Node{task("one", 2, 3), task("two", 1, 1), call("three", 3), task("four", 1, 1, "one", "three"), task("five", 1, 1, "three", "four")}}
	return bare(f, in(node.Leased, node.Ready, node.Calling, node.Waiting, node.Waiting)...)
}

// spoil: all lists of a run are written over, as far as their memory goes.
func spoil(r run.Run) {
	for n := range r.Flow.Nodes {
		deps := r.Flow.Nodes[n].Deps
		for i := range deps[:cap(deps)] {
			deps[:cap(deps)][i] = "spoilt"
		}
	}
	clear(r.Flow.Nodes[:cap(r.Flow.Nodes)])
	clear(r.Nodes[:cap(r.Nodes)])
}

// textsOf: where the texts of a run lie.
func textsOf(r run.Run) []*byte {
	all := []*byte{unsafe.StringData(r.Flow.Name)}
	for _, n := range r.Flow.Nodes {
		all = append(all, unsafe.StringData(n.Name), unsafe.StringData(n.Flow))
		for _, dep := range n.Deps {
			all = append(all, unsafe.StringData(dep))
		}
	}
	return slices.DeleteFunc(all, func(p *byte) bool { return p == nil })
}

func textsIn(v pack.Value) []*byte {
	var all []*byte
	if v.Kind == pack.Text && v.S != "" {
		all = append(all, unsafe.StringData(v.S))
	}
	for _, w := range v.L {
		all = append(all, textsIn(w)...)
	}
	return all
}

func common(a, b []*byte) bool {
	return slices.ContainsFunc(a, func(p *byte) bool { return slices.Contains(b, p) })
}

func TestP15_5WhatIsGivenSharesNothing(t *testing.T) {
	for which := range whatItGives(sharing()) {
		r := sharing()
		given := whatItGives(r)[which]
		kept := deepCopy(given)
		if common(textsOf(given), textsOf(r)) {
			t.Errorf("%d shares a text", which)
		}
		spoil(r)
		if !sameRun(given, kept) {
			t.Errorf("%d hangs on the run it was asked of: %+v", which, given)
		}
		r = sharing()
		given = whatItGives(r)[which]
		spoil(given)
		if !sameRun(r, sharing()) {
			t.Errorf("the run that %d was asked of hangs on what was given: %+v", which, r)
		}
	}
}

func TestP15_5ValueSharesNothing(t *testing.T) {
	r := sharing()
	v := r.Value()
	if common(textsIn(v), textsOf(r)) {
		t.Errorf("a text")
	}
	spoil(r)
	if !sameBits(v, slowValue(sharing())) {
		t.Errorf("Value hangs on the run: %v", v)
	}
	r = sharing()
	var wipe func(l []pack.Value)
	wipe = func(l []pack.Value) {
		for _, w := range l {
			wipe(w.L)
		}
		clear(l[:cap(l)])
	}
	wipe(r.Value().L)
	if !sameRun(r, sharing()) {
		t.Errorf("the run hangs on its Value: %+v", r)
	}
}

// Rule 4, of Begin and Read: what is handed in is neither kept nor changed.
func TestRule4BeginAndReadKeepNothing(t *testing.T) {
	want := sharing().Flow
	f := sharing().Flow
	c, _ := run.Begin(1, f, run.Origin{}, 0)
	if common(textsOf(c.Run), textsOf(run.Run{Flow: f})) {
		t.Errorf("Begin shares a text")
	}
	if !sameFlow(f, want) {
		t.Errorf("Begin has changed it: %+v", f)
	}
	spoil(run.Run{Flow: f})
	if !sameFlow(c.Run.Flow, want) {
		t.Errorf("Begin keeps it: %+v", c.Run.Flow)
	}
	v := slowValue(sharing())
	r, _ := run.Read(v)
	if common(textsOf(r), textsIn(v)) {
		t.Errorf("Read shares a text")
	}
	if !sameBits(v, slowValue(sharing())) {
		t.Errorf("Read has changed it: %v", v)
	}
	v.L[4].L[0].L[0].N = 6
	v.L[4].L[1] = pack.Value{}
	clear(v.L[3].L[1].L[3].L[1].L)
	clear(v.L[3].L[1].L)
	if !sameRun(r, sharing()) {
		t.Errorf("Read keeps it: %+v", r)
	}
}

// Rule 4: two lists of one answer share nothing, nor do those of two answers.
func TestRule4ListsOfAnswers(t *testing.T) {
	f := flow(task("a", 1, 1), call("b", 1), task("c", 1, 1), call("d", 1), task("e", 1, 1, "a", "b"), task("f", 1, 1, "c", "d"))
	c, _ := run.Begin(1, f, run.Origin{}, 0)
	other, _ := run.Begin(1, f, run.Origin{}, 0)
	_ = append(c.Ready, 9, 9, 9)
	_ = append(c.Calls, 9, 9, 9)
	_ = append(c.Run.Nodes, node.State{Try: 9})
	_ = append(c.Run.Flow.Nodes, graph.Node{Name: "z"})
	for _, n := range c.Run.Flow.Nodes {
		_ = append(n.Deps, "z", "z")
	}
	if want := slowBegin(1, f, run.Origin{}, 0); !alike(changed(c, 0), want) || !alike(changed(other, 0), want) {
		t.Errorf("%+v, %+v", c, other)
	}
	spoil(c.Run)
	clear(c.Ready)
	clear(c.Calls)
	if !alike(changed(other, 0), slowBegin(1, f, run.Origin{}, 0)) {
		t.Errorf("two answers share something: %+v", other)
	}
}

// Rule 4: what lies behind a list's length is neither read nor written.
func TestRule4BehindAListsLength(t *testing.T) {
	nodes := []graph.Node{task("a", 1, 4), task("b", 1, 4, []string{"a", "c"}[:1]...), task("c", 1, 4)}
	states := in(node.Leased, node.Waiting, node.Leased)
	r := bare(flow(nodes[:2]...), states[:2]...)
	c, e := r.Finish(0, 5, 1, true)
	if e != api.OK || len(c.Run.Nodes) != 2 || len(c.Run.Flow.Nodes) != 2 || !slices.Equal(c.Ready, []int{1}) {
		t.Errorf("%+v, %d", c, e)
	}
	if _, e := r.Lease(2, 5); e != api.ErrNone {
		t.Errorf("Lease: %d", e)
	}
	for n, s := range c.Run.Nodes[2:cap(c.Run.Nodes)] {
		if s != (node.State{}) {
			t.Errorf("%d behind Nodes: %+v", n, s)
		}
	}
	for n, of := range c.Run.Flow.Nodes[2:cap(c.Run.Flow.Nodes)] {
		if of.Name != "" {
			t.Errorf("%d behind the workflow's nodes: %+v", n, of)
		}
	}
	if nodes[2].Name != "c" || states[2] != in(node.Leased)[0] {
		t.Errorf("it was written behind a list's length")
	}
	v := r.Value()
	l := append(slices.Clone(v.L), pack.Num(1))
	v.L = l[:5]
	if got, e := run.Read(v); e != api.OK || !sameRun(got, r) || l[5].N != 1 {
		t.Errorf("Read: %+v, %d", got, e)
	}
}

// Rule 3, and P15.5: a run stays as it is, whatever it is asked, refused or not.
func TestRule3ARunStaysAsItIs(t *testing.T) {
	r := rand.New(rand.NewSource(155))
	for range 300 {
		f := anyFlow(r, 12)
		of := bare(f, anyStates(r, len(f.Nodes))...)
		before := deepCopy(of)
		for range 20 {
			step(r, of, r.Int63n(30))
		}
		of.Status()
		of.Value()
		if !sameRun(of, before) {
			t.Fatalf("%+v has become %+v", before, of)
		}
	}
}

// Rule 2: beside an error nothing is told.
func TestRule2BesideAnErrorNothing(t *testing.T) {
	r := sharing()
	zero := run.Change{}
	for what, got := range map[string]told{
		"Lease": leased(r.Lease(0, 5)), "Finish": changed(r.Finish(0, 5, 7, true)), "Answer": changed(r.Answer(0, 5, true)),
		"Read": leased(run.Read(pack.Value{})),
	} {
		if got.e == api.OK || !reflect.DeepEqual(got.run, zero.Run) || len(got.ready) != 0 || len(got.calls) != 0 {
			t.Errorf("%s: %+v", what, got)
		}
	}
	bad := slowValue(r)
	bad.L[4].L[4].L[0].N = 7
	if got, e := run.Read(bad); e != api.ErrForm || !reflect.DeepEqual(got, zero.Run) {
		t.Errorf("Read, whose last state is wrong: %+v, %d", got, e)
	}
}

// P1: no call panics, at numbers of any size.
func TestP1AnyNumbers(t *testing.T) {
	r := sharing()
	for _, n := range append(edges, 2, 4, 5) {
		for _, now := range edges {
			hold(t, "Lease", r, leased(r.Lease(int(n), now)), slowLease(r, int(n), now))
			for _, try := range append(edges, int64(r.Nodes[0].Try)) {
				hold(t, "Finish", r, changed(r.Finish(int(n), now, int(try), false)), slowFinish(r, int(n), now, int(try), false))
			}
			hold(t, "Answer", r, changed(r.Answer(int(n), now, true)), slowAnswer(r, int(n), now, true))
			hold(t, "Expire", r, expired(r.Expire(now)), slowExpire(r, now))
		}
	}
}

// P1: nor at runs that nobody gives.
func TestP1RunsPutTogetherByHand(t *testing.T) {
	round := flow(task("a", 1, 1, "b"), task("b", 1, 1, "a"), task("c", 1, 1, "nobody"), call("c", -1))
	many := flow(make([]graph.Node, 40)...)
	for n := range many.Nodes {
		many.Nodes[n].Deps = []string{"", "x"}
	}
	for _, r := range []run.Run{
		{}, bare(flow()), bare(example()), bare(flow(), in(0, 1, 2, 3, 4)...), bare(example(), in(2, 0)...), bare(example(), in(3, 2, 0, 0, 2, 3)...),
		bare(round, in(0, 0, 0, 0)...), bare(round, in(2, 0, 0, 3)...), bare(example(), in(-1, math.MinInt, math.MaxInt)...),
		bare(many, make([]node.State, 40)...), bare(many, make([]node.State, 90)...), bare(many, in(2, 3, 1)...),
	} {
		before := deepCopy(r)
		for n := -1; n < 92; n++ {
			r.Lease(n, 11)
			r.Finish(n, 10, 1, true)
			r.Finish(n, 10, 1, false)
			r.Answer(n, 10, true)
			r.Answer(n, 10, false)
		}
		r.Expire(11)
		r.Status()
		run.Read(r.Value())
		if !sameRun(r, before) {
			t.Errorf("%+v has become %+v", before, r)
		}
	}
	var none run.Run
	hold(t, "Expire", none, expired(none.Expire(math.MaxInt64)), told{})
}

func TestP1LargeOnesEndSoon(t *testing.T) {
	start := time.Now()
	long := strings.Repeat("a", 1<<20)
	wide := flow(make([]graph.Node, 1<<18)...)
	for what, f := range map[string]graph.Flow{
		"a long name": {Name: long, Nodes: []graph.Node{task("a", 1, 1)}}, "long texts": flow(task("a", 1, 1, long, long), task("b", 1, 1, long)),
		"many deps": flow(task("a", 1, 1, make([]string, 1<<20)...)), "many nodes": wide,
	} {
		if c, e := run.Begin(1, f, run.Origin{}, 1); e == api.OK || len(c.Run.Nodes) != 0 {
			t.Errorf("%s: %d", what, e)
		}
	}
	if readAlike(t, "many nodes", bare(wide, make([]node.State, 1<<18)...).Value()) {
		t.Errorf("many nodes are read")
	}
	good := slowValue(bare(example(), in(1, 0, 0)...))
	if readAlike(t, "many states", with(good, []int{4}, pack.Value{Kind: pack.List, L: make([]pack.Value, 1<<20)})) {
		t.Errorf("many states are read")
	}
	deep := pack.All()
	for range 1 << 16 {
		deep = pack.Value{Kind: pack.List, L: []pack.Value{deep}}
	}
	round := slices.Clone(good.L)
	round[3] = pack.Value{Kind: pack.List, L: round}
	round[4] = pack.Value{Kind: pack.List, L: round}
	for _, v := range []pack.Value{deep, with(good, []int{0}, deep), with(good, []int{3}, deep), with(good, []int{4}, deep), with(good, []int{4, 1}, deep), {Kind: pack.List, L: round}} {
		if r, e := run.Read(v); e != api.ErrForm || len(r.Nodes) != 0 {
			t.Errorf("lists within one another: %d", e)
		}
	}
	if d := time.Since(start); d > time.Minute {
		t.Errorf("it took %v", d)
	}
}

// P2: runs that are gone on with at one time, and one that many go on from, tell what each would alone.
func TestP2RunsHaveNothingToDoWithOneAnother(t *testing.T) {
	c, _ := run.Begin(1, anyFlow(rand.New(rand.NewSource(3)), 12), run.Origin{}, 0)
	walk := func(seed int64) []told {
		r := rand.New(rand.NewSource(seed))
		of, now := c.Run, int64(0)
		if seed%2 == 0 {
			own, _ := run.Begin(seed, anyFlow(r, 12), run.Origin{}, 0)
			of = own.Run
		}
		var all []told
		for range 200 {
			got, _ := step(r, of, now)
			all = append(all, got)
			now += r.Int63n(3)
			if got.e == api.OK {
				of = got.run
			}
		}
		return all
	}
	var together [8][]told
	var wait sync.WaitGroup
	for n := range together {
		wait.Go(func() { together[n] = walk(int64(n)) })
	}
	wait.Wait()
	for n := range together {
		if !slices.EqualFunc(together[n], walk(int64(n)), alike) {
			t.Errorf("%d tells something else alone", n)
		}
	}
}
