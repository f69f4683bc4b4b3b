package node_test

import (
	"math"
	"math/big"
	"math/rand"
	"sync"
	"testing"

	"precinct/api"
	"precinct/node"
)

// phases: each that there is, and numbers that are none's.
var phases = []node.Phase{
	math.MinInt, math.MinInt32, -1,
	node.Waiting, node.Ready, node.Leased, node.Calling, node.Done, node.Failed, node.Skipped,
	node.Phases, node.Phases + 1, 64, math.MaxInt32, math.MaxInt,
}

var tries = []int{math.MinInt, math.MinInt + 1, -2, -1, 0, 1, 2, 3, math.MaxInt - 1, math.MaxInt}

var times = []int64{math.MinInt64, math.MinInt64 + 1, -7, -1, 0, 1, 2, 7, math.MaxInt64 - 7, math.MaxInt64 - 1, math.MaxInt64}

var bools = []bool{false, true}

// starts: states of each phase, of tries and times at the edges and between.
func starts(yield func(node.State) bool) {
	for _, p := range phases {
		for _, try := range tries {
			for _, until := range times {
				if !yield(node.State{Phase: p, Try: try, Until: until, At: 3}) {
					return
				}
			}
		}
	}
}

// slowUntil: the time up to which a lease lasts, by numbers that don't wrap round.
func slowUntil(now, lease int64) int64 {
	if lease < 0 {
		return now
	}
	sum := new(big.Int).Add(big.NewInt(now), big.NewInt(lease))
	if !sum.IsInt64() {
		return math.MaxInt64
	}
	return sum.Int64()
}

// slowWake and those below are the chapter's sentences, one by one.
func slowWake(s node.State, now, lease int64, call bool) (node.State, api.Errno) {
	if s.Phase != 0 {
		return node.State{}, 36
	}
	if call {
		return node.State{Phase: 3, Try: s.Try, Until: slowUntil(now, lease), At: now}, 0
	}
	return node.State{Phase: 1, Try: s.Try, At: now}, 0
}

func slowSkip(s node.State, now int64) (node.State, api.Errno) {
	if s.Phase != 0 {
		return node.State{}, 36
	}
	return node.State{Phase: 6, Try: s.Try, At: now}, 0
}

func slowLease(s node.State, now, lease int64) (node.State, api.Errno) {
	if s.Phase != 1 {
		return node.State{}, 36
	}
	try := s.Try
	if try != math.MaxInt {
		try++
	}
	return node.State{Phase: 2, Try: try, Until: slowUntil(now, lease), At: now}, 0
}

func slowAnswer(s node.State, now int64, ok bool) (node.State, api.Errno) {
	if s.Phase != 3 || now > s.Until {
		return node.State{}, 36
	}
	if !ok {
		return node.State{Phase: 5, Try: s.Try, At: now}, 0
	}
	return node.State{Phase: 4, Try: s.Try, At: now}, 0
}

func slowFinish(s node.State, now int64, try, tries int, ok bool) (node.State, api.Errno) {
	if s.Phase != 2 || s.Try != try || now > s.Until {
		return node.State{}, 36
	}
	to := node.Phase(5)
	if s.Try < tries {
		to = 1
	}
	if ok {
		to = 4
	}
	return node.State{Phase: to, Try: s.Try, At: now}, 0
}

func slowExpire(s node.State, now int64, tries int) (node.State, bool) {
	if s.Phase == 2 && now > s.Until && s.Try < tries {
		return node.State{Phase: 1, Try: s.Try, At: now}, true
	}
	if (s.Phase == 2 || s.Phase == 3) && now > s.Until {
		return node.State{Phase: 5, Try: s.Try, At: now}, true
	}
	return s, false
}

// given: what a call of a state gave, as one value, so that two can be held against each other.
type given struct {
	s  node.State
	e  api.Errno
	ok bool
}

func of(s node.State, e api.Errno) given  { return given{s: s, e: e} }
func expired(s node.State, ok bool) given { return given{s: s, ok: ok} }

func hold(t *testing.T, call string, s, got, want any) {
	t.Helper()
	if got != want {
		t.Fatalf("%s of %+v: %+v, not %+v", call, s, got, want)
	}
}

func TestExamples(t *testing.T) {
	s, e := node.State{Phase: node.Ready}.Lease(5, 3)
	if e != api.OK || s != (node.State{Phase: node.Leased, Try: 1, Until: 8, At: 5}) {
		t.Fatalf("Lease: %+v, %d", s, e)
	}
	if done, e := s.Finish(8, 1, 1, true); e != api.OK || done != (node.State{Phase: node.Done, Try: 1, At: 8}) {
		t.Errorf("Finish at 8: %+v, %d", done, e)
	}
	if same, ok := s.Expire(8, 1); ok || same != s {
		t.Errorf("Expire at 8: %+v, %v", same, ok)
	}
	if none, e := s.Finish(9, 1, 1, true); e != api.ErrLease || none != (node.State{}) {
		t.Errorf("Finish at 9: %+v, %d", none, e)
	}
	if gone, ok := s.Expire(9, 1); !ok || gone != (node.State{Phase: node.Failed, Try: 1, At: 9}) {
		t.Errorf("Expire at 9: %+v, %v", gone, ok)
	}
}

func TestPhasesAreNumberedInTheirOrder(t *testing.T) {
	for n, p := range []node.Phase{node.Waiting, node.Ready, node.Leased, node.Calling, node.Done, node.Failed, node.Skipped, node.Phases} {
		if int(p) != n {
			t.Errorf("the phase %d has the number %d", n, p)
		}
	}
}

func TestP14_1Over(t *testing.T) {
	for s := range starts {
		want := s.Phase == 4 || s.Phase == 5 || s.Phase == 6
		if got := s.Over(); got != want {
			t.Fatalf("Over of %+v: %v", s, got)
		}
	}
}

func TestP14_2Wake(t *testing.T) {
	waiting := node.State{Try: 2, Until: 40, At: 1}
	for _, x := range []struct {
		now, lease int64
		call       bool
		want       node.State
	}{
		{3, 9, false, node.State{Phase: node.Ready, Try: 2, At: 3}},
		{3, 9, true, node.State{Phase: node.Calling, Try: 2, Until: 12, At: 3}},
		{3, 0, true, node.State{Phase: node.Calling, Try: 2, Until: 3, At: 3}},
		{3, -1, true, node.State{Phase: node.Calling, Try: 2, Until: 3, At: 3}},
		{3, -1, false, node.State{Phase: node.Ready, Try: 2, At: 3}},
		{-5, 2, true, node.State{Phase: node.Calling, Try: 2, Until: -3, At: -5}},
	} {
		got, e := waiting.Wake(x.now, x.lease, x.call)
		if e != api.OK || got != x.want {
			t.Errorf("Wake(%d, %d, %v): %+v, %d", x.now, x.lease, x.call, got, e)
		}
	}
	for s := range starts {
		for _, now := range times {
			for _, lease := range times {
				for _, call := range bools {
					hold(t, "Wake", s, of(s.Wake(now, lease, call)), of(slowWake(s, now, lease, call)))
				}
			}
		}
	}
}

func TestP14_2Skip(t *testing.T) {
	got, e := node.State{Try: 2, Until: 40, At: 1}.Skip(7)
	if e != api.OK || got != (node.State{Phase: node.Skipped, Try: 2, At: 7}) {
		t.Errorf("Skip: %+v, %d", got, e)
	}
	for s := range starts {
		for _, now := range times {
			hold(t, "Skip", s, of(s.Skip(now)), of(slowSkip(s, now)))
		}
	}
}

func TestP14_2Lease(t *testing.T) {
	for _, x := range []struct {
		try, next int
	}{
		{0, 1}, {1, 2}, {-1, 0}, {math.MinInt, math.MinInt + 1},
		{math.MaxInt - 1, math.MaxInt}, {math.MaxInt, math.MaxInt},
	} {
		got, e := node.State{Phase: node.Ready, Try: x.try, Until: 40, At: 1}.Lease(5, 3)
		if e != api.OK || got != (node.State{Phase: node.Leased, Try: x.next, Until: 8, At: 5}) {
			t.Errorf("Lease of try %d: %+v, %d", x.try, got, e)
		}
	}
	for s := range starts {
		for _, now := range times {
			for _, lease := range times {
				hold(t, "Lease", s, of(s.Lease(now, lease)), of(slowLease(s, now, lease)))
			}
		}
	}
}

func TestP14_2TheTimeUpToWhichALeaseLasts(t *testing.T) {
	for _, x := range []struct {
		now, lease, until int64
	}{
		{5, 3, 8}, {5, 0, 5}, {5, -1, 5}, {5, math.MinInt64, 5}, {-5, -5, -5}, {-5, 5, 0},
		{math.MaxInt64 - 7, 7, math.MaxInt64}, {math.MaxInt64 - 7, 6, math.MaxInt64 - 1}, {math.MaxInt64 - 7, 8, math.MaxInt64},
		{math.MaxInt64, 0, math.MaxInt64}, {math.MaxInt64, 1, math.MaxInt64}, {math.MaxInt64, math.MaxInt64, math.MaxInt64},
		{math.MaxInt64, -1, math.MaxInt64}, {1, math.MaxInt64, math.MaxInt64}, {0, math.MaxInt64, math.MaxInt64}, {-1, math.MaxInt64, math.MaxInt64 - 1},
		{math.MinInt64, math.MaxInt64, -1}, {math.MinInt64, 0, math.MinInt64}, {math.MinInt64, -1, math.MinInt64}, {math.MinInt64, math.MinInt64, math.MinInt64},
	} {
		leased, e := node.State{Phase: node.Ready}.Lease(x.now, x.lease)
		if e != api.OK || leased.Until != x.until || leased.At != x.now {
			t.Errorf("Lease(%d, %d): %+v, %d", x.now, x.lease, leased, e)
		}
		calling, e := node.State{}.Wake(x.now, x.lease, true)
		if e != api.OK || calling.Until != x.until || calling.At != x.now {
			t.Errorf("Wake(%d, %d, true): %+v, %d", x.now, x.lease, calling, e)
		}
	}
}

func TestP14_2Answer(t *testing.T) {
	calling := node.State{Phase: node.Calling, Try: 2, Until: 5, At: 1}
	for _, now := range []int64{math.MinInt64, 0, 4, 5} {
		if got, e := calling.Answer(now, true); e != api.OK || got != (node.State{Phase: node.Done, Try: 2, At: now}) {
			t.Errorf("Answer(%d, true): %+v, %d", now, got, e)
		}
		if got, e := calling.Answer(now, false); e != api.OK || got != (node.State{Phase: node.Failed, Try: 2, At: now}) {
			t.Errorf("Answer(%d, false): %+v, %d", now, got, e)
		}
	}
	for _, now := range []int64{6, math.MaxInt64} {
		if got, e := calling.Answer(now, true); e != api.ErrLease || got != (node.State{}) {
			t.Errorf("Answer(%d, true): %+v, %d", now, got, e)
		}
	}
	for s := range starts {
		for _, now := range times {
			for _, ok := range bools {
				hold(t, "Answer", s, of(s.Answer(now, ok)), of(slowAnswer(s, now, ok)))
			}
		}
	}
}

func TestP14_3Finish(t *testing.T) {
	leased := node.State{Phase: node.Leased, Try: 2, Until: 8, At: 5}
	at := func(p node.Phase) node.State { return node.State{Phase: p, Try: 2, At: 8} }
	for _, x := range []struct {
		now        int64
		try, tries int
		ok         bool
		want       node.State
		e          api.Errno
	}{
		{8, 2, 2, true, at(node.Done), api.OK},
		{8, 2, 3, true, at(node.Done), api.OK},
		{8, 2, 0, true, at(node.Done), api.OK},
		{8, 2, 3, false, at(node.Ready), api.OK},
		{8, 2, 2, false, at(node.Failed), api.OK},
		{8, 2, 1, false, at(node.Failed), api.OK},
		{8, 2, math.MaxInt, false, at(node.Ready), api.OK},
		{8, 2, math.MinInt, false, at(node.Failed), api.OK},
		{9, 2, 3, true, node.State{}, api.ErrLease},
		{9, 2, 3, false, node.State{}, api.ErrLease},
		{8, 1, 3, true, node.State{}, api.ErrLease},
		{8, 3, 3, true, node.State{}, api.ErrLease},
		{8, 1, 3, false, node.State{}, api.ErrLease},
		// A time ahead of the lease's own beginning isn't above its end either.
		{4, 2, 2, true, node.State{Phase: node.Done, Try: 2, At: 4}, api.OK},
		{math.MinInt64, 2, 2, true, node.State{Phase: node.Done, Try: 2, At: math.MinInt64}, api.OK},
	} {
		got, e := leased.Finish(x.now, x.try, x.tries, x.ok)
		if e != x.e || got != x.want {
			t.Errorf("Finish(%d, %d, %d, %v): %+v, %d", x.now, x.try, x.tries, x.ok, got, e)
		}
	}
}

func TestP14_3FinishOfAnyState(t *testing.T) {
	for s := range starts {
		for _, now := range times {
			for _, try := range []int{s.Try, math.MinInt, 0, 1, math.MaxInt} {
				for _, most := range tries {
					for _, ok := range bools {
						got, want := of(s.Finish(now, try, most, ok)), of(slowFinish(s, now, try, most, ok))
						if got != want {
							t.Fatalf("Finish(%d, %d, %d, %v) of %+v: %+v, not %+v", now, try, most, ok, s, got, want)
						}
					}
				}
			}
		}
	}
}

func TestP14_4Expire(t *testing.T) {
	leased := node.State{Phase: node.Leased, Try: 2, Until: 8, At: 5}
	calling := node.State{Phase: node.Calling, Try: 2, Until: 8, At: 5}
	at9 := func(p node.Phase) node.State { return node.State{Phase: p, Try: 2, At: 9} }
	for _, x := range []struct {
		s     node.State
		now   int64
		tries int
		want  node.State
		ok    bool
	}{
		{leased, 8, 3, leased, false},
		{leased, math.MinInt64, 3, leased, false},
		{leased, 9, 3, at9(node.Ready), true},
		{leased, 9, 2, at9(node.Failed), true},
		{leased, 9, 1, at9(node.Failed), true},
		{leased, 9, math.MinInt, at9(node.Failed), true},
		{calling, 8, 3, calling, false},
		{calling, 9, 3, at9(node.Failed), true},
		{calling, 9, math.MaxInt, at9(node.Failed), true},
		{calling, 9, 1, at9(node.Failed), true},
	} {
		got, ok := x.s.Expire(x.now, x.tries)
		if ok != x.ok || got != x.want {
			t.Errorf("Expire(%d, %d) of %+v: %+v, %v", x.now, x.tries, x.s, got, ok)
		}
	}
	for s := range starts {
		for _, now := range times {
			for _, most := range tries {
				hold(t, "Expire", s, expired(s.Expire(now, most)), expired(slowExpire(s, now, most)))
			}
		}
	}
}

// What nobody can hold any more doesn't expire, however late it is: it stays as it is, its Until and At too.
func TestP14_4OfAnyOtherTheSameState(t *testing.T) {
	for _, p := range phases {
		if p == node.Leased || p == node.Calling {
			continue
		}
		s := node.State{Phase: p, Try: -4, Until: math.MinInt64, At: 77}
		if got, ok := s.Expire(math.MaxInt64, math.MaxInt); ok || got != s {
			t.Errorf("Expire of %+v: %+v, %v", s, got, ok)
		}
	}
	for _, p := range []node.Phase{node.Leased, node.Calling} {
		s := node.State{Phase: p, Try: 1, Until: math.MaxInt64, At: 77}
		if got, ok := s.Expire(math.MaxInt64, math.MaxInt); ok || got != s {
			t.Errorf("Expire of %+v: %+v, %v", s, got, ok)
		}
	}
}

// One whose tries are used up: each is leased, given up or told as failed, and taken anew.
func TestANodesWholeLife(t *testing.T) {
	s, _ := node.State{At: 1}.Wake(2, 0, false)
	for try := 1; try <= 4; try++ {
		now := int64(10 * try)
		leased, e := s.Lease(now, 5)
		if e != api.OK || leased.Try != try {
			t.Fatalf("try %d: %+v, %d", try, leased, e)
		}
		if _, e := leased.Lease(now, 5); e != api.ErrLease {
			t.Errorf("try %d is leased twice: %d", try, e)
		}
		if _, e := leased.Finish(now, try-1, 4, true); e != api.ErrLease {
			t.Errorf("try %d is finished by an earlier one's: %d", try, e)
		}
		if try%2 == 0 {
			s, e = leased.Finish(now+5, try, 4, false)
		} else {
			over := false
			s, over = leased.Expire(now+6, 4)
			if !over {
				t.Errorf("try %d doesn't expire", try)
			}
		}
		if e != api.OK || s.Over() != (try == 4) || s.Try != try {
			t.Errorf("behind try %d: %+v, %d", try, s, e)
		}
	}
	if s.Phase != node.Failed {
		t.Errorf("at the end: %+v", s)
	}
}

// step: a call by chance, and what the chapter's words give for it.
func step(r *rand.Rand, s node.State) (got, want given) {
	now, lease := times[r.Intn(len(times))], times[r.Intn(len(times))]
	if r.Intn(2) == 0 {
		now, lease = int64(r.Intn(20)), int64(r.Intn(5))
	}
	try, most, ok := tries[r.Intn(len(tries))], r.Intn(5), r.Intn(2) == 0
	if r.Intn(3) > 0 {
		try = s.Try
	}
	switch r.Intn(6) {
	case 0:
		return of(s.Wake(now, lease, ok)), of(slowWake(s, now, lease, ok))
	case 1:
		return of(s.Lease(now, lease)), of(slowLease(s, now, lease))
	case 2:
		return of(s.Finish(now, try, most, ok)), of(slowFinish(s, now, try, most, ok))
	case 3:
		return of(s.Answer(now, ok)), of(slowAnswer(s, now, ok))
	case 4:
		return of(s.Skip(now)), of(slowSkip(s, now))
	}
	return expired(s.Expire(now, most)), expired(slowExpire(s, now, most))
}

func TestP14ByChance(t *testing.T) {
	r := rand.New(rand.NewSource(14))
	for range 2000 {
		s := node.State{Phase: node.Phase(r.Intn(2)), Try: r.Intn(3), Until: r.Int63(), At: r.Int63()}
		for range 60 {
			got, want := step(r, s)
			if got != want {
				t.Fatalf("of %+v: %+v, not %+v", s, got, want)
			}
			if got.e == api.OK {
				s = got.s
			}
		}
	}
}

func TestRule2BesideAnErrorNothing(t *testing.T) {
	for _, p := range phases {
		s := node.State{Phase: p, Try: 5, Until: 6, At: 7}
		for name, got := range map[string]given{
			"Wake":   of(s.Wake(8, 9, true)),
			"Lease":  of(s.Lease(8, 9)),
			"Finish": of(s.Finish(8, 5, 9, true)),
			"Answer": of(s.Answer(8, true)),
			"Skip":   of(s.Skip(8)),
		} {
			if got.e != api.OK && (got.e != api.ErrLease || got.s != node.State{}) {
				t.Errorf("%s of %+v: %+v", name, s, got)
			}
		}
	}
}

// P1: the edges of all numbers are gone through above; here a state is asked all calls at one time, and stays.
func TestP1AndRule3AStateStaysAsItIs(t *testing.T) {
	for s := range starts {
		was := s
		s.Over()
		s.Wake(math.MaxInt64, math.MaxInt64, true)
		s.Lease(math.MaxInt64, math.MaxInt64)
		s.Finish(math.MinInt64, s.Try, math.MaxInt, false)
		s.Answer(math.MinInt64, false)
		s.Expire(math.MaxInt64, math.MaxInt)
		s.Skip(math.MinInt64)
		if s != was {
			t.Fatalf("%+v has become %+v", was, s)
		}
	}
}

// P2: states that are gone on with at one time tell what each would alone.
func TestP2StatesHaveNothingToDoWithOneAnother(t *testing.T) {
	walk := func(seed int64) []given {
		r := rand.New(rand.NewSource(seed))
		s := node.State{}
		var all []given
		for range 500 {
			got, _ := step(r, s)
			all = append(all, got)
			if got.e == api.OK && !got.s.Over() {
				s = got.s
			}
		}
		return all
	}
	var together [8][]given
	var wait sync.WaitGroup
	for n := range together {
		wait.Go(func() { together[n] = walk(int64(n)) })
	}
	wait.Wait()
	for n := range together {
		for at, want := range walk(int64(n)) {
			if together[n][at] != want {
				t.Fatalf("%d's call %d: %+v, not %+v", n, at, together[n][at], want)
			}
		}
	}
}
