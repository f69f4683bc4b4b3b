package grant_test

import (
	"math"
	"math/rand"
	"slices"
	"strconv"
	"strings"
	"testing"

	"precinct/api"
	"precinct/grant"
)

const letters = "abcdefghijklmnopqrstuvwxyz0123456789"

func key(caller int, flow string) grant.Key { return grant.Key{Caller: caller, Flow: flow} }

// slowNamed: is it a name, by the chapter's words, byte by byte?
func slowNamed(s string) bool {
	sound := len(s) >= 1 && len(s) <= 16
	for i := 0; sound && i < len(s); i++ {
		sound = strings.IndexByte(letters, s[i]) >= 0
	}
	return sound
}

// slowTable: grants, by the chapter's words, as a list that is always in order.
type slowTable struct{ keys []grant.Key }

func before(a, b grant.Key) bool {
	return a.Caller < b.Caller || a.Caller == b.Caller && a.Flow < b.Flow
}

func (t *slowTable) add(k grant.Key) api.Errno {
	if k.Caller < 0 || k.Caller > 7 {
		return api.ErrArg
	}
	if !slowNamed(k.Flow) {
		return api.ErrName
	}
	if slices.Contains(t.keys, k) {
		return api.ErrThere
	}
	if len(t.keys) == 16 {
		return api.ErrQuota
	}
	at := 0
	for at < len(t.keys) && before(t.keys[at], k) {
		at++
	}
	t.keys = slices.Insert(t.keys, at, k)
	return api.OK
}

func (t *slowTable) drop(k grant.Key) api.Errno {
	at := slices.Index(t.keys, k)
	if at < 0 {
		return api.ErrNone
	}
	t.keys = slices.Delete(t.keys, at, at+1)
	return api.OK
}

// slowReach: by the chapter's words: over all edges again and again, till none
// leads to a number more.
func slowReach(from int, edges []grant.Edge) []int {
	found := []int{from}
	for more := true; more; {
		more = false
		for _, e := range edges {
			for side := range 2 {
				if slices.Contains(found, e[side]) && !slices.Contains(found, e[1-side]) {
					found = append(found, e[1-side])
					more = true
				}
			}
		}
	}
	slices.Sort(found)
	return found
}

// made: a table with these grants, which must be there to be had.
func made(t *testing.T, keys ...grant.Key) *grant.Table {
	t.Helper()
	table, e := grant.New(keys...)
	if table == nil || e != api.OK {
		t.Fatalf("New of %d keys: %v, %d", len(keys), table, e)
	}
	return table
}

// full: as many grants as there may be, in order.
func full() []grant.Key {
	var keys []grant.Key
	for caller := range 8 {
		keys = append(keys, key(caller, "a"), key(caller, "b"))
	}
	return keys
}

// holds: are these the table's grants, and no others?
func holds(t *testing.T, table *grant.Table, want []grant.Key) {
	t.Helper()
	if got := table.List(); !slices.Equal(got, want) {
		t.Fatalf("grants: %v, not %v", got, want)
	}
	for _, k := range want {
		if !table.Has(k) {
			t.Fatalf("%v isn't there", k)
		}
	}
}

// oddTexts: texts that are no names, and some that are, at each edge of the two.
func oddTexts() []string {
	texts := []string{
		"", " ", "a b", "a-b", "a_b", "A", "aB", "Z", "/", ":", "`", "{", "@", "[", "a\x00", "\x00", "a\n", "\t",
		"ä", "aä", "é1", "a\u0301", "ａ", "１", "٣", "к", "\u0161", "\u0130", "\U00010161", "\U0001d41a",
		"\xff", "a\xff", "\xc3", "a\xe2\x82", "\xed\xa0\x80", "\xc1\xa1", "\xe0\x81\xa1", "\ufffd",
		"0", "9", "a", "z", "0a", "007", letters[:16], letters[20:36], letters[:17], letters,
		"abcdefghijklmnoä", "abcdefghijklmnopä", "ääääääää", "äääääääää", strings.Repeat("a", 1<<16), strings.Repeat("a", 1<<8+1), strings.Repeat("a", 1<<16+1),
	}
	for n := range 40 {
		texts = append(texts, strings.Repeat("m", n), strings.Repeat("7", n))
	}
	return texts
}

func TestP11_1NamedByEveryByteAtEveryPlace(t *testing.T) {
	for size := 1; size <= 18; size++ {
		for at := range size {
			for c := range 256 {
				b := []byte(strings.Repeat("k", size))
				b[at] = byte(c)
				s := string(b)
				want := size <= 16 && (c >= 'a' && c <= 'z' || c >= '0' && c <= '9')
				if got := grant.Named(s); got != want {
					t.Errorf("%q: %v", s, got)
				}
			}
		}
	}
}

func TestP11_1NamedOfOddTexts(t *testing.T) {
	if grant.Named("") || !grant.Named("a") || !grant.Named(letters[:api.MaxName]) || grant.Named(letters[:api.MaxName+1]) {
		t.Errorf("at the edges of a name's length")
	}
	for _, s := range oddTexts() {
		if got := grant.Named(s); got != slowNamed(s) {
			t.Errorf("%.40q: %v", s, got)
		}
	}
}

func TestP11_1NamedOfEveryRune(t *testing.T) {
	for r := range rune(0x110000) {
		want := r >= 'a' && r <= 'z' || r >= '0' && r <= '9'
		if got := grant.Named(string(r)); got != want {
			t.Fatalf("%U: %v", r, got)
		}
	}
}

func TestP11_1NewOfNoKeys(t *testing.T) {
	for _, keys := range [][]grant.Key{nil, {}} {
		holds(t, made(t, keys...), nil)
	}
	table := made(t)
	if e := table.Add(key(0, "a")); e != api.OK {
		t.Errorf("Add to none: %d", e)
	}
	holds(t, table, []grant.Key{key(0, "a")})
}

func TestP11_1NewAddsInOrder(t *testing.T) {
	holds(t, made(t, key(2, "b"), key(1, "z"), key(2, "a")), []grant.Key{key(1, "z"), key(2, "a"), key(2, "b")})
	for n := range 17 {
		want := full()[:min(n, 16)]
		given := slices.Clone(want)
		slices.Reverse(given)
		holds(t, made(t, given...), want)
	}
}

func TestP11_1NewTellsTheFirstError(t *testing.T) {
	good := key(0, "a")
	full := slices.Clip(full())
	for name, c := range map[string]struct {
		keys []grant.Key
		want api.Errno
	}{
		"no caller":             {[]grant.Key{good, key(8, "a"), key(0, "")}, api.ErrArg},
		"no name":               {[]grant.Key{good, key(0, ""), key(8, "a")}, api.ErrName},
		"no name ahead":         {[]grant.Key{key(7, "B"), good, good}, api.ErrName},
		"twice":                 {[]grant.Key{good, good, key(8, "a")}, api.ErrThere},
		"twice, not in a row":   {[]grant.Key{good, key(0, "b"), key(1, "a"), good}, api.ErrThere},
		"too many":              {append(full, key(0, "x")), api.ErrQuota},
		"too many, then others": {append(full, key(0, "x"), key(0, "a"), key(-1, "")), api.ErrQuota},
		"the last no caller":    {append(full, key(-1, "x")), api.ErrArg},
		"the last no name":      {append(full, key(0, "X")), api.ErrName},
		"the last there":        {append(full, key(7, "b")), api.ErrThere},
		"the last one bad":      {append(full[:15:15], key(7, "b\xff")), api.ErrName},
	} {
		if table, e := grant.New(c.keys...); table != nil || e != c.want {
			t.Errorf("%s: %v, %d, not %d", name, table, e, c.want)
		}
	}
}

func TestP11_1AddOfNil(t *testing.T) {
	var none *grant.Table
	for _, k := range []grant.Key{{}, key(0, "a"), key(-1, ""), key(8, "a")} {
		if e := none.Add(k); e != api.ErrNil {
			t.Errorf("%v: %d", k, e)
		}
	}
}

func TestP11_1AddTakesEachCaller(t *testing.T) {
	for _, caller := range []int{math.MinInt, math.MinInt + 1, -256, -8, -1, 0, 1, 2, 3, 4, 5, 6, 7, 8, 9, 15, 16, 256, 1 << 32, math.MaxInt - 1, math.MaxInt} {
		table := made(t)
		want := api.OK
		if caller < 0 || caller >= api.MaxTenants {
			want = api.ErrArg
		}
		if e := table.Add(key(caller, "a")); e != want {
			t.Errorf("caller %d: %d, not %d", caller, e, want)
		}
		if there := table.Has(key(caller, "a")); there != (want == api.OK) {
			t.Errorf("caller %d: there: %v", caller, there)
		}
	}
}

func TestP11_1AddTakesEachName(t *testing.T) {
	for _, flow := range oddTexts() {
		table := made(t)
		want := api.OK
		if !slowNamed(flow) {
			want = api.ErrName
		}
		if e := table.Add(key(3, flow)); e != want {
			t.Errorf("%.40q: %d, not %d", flow, e, want)
		}
		if there := table.Has(key(3, flow)); there != (want == api.OK) {
			t.Errorf("%.40q: there: %v", flow, there)
		}
	}
}

// The errors in the order in which the chapter names them, each ahead of all
// that it can stand together with.
func TestP11_1OrderOfAddsErrors(t *testing.T) {
	table := made(t, full()...)
	for _, c := range []struct {
		k    grant.Key
		want api.Errno
	}{
		{key(8, ""), api.ErrArg},
		{key(-1, "A"), api.ErrArg},
		{key(8, "a"), api.ErrArg},
		{key(0, ""), api.ErrName},
		{key(0, letters[:17]), api.ErrName},
		{key(0, "a"), api.ErrThere},
		{key(7, "b"), api.ErrThere},
		{key(0, "c"), api.ErrQuota},
	} {
		if e := table.Add(c.k); e != c.want {
			t.Errorf("%v: %d, not %d", c.k, e, c.want)
		}
	}
	holds(t, table, full())
}

func TestP11_1QuotaIsOfTheWholeTable(t *testing.T) {
	for _, share := range []int{1, 2, 8} {
		table := made(t)
		for n := range 16 {
			if e := table.Add(key(n%share, "n"+strconv.Itoa(n))); e != api.OK {
				t.Fatalf("%d callers, grant %d: %d", share, n, e)
			}
		}
		if e := table.Add(key(7, "more")); e != api.ErrQuota {
			t.Errorf("%d callers: %d", share, e)
		}
		if e := table.Drop(key(0, "n0")); e != api.OK {
			t.Errorf("%d callers: Drop: %d", share, e)
		}
		if e := table.Add(key(7, "more")); e != api.OK {
			t.Errorf("%d callers: behind a Drop: %d", share, e)
		}
	}
}

func TestP11_2Drop(t *testing.T) {
	table := made(t, full()...)
	want := full()
	for _, n := range rand.New(rand.NewSource(11)).Perm(16) {
		k := full()[n]
		if e := table.Drop(k); e != api.OK {
			t.Errorf("%v: %d", k, e)
		}
		want = slices.Delete(want, slices.Index(want, k), slices.Index(want, k)+1)
		holds(t, table, want)
		if table.Has(k) {
			t.Errorf("%v is there", k)
		}
		if e := table.Drop(k); e != api.ErrNone {
			t.Errorf("%v, once more: %d", k, e)
		}
	}
	holds(t, table, nil)
}

func TestP11_2NoneIsNeitherThereNorDropped(t *testing.T) {
	keys := []grant.Key{key(2, "flow"), key(3, "other")}
	table := made(t, keys...)
	for _, k := range []grant.Key{
		{}, key(2, "other"), key(3, "flow"), key(1, "flow"), key(2, "flo"), key(2, "flowa"), key(2, "Flow"), key(2, "flow\x00"), key(2, ""),
		key(2+256, "flow"), key(2-8, "flow"), key(-2, "flow"), key(2+1<<32, "flow"), key(math.MinInt, "flow"), key(math.MaxInt, ""),
		key(2, strings.Repeat("flow", 1<<16)),
	} {
		if table.Has(k) {
			t.Errorf("%d, %.40q is there", k.Caller, k.Flow)
		}
		if e := table.Drop(k); e != api.ErrNone {
			t.Errorf("%d, %.40q: %d", k.Caller, k.Flow, e)
		}
	}
	holds(t, table, keys)
	// A text of its own memory: what is there hangs on the bytes alone.
	if k := key(2, strings.Clone("flow")); !table.Has(k) || table.Drop(k) != api.OK {
		t.Errorf("%v isn't there", k)
	}
}

func TestP11_2OfNil(t *testing.T) {
	var none *grant.Table
	for _, k := range []grant.Key{{}, key(0, "a"), key(-1, "")} {
		if e := none.Drop(k); e != api.ErrNil {
			t.Errorf("Drop %v: %d", k, e)
		}
		if none.Has(k) {
			t.Errorf("Has %v", k)
		}
	}
	if l := none.List(); len(l) != 0 {
		t.Errorf("List: %v", l)
	}
}

func TestP11_2ListStandsInOrder(t *testing.T) {
	want := []grant.Key{
		key(0, "zz"), key(1, "0"), key(1, "00"), key(1, "01"), key(1, "1"), key(1, "10"), key(1, "9"), key(1, "9a"),
		key(1, "a"), key(1, "a0"), key(1, "aa"), key(1, "ab"), key(1, "b"), key(2, "aa"), key(7, "0"), key(7, "z"),
	}
	r := rand.New(rand.NewSource(7))
	for range 200 {
		given := slices.Clone(want)
		r.Shuffle(len(given), func(a, b int) { given[a], given[b] = given[b], given[a] })
		table := made(t, given...)
		for range 3 {
			holds(t, table, want)
		}
	}
}

// Rule 4: what is answered is new memory, and what is handed in isn't kept.
func TestP11_2ListSharesNothing(t *testing.T) {
	given := full()
	table := made(t, given...)
	clear(given)
	first, second := table.List(), table.List()
	clear(first)
	if cap(first) > 0 {
		clear(first[:cap(first)])
	}
	if !slices.Equal(second, full()) {
		t.Errorf("another list was written to")
	}
	holds(t, table, full())
}

func TestP11_2ByChance(t *testing.T) {
	r := rand.New(rand.NewSource(112))
	flows := []string{"a", "b", "ab", "a0", "0", "", "A", letters[:16], letters[:17], "\xff"}
	for range 300 {
		table, slow := made(t), &slowTable{}
		for range 120 {
			k := key(r.Intn(10)-1, flows[r.Intn(len(flows))])
			call, got, want := "Add", api.OK, api.OK
			if r.Intn(3) > 0 {
				got, want = table.Add(k), slow.add(k)
			} else {
				call, got, want = "Drop", table.Drop(k), slow.drop(k)
			}
			if got != want || table.Has(k) != slices.Contains(slow.keys, k) {
				t.Fatalf("%s %v: %d, not %d; there: %v", call, k, got, want, table.Has(k))
			}
			holds(t, table, slow.keys)
		}
	}
}

func TestP11_1NewByChance(t *testing.T) {
	r := rand.New(rand.NewSource(111))
	flows := []string{"a", "b", "c", "d", "e", "f", "g", "h"}
	for range 3000 {
		slow, want := &slowTable{}, api.OK
		var keys []grant.Key
		for range r.Intn(22) {
			k := key(r.Intn(8), flows[r.Intn(len(flows))])
			if r.Intn(40) == 0 {
				k.Caller = 8 - 9*r.Intn(2)
			}
			if r.Intn(40) == 0 {
				k.Flow += "!"
			}
			keys = append(keys, k)
			if want == api.OK {
				want = slow.add(k)
			}
		}
		table, got := grant.New(keys...)
		if got != want || (table == nil) != (want != api.OK) {
			t.Fatalf("%v: %v, %d, not %d", keys, table, got, want)
		}
		if want == api.OK {
			holds(t, table, slow.keys)
		}
	}
}

func TestP11_3Reach(t *testing.T) {
	for name, c := range map[string]struct {
		from  int
		edges []grant.Edge
		want  []int
	}{
		"no edges":              {5, nil, []int{5}},
		"an empty list":         {5, []grant.Edge{}, []int{5}},
		"away from it":          {1, []grant.Edge{{1, 2}}, []int{1, 2}},
		"to it":                 {1, []grant.Edge{{2, 1}}, []int{1, 2}},
		"to itself":             {1, []grant.Edge{{1, 1}}, []int{1}},
		"elsewhere":             {1, []grant.Edge{{2, 3}}, []int{1}},
		"elsewhere, to itself":  {1, []grant.Edge{{2, 2}, {3, 3}}, []int{1}},
		"twice":                 {1, []grant.Edge{{1, 2}, {1, 2}, {2, 1}}, []int{1, 2}},
		"a ring":                {3, []grant.Edge{{1, 2}, {2, 3}, {3, 4}, {4, 1}}, []int{1, 2, 3, 4}},
		"away and back":         {1, []grant.Edge{{1, 2}, {3, 2}}, []int{1, 2, 3}},
		"back and away":         {1, []grant.Edge{{2, 1}, {2, 3}}, []int{1, 2, 3}},
		"two lumps, the first":  {1, []grant.Edge{{1, 2}, {4, 5}, {3, 2}, {6, 5}}, []int{1, 2, 3}},
		"two lumps, the second": {5, []grant.Edge{{1, 2}, {4, 5}, {3, 2}, {6, 5}}, []int{4, 5, 6}},
		"numbers below 0":       {-1, []grant.Edge{{-1, 0}, {0, -3}, {2, -3}}, []int{-3, -1, 0, 2}},
		"numbers of no tenants": {100, []grant.Edge{{100, 8}, {8, 1 << 40}}, []int{8, 100, 1 << 40}},
		"the least, greatest":   {math.MinInt, []grant.Edge{{math.MaxInt, math.MinInt}, {math.MaxInt, 0}}, []int{math.MinInt, 0, math.MaxInt}},
		"alike but for a wrap":  {0, []grant.Edge{{1 << 32, 1}, {-1 << 32, 2}, {256, 3}, {8, 4}}, []int{0}},
	} {
		if got := grant.Reach(c.from, c.edges...); !slices.Equal(got, c.want) {
			t.Errorf("%s: %v, not %v", name, got, c.want)
		}
	}
}

func TestP11_3ReachOfAllSmallEdges(t *testing.T) {
	var all []grant.Edge
	for a := range 3 {
		for b := range 3 {
			all = append(all, grant.Edge{a, b})
		}
	}
	for chosen := range 1 << len(all) {
		var edges []grant.Edge
		for n, e := range all {
			if chosen>>n&1 == 1 {
				edges = append(edges, e)
			}
		}
		for from := range 4 {
			if got, want := grant.Reach(from, edges...), slowReach(from, edges); !slices.Equal(got, want) {
				t.Fatalf("from %d over %v: %v, not %v", from, edges, got, want)
			}
		}
	}
}

func TestP11_3ReachByChance(t *testing.T) {
	r := rand.New(rand.NewSource(113))
	for range 5000 {
		numbers := make([]int, 1+r.Intn(20))
		for n := range numbers {
			numbers[n] = int(r.Uint64()>>r.Intn(64)) * (1 - 2*r.Intn(2))
		}
		one := func() int { return numbers[r.Intn(len(numbers))] }
		edges := make([]grant.Edge, r.Intn(25))
		for n := range edges {
			edges[n] = grant.Edge{one(), one()}
		}
		from := one()
		want := slowReach(from, edges)
		if got := grant.Reach(from, edges...); !slices.Equal(got, want) {
			t.Fatalf("from %d over %v: %v, not %v", from, edges, got, want)
		}
		// Neither the edges' order nor their ways round make a difference.
		r.Shuffle(len(edges), func(a, b int) { edges[a], edges[b] = edges[b], edges[a] })
		for n := range edges {
			if r.Intn(2) == 0 {
				edges[n] = grant.Edge{edges[n][1], edges[n][0]}
			}
		}
		if got := grant.Reach(from, edges...); !slices.Equal(got, want) {
			t.Fatalf("from %d over %v: %v, not %v", from, edges, got, want)
		}
	}
}

// P1: many edges end, too: a chain, in an order in which it can't be gone along
// in one go, and a star.
func TestP1ReachOfManyEdgesEnds(t *testing.T) {
	const size = 200000
	var chain, star []grant.Edge
	for n := size; n > 0; n-- {
		chain = append(chain, grant.Edge{n, n - 1})
		star = append(star, grant.Edge{n, 0})
	}
	for name, edges := range map[string][]grant.Edge{"chain": chain, "star": star} {
		for _, from := range []int{0, 1, size} {
			got := grant.Reach(from, edges...)
			if len(got) != size+1 || got[0] != 0 || got[size] != size || !slices.IsSorted(got) {
				t.Errorf("%s from %d: %d numbers", name, from, len(got))
			}
		}
	}
}

// Rule 4: what is handed in isn't changed, and what lies behind its length is
// neither read nor written; what is answered is new memory.
func TestP11_3ReachLeavesItsEdges(t *testing.T) {
	all := []grant.Edge{{3, 1}, {2, 1}, {1, 9}, {9, 8}}
	kept := slices.Clone(all)
	got := grant.Reach(1, all[:2]...)
	if !slices.Equal(got, []int{1, 2, 3}) {
		t.Errorf("%v", got)
	}
	clear(got)
	if !slices.Equal(all, kept) {
		t.Errorf("the edges are %v now", all)
	}
	if again := grant.Reach(1, all[:2]...); !slices.Equal(again, []int{1, 2, 3}) {
		t.Errorf("once more: %v", again)
	}
}

func TestExamples(t *testing.T) {
	if got := grant.Reach(1, grant.Edge{2, 1}, grant.Edge{3, 4}, grant.Edge{4, 2}); !slices.Equal(got, []int{1, 2, 3, 4}) {
		t.Errorf("Reach: %v", got)
	}
}

// P1: a Table that New didn't make doesn't panic either: it is one without grants.
func TestP1TableThatNewDidNotMake(t *testing.T) {
	var table grant.Table
	if table.Has(key(0, "a")) || len(table.List()) != 0 || table.Drop(key(0, "a")) != api.ErrNone {
		t.Errorf("it has grants")
	}
	if e := table.Add(key(0, "a")); e != api.OK {
		t.Errorf("Add: %d", e)
	}
	holds(t, &table, []grant.Key{key(0, "a")})
}

// P1: keys by chance, out of the whole range, end every call without a panic.
func TestP1AnyKeys(t *testing.T) {
	r := rand.New(rand.NewSource(1))
	table, slow := made(t), &slowTable{}
	for range 50000 {
		flow := make([]byte, r.Intn(20))
		for n := range flow {
			flow[n] = letters[r.Intn(len(letters))]
			if r.Intn(40) == 0 {
				flow[n] = byte(r.Intn(256))
			}
		}
		k := key(int(r.Uint64()>>r.Intn(64))*(1-2*r.Intn(2)), string(flow))
		if got, want := table.Add(k), slow.add(k); got != want {
			t.Fatalf("Add %v: %d, not %d", k, got, want)
		}
		if got, want := table.Has(k), slices.Contains(slow.keys, k); got != want {
			t.Fatalf("Has %v: %v", k, got)
		}
		if r.Intn(2) == 0 && len(slow.keys) > 0 {
			k = slow.keys[r.Intn(len(slow.keys))]
		}
		if got, want := table.Drop(k), slow.drop(k); got != want {
			t.Fatalf("Drop %v: %d, not %d", k, got, want)
		}
	}
}

// P2: two tables that were made apart have nothing to do with one another,
// whether or not they were made of one list.
func TestP2TablesStandApart(t *testing.T) {
	keys := full()[:3]
	a, b := made(t, keys...), made(t, keys...)
	if e := a.Drop(keys[1]); e != api.OK {
		t.Fatalf("Drop: %d", e)
	}
	holds(t, b, keys)
	if e := b.Add(key(5, "only")); e != api.OK {
		t.Fatalf("Add: %d", e)
	}
	holds(t, a, []grant.Key{keys[0], keys[2]})
	holds(t, b, append(slices.Clone(keys), key(5, "only")))
	for n := range 14 {
		if e := a.Add(key(6, "n"+strconv.Itoa(n))); e != api.OK {
			t.Fatalf("Add %d: %d", n, e)
		}
	}
	if e := a.Add(key(7, "x")); e != api.ErrQuota {
		t.Errorf("the full one: %d", e)
	}
	if e := b.Add(key(7, "x")); e != api.OK {
		t.Errorf("the other one: %d", e)
	}
}
