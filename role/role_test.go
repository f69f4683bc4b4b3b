package role_test

import (
	"math"
	"math/rand"
	"slices"
	"strings"
	"testing"

	"precinct/role"
)

// opNames: the ops' names as the chapter lists them.
func opNames() []string {
	return []string{"query", "poll", "complete", "start", "define", "mint", "assign", "revoke", "grant", "ungrant"}
}

// addedOps: what a role may beyond the one below it, as the chapter says it.
func addedOps(r role.Role) []role.Op {
	switch r {
	case role.Viewer:
		return []role.Op{role.Query}
	case role.Worker:
		return []role.Op{role.Poll, role.Complete}
	case role.Editor:
		return []role.Op{role.Start, role.Define}
	case role.Owner:
		return []role.Op{role.Mint, role.Assign, role.Revoke, role.Grant, role.Ungrant}
	}
	return nil
}

// slowAllows: may r ask for o, by the chapter's words?
func slowAllows(r role.Role, o role.Op) bool {
	if r < role.Viewer || r > role.Owner {
		return false
	}
	for below := role.Viewer; below <= r; below++ {
		if slices.Contains(addedOps(below), o) {
			return true
		}
	}
	return false
}

// slowLeast: the least role that may ask for o, by the chapter's words.
func slowLeast(o role.Op) role.Role {
	for _, r := range []role.Role{role.Viewer, role.Worker, role.Editor, role.Owner} {
		if slowAllows(r, o) {
			return r
		}
	}
	return role.Roles
}

// edgeNumbers: all that are a role or an op, those around them, and those at
// which a shift or a narrower number would wrap round.
func edgeNumbers() []int {
	ns := []int{math.MinInt, math.MinInt + 1, math.MaxInt - 1, math.MaxInt}
	for n := -70; n <= 140; n++ {
		ns = append(ns, n)
	}
	for _, shift := range []int{8, 16, 31, 32, 33, 62} {
		for near := -12; near <= 12; near++ {
			ns = append(ns, 1<<shift+near, -1<<shift+near)
		}
	}
	for near := range 12 {
		ns = append(ns, math.MinInt+near, math.MaxInt-near)
	}
	return ns
}

// The numbers of roles and ops are told by the chapter: nought, and on by one.
func TestRolesAndOpsStandInTheirOrder(t *testing.T) {
	for n, r := range []role.Role{role.None, role.Viewer, role.Worker, role.Editor, role.Owner, role.Roles} {
		if int(r) != n {
			t.Errorf("role %d is %d", n, r)
		}
	}
	ops := []role.Op{role.Query, role.Poll, role.Complete, role.Start, role.Define, role.Mint, role.Assign, role.Revoke, role.Grant, role.Ungrant, role.Ops}
	for n, o := range ops {
		if int(o) != n {
			t.Errorf("op %d is %d", n, o)
		}
	}
}

func TestP10_1EachRoleMayWhatTheOneBelowMayAndMore(t *testing.T) {
	rows := []struct {
		r   role.Role
		may string
	}{
		{role.None, "----------"},
		{role.Viewer, "x---------"},
		{role.Worker, "xxx-------"},
		{role.Editor, "xxxxx-----"},
		{role.Owner, "xxxxxxxxxx"},
		{role.Roles, "----------"},
	}
	for _, row := range rows {
		for o := range role.Ops {
			if got, want := row.r.Allows(o), row.may[o] == 'x'; got != want {
				t.Errorf("role %d, op %d: %v, not %v", row.r, o, got, want)
			}
		}
	}
}

func TestP10_1AllNumbers(t *testing.T) {
	for _, r := range edgeNumbers() {
		for _, o := range edgeNumbers() {
			if got, want := role.Role(r).Allows(role.Op(o)), slowAllows(role.Role(r), role.Op(o)); got != want {
				t.Errorf("role %d, op %d: %v, not %v", r, o, got, want)
			}
		}
	}
}

func TestP10_1NobodyMayWhatIsNoOp(t *testing.T) {
	for r := role.None; r <= role.Roles; r++ {
		for _, o := range []role.Op{-1, role.Ops, role.Ops + 1, 31, 32, 33, 63, 64, 65, math.MinInt, math.MaxInt} {
			if r.Allows(o) {
				t.Errorf("role %d may %d", r, o)
			}
		}
	}
}

func TestP10_1WhatIsNoRoleMayNothing(t *testing.T) {
	for _, r := range []role.Role{role.None, -1, role.Roles, role.Roles + 1, math.MinInt, math.MaxInt} {
		for o := range role.Ops {
			if r.Allows(o) {
				t.Errorf("role %d may %d", r, o)
			}
		}
	}
}

func TestP10_2Masks(t *testing.T) {
	rows := []struct {
		r    role.Role
		mask uint32
	}{
		{role.None, 0}, {role.Viewer, 1}, {role.Worker, 7}, {role.Editor, 31}, {role.Owner, 1023}, {role.Roles, 0},
		{-1, 0}, {role.Roles + 1, 0}, {math.MinInt, 0}, {math.MaxInt, 0},
	}
	for _, row := range rows {
		if got := row.r.Mask(); got != row.mask {
			t.Errorf("role %d: %d, not %d", row.r, got, row.mask)
		}
	}
}

func TestP10_2MaskHasTheBitsThatAllowsTells(t *testing.T) {
	for _, r := range edgeNumbers() {
		mask := role.Role(r).Mask()
		for bit := range 32 {
			if set := mask>>bit&1 == 1; set != role.Role(r).Allows(role.Op(bit)) {
				t.Errorf("role %d, bit %d: %v", r, bit, set)
			}
		}
	}
}

func TestP10_2Least(t *testing.T) {
	want := map[role.Op]role.Role{
		role.Query: role.Viewer,
		role.Poll:  role.Worker, role.Complete: role.Worker,
		role.Start: role.Editor, role.Define: role.Editor,
		role.Mint: role.Owner, role.Assign: role.Owner, role.Revoke: role.Owner, role.Grant: role.Owner, role.Ungrant: role.Owner,
		role.Ops: role.Roles, -1: role.Roles, math.MinInt: role.Roles, math.MaxInt: role.Roles,
	}
	for o, least := range want {
		if got := role.Least(o); got != least {
			t.Errorf("op %d: %d, not %d", o, got, least)
		}
	}
}

func TestP10_2LeastOfAllNumbers(t *testing.T) {
	for _, n := range edgeNumbers() {
		o := role.Op(n)
		got := role.Least(o)
		if want := slowLeast(o); got != want {
			t.Errorf("op %d: %d, not %d", n, got, want)
		}
		if got != role.Roles && (!got.Allows(o) || (got - 1).Allows(o)) {
			t.Errorf("op %d: %d isn't the least that may", n, got)
		}
	}
}

func TestP10_3Names(t *testing.T) {
	names := opNames()
	if len(names) != int(role.Ops) {
		t.Fatalf("%d names, %d ops", len(names), role.Ops)
	}
	for n, name := range names {
		if got := role.Op(n).Name(); got != name {
			t.Errorf("op %d: %q, not %q", n, got, name)
		}
	}
}

func TestP10_3NoOpHasTheEmptyName(t *testing.T) {
	for _, n := range edgeNumbers() {
		if n >= 0 && n < int(role.Ops) {
			continue
		}
		if got := role.Op(n).Name(); got != "" {
			t.Errorf("op %d: %q", n, got)
		}
	}
}

func TestP10_3FindsEachName(t *testing.T) {
	for n, name := range opNames() {
		// A text of its own memory: what is found hangs on the bytes alone.
		if o, ok := role.Find(strings.Clone(name)); !ok || int(o) != n {
			t.Errorf("%q: %d, %v, not %d", name, o, ok, n)
		}
	}
}

func TestP10_3FindsNoOtherText(t *testing.T) {
	texts := []string{"", " ", "\x00", "0", "none", "viewer", "worker", "editor", "owner", "roles", "ops", "un", "que", strings.Repeat("query", 1<<16)}
	for _, name := range opNames() {
		texts = append(texts, strings.ToUpper(name), strings.ToUpper(name[:1])+name[1:], " "+name, name+" ", name+"\n", name+"\x00", "\x00"+name, name+name, "un"+name+"x", "\xff"+name)
		for end := range len(name) {
			texts = append(texts, name[:end], name[end+1:], name[:end]+"\xff"+name[end+1:])
		}
	}
	for _, text := range texts {
		if slices.Contains(opNames(), text) { // grant is ungrant's end
			continue
		}
		if o, ok := role.Find(text); ok || o != 0 {
			t.Errorf("%.40q: %d, %v", text, o, ok)
		}
	}
}

func TestP10_3TextsByChance(t *testing.T) {
	r := rand.New(rand.NewSource(10))
	for range 20000 {
		text := opNames()[r.Intn(int(role.Ops))]
		if r.Intn(3) > 0 {
			b := []byte(text)
			b[r.Intn(len(b))] = byte(r.Intn(256))
			text = string(b)
		}
		want := slices.Index(opNames(), text)
		o, ok := role.Find(text)
		if ok != (want >= 0) || ok && int(o) != want || !ok && o != 0 {
			t.Fatalf("%q: %d, %v, not %d", text, o, ok, want)
		}
	}
}

func TestP10_3NameAndFindAreEachOthersWayBack(t *testing.T) {
	for o := range role.Ops {
		if back, ok := role.Find(o.Name()); !ok || back != o {
			t.Errorf("op %d: %q is %d, %v", o, o.Name(), back, ok)
		}
	}
}

func TestExamples(t *testing.T) {
	if got := role.Worker.Mask(); got != 7 {
		t.Errorf("Worker's Mask: %d", got)
	}
	if got := role.Least(role.Define); got != role.Editor {
		t.Errorf("Least(Define): %d", got)
	}
}

// P1: numbers by chance, out of the whole range, end every call without a panic.
func TestP1AnyNumbers(t *testing.T) {
	r := rand.New(rand.NewSource(1))
	for range 50000 {
		a, b := role.Role(r.Uint64()>>r.Intn(64)), role.Op(r.Uint64()>>r.Intn(64))
		if r.Intn(2) == 0 {
			a, b = -a, -b
		}
		if got, want := a.Allows(b), slowAllows(a, b); got != want {
			t.Fatalf("role %d, op %d: %v", a, b, got)
		}
		if got, want := role.Least(b), slowLeast(b); got != want {
			t.Fatalf("op %d: %d", b, got)
		}
		if got := a.Mask() != 0; got != (a >= role.Viewer && a <= role.Owner) {
			t.Fatalf("role %d: %d", a, a.Mask())
		}
		if got := b.Name() != ""; got != (b >= 0 && b < role.Ops) {
			t.Fatalf("op %d: %q", b, b.Name())
		}
	}
}

// P2 and rule 7: nothing is kept, so calls between make no difference.
func TestP2NothingIsKept(t *testing.T) {
	for range 3 {
		for _, r := range rand.New(rand.NewSource(2)).Perm(int(role.Roles)) {
			for o := range role.Ops {
				if role.Role(r).Allows(o) != slowAllows(role.Role(r), o) {
					t.Fatalf("role %d, op %d", r, o)
				}
			}
		}
		role.Find("nothing")
		role.Least(-1)
	}
}
