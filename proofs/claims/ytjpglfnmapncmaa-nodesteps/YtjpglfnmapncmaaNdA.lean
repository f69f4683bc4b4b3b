/-
  The walks of node's steps and of the document's: each returns what the plain functions here say, and nothing that was in memory has turned. Conditions: the numbers fit their kinds.
-/
import Derived.Test.YtjpglfnmapncmaaRows
import Derived.WalkKit
import Derived.ProofKit
import Derived.OpenShut
import Derived.BigQuiet
namespace Go.Proofs.Ytjpglfnmapncmaa.M
theorem wf_i64 {x : Int} (h : (Lit.int .i64 x).wf = true) : -9223372036854775808 ≤ x ∧ x < 9223372036854775808 := by
  simp [Lit.wf, IntKind.min, IntKind.max, IntKind.bits, IntKind.signed] at h
  omega
/-- A number of 64 bits. -/
def I6 (x : Int) : Prop := -9223372036854775808 ≤ x ∧ x < 9223372036854775808
/-- A node's state: phase, try, until, at. -/
structure NS where
  p : Int
  t : Int
  u : Int
  a : Int
def NS.v (s : NS) : Value := .agg #[.int .i64 s.p, .int .i64 s.t, .int .i64 s.u, .int .i64 s.a]
structure NS.Ok (s : NS) : Prop where
  p : I6 s.p
  t : I6 s.t
  u : I6 s.u
  a : I6 s.a
/-- Up to when a lease lasts. -/
def unt (now lease : Int) : Int := if lease ≤ 0 then now else if 9223372036854775807 - lease < now then 9223372036854775807 else now + lease
theorem unt_neg {now lease : Int} (h : lease ≤ 0) : unt now lease = now := if_pos h
theorem unt_big {now lease : Int} (h : 0 < lease) (k : 9223372036854775807 - lease < now) : unt now lease = 9223372036854775807 := by unfold unt; rw [if_neg (by omega), if_pos k]
theorem unt_sum {now lease : Int} (h : 0 < lease) (k : ¬ 9223372036854775807 - lease < now) : unt now lease = now + lease := by unfold unt; rw [if_neg (by omega), if_neg k]
theorem unt_ok {now lease : Int} (h : I6 now) : I6 (unt now lease) := by
  unfold unt I6 at *
  split
  · exact h
  · split <;> omega
/-- One more try; the greatest stays. -/
def nxt (t : Int) : Int := if t < 9223372036854775807 then t + 1 else t
def over (s : NS) : Bool := decide (4 ≤ s.p ∧ s.p ≤ 6)
def none_ : NS := ⟨0, 0, 0, 0⟩
def wk (s : NS) (now lease : Int) (c : Bool) : NS := if s.p = 0 then bif c then ⟨3, s.t, unt now lease, now⟩ else ⟨1, s.t, 0, now⟩ else none_
def wkE (s : NS) : Int := if s.p = 0 then 0 else 36
def sk (s : NS) (now : Int) : NS := if s.p = 0 then ⟨6, s.t, 0, now⟩ else none_
def ls (s : NS) (now lease : Int) : NS := if s.p = 1 then ⟨2, nxt s.t, unt now lease, now⟩ else none_
def lsE (s : NS) : Int := if s.p = 1 then 0 else 36
def an (s : NS) (now : Int) (ok : Bool) : NS := if s.p = 3 ∧ ¬ s.u < now then ⟨bif ok then 4 else 5, s.t, 0, now⟩ else none_
def anE (s : NS) (now : Int) : Int := if s.p = 3 ∧ ¬ s.u < now then 0 else 36
/-- What becomes of one whose try has failed. -/
def ag (t now tries : Int) : NS := ⟨if t < tries then 1 else 5, t, 0, now⟩
def fi (s : NS) (now try_ tries : Int) (ok : Bool) : NS := if s.p = 2 ∧ s.t = try_ ∧ ¬ s.u < now then (bif ok then ⟨4, s.t, 0, now⟩ else ag s.t now tries) else none_
def fiE (s : NS) (now try_ : Int) : Int := if s.p = 2 ∧ s.t = try_ ∧ ¬ s.u < now then 0 else 36
def ex (s : NS) (now tries : Int) : NS := if s.u < now then (if s.p = 2 then ag s.t now tries else if s.p = 3 then ⟨5, s.t, 0, now⟩ else s) else s
def exB (s : NS) (now : Int) : Bool := decide (s.u < now ∧ (s.p = 2 ∨ s.p = 3))
end Go.Proofs.Ytjpglfnmapncmaa.M
namespace Go.Proofs.Ytjpglfnmapncmaa.Wnd
open Go.ChangeShapes Go.WideShapes Go.ChangeAt Go.RowKit Go.Proofs.Ytjpglfnmapncmaa.M

theorem hid {p : Prop} (h : p) : Hid p := h

set_option maxRecDepth 100000 in
theorem turn (p t u a to now : Int) (w : World) :
    Calls Try.prog 25 #[.agg #[.int .i64 p, .int .i64 t, .int .i64 u, .int .i64 a], .int .i64 to, .int .i64 now] w fun e w' => e = .returned (.agg #[.int .i64 to, .int .i64 t, .int .i64 0, .int .i64 now]) ∧ Below w.heap.size w w' := by
  go_enter Try.func25, Try.ntmps25
  go_wp2
  exact bodyPost_ret (v := .agg #[.int .i64 to, .int .i64 t, .int .i64 0, .int .i64 now]) (by simp [results, Try.results25, go_sem]) rfl ⟨rfl, ((Below.refl _ _).alloc (Nat.le_refl _) _).alloc (by simp) _⟩

set_option maxRecDepth 100000 in
theorem late (p t u a now : Int) (w : World) :
    Calls Try.prog 28 #[.agg #[.int .i64 p, .int .i64 t, .int .i64 u, .int .i64 a], .int .i64 now] w fun e w' => e = .returned (.bool (decide (u < now))) ∧ Below w.heap.size w w' := by
  go_enter Try.func28, Try.ntmps28
  go_wp2
  go_ret
  exact ⟨rfl, (Below.refl _ _).alloc (Nat.le_refl _) _⟩

set_option maxRecDepth 100000 in
theorem lastsTo (now lease : Int) (w : World) (h : I6 now) (k : I6 lease) :
    Calls Try.prog 31 #[.int .i64 now, .int .i64 lease] w fun e w' => e = .returned (.int .i64 (unt now lease)) ∧ Below w.heap.size w w' := by
  obtain ⟨h1, h2⟩ := h
  obtain ⟨k1, k2⟩ := k
  by_cases c0 : lease ≤ 0
  · rw [unt_neg c0]
    by_cases c1 : lease < 0
    · go_enter Try.func31, Try.ntmps31
      go_wp2
      go_ret
      exact ⟨rfl, Below.refl _ _⟩
    · obtain rfl : lease = 0 := by omega
      go_enter Try.func31, Try.ntmps31
      go_wp2
      go_ret
      exact ⟨by simp, Below.refl _ _⟩
  by_cases c1 : 9223372036854775807 - lease < now
  · rw [unt_big (by omega) c1]
    go_enter Try.func31, Try.ntmps31
    go_wp2
    go_ret
    exact ⟨rfl, Below.refl _ _⟩
  · rw [unt_sum (by omega) c1]
    go_enter Try.func31, Try.ntmps31
    go_wp2
    go_ret
    exact ⟨rfl, Below.refl _ _⟩

set_option maxRecDepth 100000 in
theorem untilR (now lease : Int) (w : World) (h : I6 now) (k : I6 lease) :
    Calls Try.prog 27 #[.int .i64 now, .int .i64 lease] w fun e w' => e = .returned (.int .i64 (unt now lease)) ∧ Below w.heap.size w w' := by
  obtain ⟨h1, h2⟩ := h
  obtain ⟨k1, k2⟩ := k
  by_cases c0 : lease ≤ 0
  · rw [unt_neg c0]
    by_cases c1 : lease < 0
    · go_enter Try.func27, Try.ntmps27
      go_wp2
      go_ret
      exact ⟨rfl, Below.refl _ _⟩
    · obtain rfl : lease = 0 := by omega
      go_enter Try.func27, Try.ntmps27
      go_wp2
      go_ret
      exact ⟨by simp, Below.refl _ _⟩
  by_cases c1 : 9223372036854775807 - lease < now
  · rw [unt_big (by omega) c1]
    go_enter Try.func27, Try.ntmps27
    go_wp2
    go_ret
    exact ⟨rfl, Below.refl _ _⟩
  · rw [unt_sum (by omega) c1]
    go_enter Try.func27, Try.ntmps27
    go_wp2
    go_ret
    exact ⟨rfl, Below.refl _ _⟩

/-- Four numbers that lie in a block. -/
def Cel (w : World) (b : Nat) (p t u a : Int) : Prop := ∃ T, w.heap[b]? = some (.cells #[.int .i64 p, .int .i64 t, .int .i64 u, .int .i64 a] T (0, 0))
theorem heap_new (w : World) (o : Obj) : (w.alloc o).heap[w.heap.size]? = some o := by
  show (w.heap.push o)[w.heap.size]? = some o
  simp
theorem heap_lt {w : World} {b : Nat} {o : Obj} (h : w.heap[b]? = some o) : b < w.heap.size := by
  rcases Nat.lt_or_ge b w.heap.size with c | c
  · exact c
  · rw [Array.getElem?_eq_none c] at h
    cases h
theorem Cel.new (w : World) (p t u a : Int) (T : TypeId) : Cel (w.alloc (.cells #[.int .i64 p, .int .i64 t, .int .i64 u, .int .i64 a] T)) w.heap.size p t u a := ⟨T, heap_new w _⟩
theorem Cel.lt {w : World} {b : Nat} {p t u a : Int} (h : Cel w b p t u a) : b < w.heap.size := by
  obtain ⟨T, h⟩ := h
  exact heap_lt h
theorem Cel.below {w w' : World} {b : Nat} {p t u a : Int} (h : Cel w b p t u a) {n : Nat} (B : Below n w w') (hn : b < n) : Cel w' b p t u a := by
  obtain ⟨T, h⟩ := h
  exact ⟨T, (B.block b hn).trans h⟩
theorem Cel.al {w : World} {b : Nat} {p t u a : Int} (h : Cel w b p t u a) (o : Obj) : Cel (w.alloc o) b p t u a := h.below ((Below.refl _ _).alloc (Nat.le_refl _) _) h.lt
theorem Cel.cells {w : World} {b : Nat} {p t u a : Int} (h : Cel w b p t u a) : w.cell? ⟨b, 0, none⟩ = some (.int .i64 p) ∧ w.cell? ⟨b, 1, none⟩ = some (.int .i64 t) ∧ w.cell? ⟨b, 2, none⟩ = some (.int .i64 u) ∧ w.cell? ⟨b, 3, none⟩ = some (.int .i64 a) ∧ (∀ j, w.frozen? ⟨b, j, none⟩ = false) ∧ b < w.heap.size := by
  have hl := h.lt
  obtain ⟨T, h⟩ := h
  refine ⟨?_, ?_, ?_, ?_, fun j => ?_, hl⟩
  all_goals simp [World.cell?, World.frozen?, h]

/-- A state in its block and a result's block beside it: what a call leaves of them. -/
theorem two {w w1 : World} {p t u a : Int} {T U : TypeId} (b : Below ((w.alloc (.cells #[.int .i64 p, .int .i64 t, .int .i64 u, .int .i64 a] T)).alloc (.cells #[.int .i64 0, .int .i64 0, .int .i64 0, .int .i64 0] U)).heap.size ((w.alloc (.cells #[.int .i64 p, .int .i64 t, .int .i64 u, .int .i64 a] T)).alloc (.cells #[.int .i64 0, .int .i64 0, .int .i64 0, .int .i64 0] U)) w1) :
    Cel w1 w.heap.size p t u a ∧ Cel w1 (w.heap.size + 1) 0 0 0 0 ∧ Below w.heap.size w w1 := by
  refine ⟨((Cel.new w p t u a T).al _).below b (by simp; omega), ?_, (((Below.refl _ _).alloc (Nat.le_refl _) _).alloc (by simp) _).trans (b.mono (by simp; omega))⟩
  have h := (Cel.new (w.alloc (.cells #[.int .i64 p, .int .i64 t, .int .i64 u, .int .i64 a] T)) 0 0 0 0 U).below b (by simp)
  rwa [World.size_alloc] at h

set_option maxRecDepth 100000 in
theorem lasting (p t u a lease : Int) (w : World) (h : I6 a) (k : I6 lease) :
    Calls Try.prog 26 #[.agg #[.int .i64 p, .int .i64 t, .int .i64 u, .int .i64 a], .int .i64 lease] w fun e w' => e = .returned (.agg #[.int .i64 p, .int .i64 t, .int .i64 (unt a lease), .int .i64 a]) ∧ Below w.heap.size w w' := by
  go_enter Try.func26, Try.ntmps26
  go_wp2_with fail
  refine (lastsTo a lease _ h k).mono ?_
  rintro e w1 ⟨rfl, b1⟩
  obtain ⟨CS, CZ, B1⟩ := two b1
  obtain ⟨v0, v1, v2, v3, vf, vl⟩ := CS.cells
  obtain ⟨z0, z1, z2, z3, zf, zl⟩ := CZ.cells
  clear h k b1 CS CZ
  go_wp2
  exact bodyPost_ret (v := .agg #[.int .i64 p, .int .i64 t, .int .i64 (unt a lease), .int .i64 a]) (by simp [results, Try.results26, go_sem, z0, z1, z2, z3]) rfl ⟨rfl, ((((B1.setCell (by simp) _).setCell (by simp) _).setCell (by simp) _).setCell (by simp) _).setCell (by simp) _⟩

set_option maxRecDepth 100000 in
theorem again (p t u a now tries : Int) (w : World) :
    Calls Try.prog 29 #[.agg #[.int .i64 p, .int .i64 t, .int .i64 u, .int .i64 a], .int .i64 now, .int .i64 tries] w fun e w' => e = .returned (.agg #[.int .i64 (ag t now tries).p, .int .i64 (ag t now tries).t, .int .i64 (ag t now tries).u, .int .i64 (ag t now tries).a]) ∧ Below w.heap.size w w' := by
  by_cases c : t < tries
  · have E : ag t now tries = ⟨1, t, 0, now⟩ := by simp [ag, c]
    rw [E]
    go_enter Try.func29, Try.ntmps29
    go_wp2_with fail
    refine (turn _ _ _ _ _ _ _).mono ?_
    rintro e w1 ⟨rfl, b1⟩
    obtain ⟨CS, CZ, B1⟩ := two b1
    obtain ⟨z0, z1, z2, z3, zf, zl⟩ := CZ.cells
    clear CS CZ
    go_wp2
    exact bodyPost_ret (v := .agg #[.int .i64 1, .int .i64 t, .int .i64 0, .int .i64 now]) (by simp [results, Try.results29, go_sem, z0, z1, z2, z3]) rfl ⟨rfl, ((((B1).setCell (by simp) _).setCell (by simp) _).setCell (by simp) _).setCell (by simp) _⟩
  · have E : ag t now tries = ⟨5, t, 0, now⟩ := by simp [ag, c]
    rw [E]
    go_enter Try.func29, Try.ntmps29
    go_wp2_with fail
    refine (turn _ _ _ _ _ _ _).mono ?_
    rintro e w1 ⟨rfl, b1⟩
    obtain ⟨CS, CZ, B1⟩ := two b1
    obtain ⟨z0, z1, z2, z3, zf, zl⟩ := CZ.cells
    clear CS CZ
    go_wp2
    exact bodyPost_ret (v := .agg #[.int .i64 5, .int .i64 t, .int .i64 0, .int .i64 now]) (by simp [results, Try.results29, go_sem, z0, z1, z2, z3]) rfl ⟨rfl, ((((B1).setCell (by simp) _).setCell (by simp) _).setCell (by simp) _).setCell (by simp) _⟩

set_option maxRecDepth 100000 in
theorem wake (p t u a now lease : Int) (c : Bool) (w : World) (h : I6 now) (k : I6 lease) :
    Calls Try.prog 9 #[.agg #[.int .i64 p, .int .i64 t, .int .i64 u, .int .i64 a], .int .i64 now, .int .i64 lease, .bool c] w fun e w' => e = .returned (.tuple #[.agg #[.int .i64 (wk ⟨p, t, u, a⟩ now lease c).p, .int .i64 (wk ⟨p, t, u, a⟩ now lease c).t, .int .i64 (wk ⟨p, t, u, a⟩ now lease c).u, .int .i64 (wk ⟨p, t, u, a⟩ now lease c).a], .int .i64 (wkE ⟨p, t, u, a⟩)]) ∧ Below w.heap.size w w' := by
  by_cases c0 : p = 0
  · subst c0
    cases c
    · have E : wk ⟨0, t, u, a⟩ now lease false = ⟨1, t, 0, now⟩ := rfl
      have E2 : wkE ⟨0, t, u, a⟩ = 0 := rfl
      rw [E, E2]
      go_enter Try.func9, Try.ntmps9
      go_wp2_with fail
      refine (turn _ _ _ _ _ _ _).mono ?_
      rintro e w1 ⟨rfl, b1⟩
      obtain ⟨CS, CZ, B1⟩ := two b1
      obtain ⟨z0, z1, z2, z3, zf, zl⟩ := CZ.cells
      clear CS CZ
      go_wp2
      exact bodyPost_ret (v := .tuple #[.agg #[.int .i64 1, .int .i64 t, .int .i64 0, .int .i64 now], .int .i64 0]) (by simp [results, Try.results9, go_sem, z0, z1, z2, z3]) rfl ⟨rfl, ((((B1).setCell (by simp) _).setCell (by simp) _).setCell (by simp) _).setCell (by simp) _⟩
    · have E : wk ⟨0, t, u, a⟩ now lease true = ⟨3, t, unt now lease, now⟩ := rfl
      have E2 : wkE ⟨0, t, u, a⟩ = 0 := rfl
      rw [E, E2]
      go_enter Try.func9, Try.ntmps9
      go_wp2_with fail
      refine (turn _ _ _ _ _ _ _).mono ?_
      rintro e w1 ⟨rfl, b1⟩
      go_wp2_with fail
      refine (lasting _ _ _ _ _ _ h k).mono ?_
      rintro e w2 ⟨rfl, b2⟩
      replace b2 := b1.trans (b2.mono b1.size)
      obtain ⟨CS, CZ, B1⟩ := two b2
      obtain ⟨z0, z1, z2, z3, zf, zl⟩ := CZ.cells
      clear CS CZ
      go_wp2
      exact bodyPost_ret (v := .tuple #[.agg #[.int .i64 3, .int .i64 t, .int .i64 (unt now lease), .int .i64 now], .int .i64 0]) (by simp [results, Try.results9, go_sem, z0, z1, z2, z3]) rfl ⟨rfl, ((((B1).setCell (by simp) _).setCell (by simp) _).setCell (by simp) _).setCell (by simp) _⟩
  · have E : wk ⟨p, t, u, a⟩ now lease c = ⟨0, 0, 0, 0⟩ := if_neg c0
    have E2 : wkE ⟨p, t, u, a⟩ = 36 := if_neg c0
    rw [E, E2]
    go_enter Try.func9, Try.ntmps9
    go_wp2
    exact bodyPost_ret (v := .tuple #[.agg #[.int .i64 0, .int .i64 0, .int .i64 0, .int .i64 0], .int .i64 36]) (by simp [results, Try.results9, go_sem]) rfl ⟨rfl, ((Below.refl _ _).alloc (Nat.le_refl _) _).alloc (by simp) _⟩

set_option maxRecDepth 100000 in
theorem skip (p t u a now : Int) (w : World) :
    Calls Try.prog 15 #[.agg #[.int .i64 p, .int .i64 t, .int .i64 u, .int .i64 a], .int .i64 now] w fun e w' => e = .returned (.tuple #[.agg #[.int .i64 (sk ⟨p, t, u, a⟩ now).p, .int .i64 (sk ⟨p, t, u, a⟩ now).t, .int .i64 (sk ⟨p, t, u, a⟩ now).u, .int .i64 (sk ⟨p, t, u, a⟩ now).a], .int .i64 (wkE ⟨p, t, u, a⟩)]) ∧ Below w.heap.size w w' := by
  by_cases c0 : p = 0
  · subst c0
    have E : sk ⟨0, t, u, a⟩ now = ⟨6, t, 0, now⟩ := rfl
    have E2 : wkE ⟨0, t, u, a⟩ = 0 := rfl
    rw [E, E2]
    go_enter Try.func15, Try.ntmps15
    go_wp2_with fail
    refine (turn _ _ _ _ _ _ _).mono ?_
    rintro e w1 ⟨rfl, b1⟩
    obtain ⟨CS, CZ, B1⟩ := two b1
    obtain ⟨z0, z1, z2, z3, zf, zl⟩ := CZ.cells
    clear CS CZ
    go_wp2
    exact bodyPost_ret (v := .tuple #[.agg #[.int .i64 6, .int .i64 t, .int .i64 0, .int .i64 now], .int .i64 0]) (by simp [results, Try.results15, go_sem, z0, z1, z2, z3]) rfl ⟨rfl, ((((B1).setCell (by simp) _).setCell (by simp) _).setCell (by simp) _).setCell (by simp) _⟩
  · have E : sk ⟨p, t, u, a⟩ now = ⟨0, 0, 0, 0⟩ := if_neg c0
    have E2 : wkE ⟨p, t, u, a⟩ = 36 := if_neg c0
    rw [E, E2]
    go_enter Try.func15, Try.ntmps15
    go_wp2
    exact bodyPost_ret (v := .tuple #[.agg #[.int .i64 0, .int .i64 0, .int .i64 0, .int .i64 0], .int .i64 36]) (by simp [results, Try.results15, go_sem]) rfl ⟨rfl, ((Below.refl _ _).alloc (Nat.le_refl _) _).alloc (by simp) _⟩

set_option maxRecDepth 100000 in
theorem over (p t u a : Int) (w : World) :
    Calls Try.prog 12 #[.agg #[.int .i64 p, .int .i64 t, .int .i64 u, .int .i64 a]] w fun e w' => e = .returned (.bool (decide (4 ≤ p ∧ p ≤ 6))) ∧ Below w.heap.size w w' := by
  by_cases c4 : p = 4
  · subst c4
    go_enter Try.func12, Try.ntmps12
    go_wp2
    go_ret
    exact ⟨rfl, (Below.refl _ _).alloc (Nat.le_refl _) _⟩
  by_cases c5 : p = 5
  · subst c5
    go_enter Try.func12, Try.ntmps12
    go_wp2
    go_ret
    exact ⟨rfl, (Below.refl _ _).alloc (Nat.le_refl _) _⟩
  have E : decide (4 ≤ p ∧ p ≤ 6) = (p == 6) := by rw [Bool.eq_iff_iff]; simp; omega
  rw [E]
  go_enter Try.func12, Try.ntmps12
  go_wp2
  go_ret
  exact ⟨by simp [c4, c5], (Below.refl _ _).alloc (Nat.le_refl _) _⟩

set_option maxRecDepth 100000 in
theorem overR (p t u a : Int) (w : World) :
    Calls Try.prog 13 #[.agg #[.int .i64 p, .int .i64 t, .int .i64 u, .int .i64 a]] w fun e w' => e = .returned (.bool (decide (4 ≤ p ∧ p ≤ 6))) ∧ Below w.heap.size w w' := by
  by_cases c4 : 4 ≤ p
  · have E : decide (4 ≤ p ∧ p ≤ 6) = decide (p ≤ 6) := by rw [Bool.eq_iff_iff]; simp [c4]
    rw [E]
    go_enter Try.func13, Try.ntmps13
    go_wp2
    go_ret
    exact ⟨rfl, (Below.refl _ _).alloc (Nat.le_refl _) _⟩
  · have E : decide (4 ≤ p ∧ p ≤ 6) = false := by rw [Bool.eq_iff_iff]; simp; omega
    rw [E]
    go_enter Try.func13, Try.ntmps13
    go_wp2
    go_ret
    exact ⟨rfl, (Below.refl _ _).alloc (Nat.le_refl _) _⟩

set_option maxRecDepth 100000 in
theorem answer (p t u a now : Int) (ok : Bool) (w : World) :
    Calls Try.prog 19 #[.agg #[.int .i64 p, .int .i64 t, .int .i64 u, .int .i64 a], .int .i64 now, .bool ok] w fun e w' => e = .returned (.tuple #[.agg #[.int .i64 (an ⟨p, t, u, a⟩ now ok).p, .int .i64 (an ⟨p, t, u, a⟩ now ok).t, .int .i64 (an ⟨p, t, u, a⟩ now ok).u, .int .i64 (an ⟨p, t, u, a⟩ now ok).a], .int .i64 (anE ⟨p, t, u, a⟩ now)]) ∧ Below w.heap.size w w' := by
  by_cases c0 : p = 3
  · subst c0
    by_cases c1 : u < now
    · have E : an ⟨3, t, u, a⟩ now ok = ⟨0, 0, 0, 0⟩ := if_neg fun h => h.2 c1
      have E2 : anE ⟨3, t, u, a⟩ now = 36 := if_neg fun h => h.2 c1
      have CL := late 3 t u a now
      rw [decide_eq_true c1] at CL
      rw [E, E2]
      go_enter Try.func19, Try.ntmps19
      go_wp2_with fail
      refine (CL _).mono ?_
      rintro e w1 ⟨rfl, b1⟩
      obtain ⟨CS, CZ, B1⟩ := two b1
      obtain ⟨v0, v1, v2, v3, vf, vl⟩ := CS.cells
      obtain ⟨z0, z1, z2, z3, zf, zl⟩ := CZ.cells
      clear CS CZ
      go_wp2
      exact bodyPost_ret (v := .tuple #[.agg #[.int .i64 0, .int .i64 0, .int .i64 0, .int .i64 0], .int .i64 36]) (by simp [results, Try.results19, go_sem, z0, z1, z2, z3]) rfl ⟨rfl, ((((B1).setCell (by simp) _).setCell (by simp) _).setCell (by simp) _).setCell (by simp) _⟩
    · have E2 : anE ⟨3, t, u, a⟩ now = 0 := if_pos ⟨rfl, c1⟩
      have CL := late 3 t u a now
      rw [decide_eq_false c1] at CL
      rw [E2]
      cases ok
      · have E : an ⟨3, t, u, a⟩ now false = ⟨5, t, 0, now⟩ := if_pos ⟨rfl, c1⟩
        rw [E]
        go_enter Try.func19, Try.ntmps19
        go_wp2_with fail
        refine (CL _).mono ?_
        rintro e w1 ⟨rfl, b1⟩
        obtain ⟨CS, CZ, B1⟩ := two b1
        obtain ⟨v0, v1, v2, v3, vf, vl⟩ := CS.cells
        obtain ⟨z0, z1, z2, z3, zf, zl⟩ := CZ.cells
        clear CS CZ
        go_wp2_with fail
        refine (turn _ _ _ _ _ _ _).mono ?_
        rintro e w2 ⟨rfl, b2⟩
        replace b2 := b1.trans (b2.mono b1.size)
        clear v0 v1 v2 v3 vf vl z0 z1 z2 z3 zf zl b1 B1
        obtain ⟨CS, CZ, B1⟩ := two b2
        obtain ⟨v0, v1, v2, v3, vf, vl⟩ := CS.cells
        obtain ⟨z0, z1, z2, z3, zf, zl⟩ := CZ.cells
        clear CS CZ
        go_wp2
        exact bodyPost_ret (v := .tuple #[.agg #[.int .i64 5, .int .i64 t, .int .i64 0, .int .i64 now], .int .i64 0]) (by simp [results, Try.results19, go_sem, z0, z1, z2, z3]) rfl ⟨rfl, ((((B1).setCell (by simp) _).setCell (by simp) _).setCell (by simp) _).setCell (by simp) _⟩
      · have E : an ⟨3, t, u, a⟩ now true = ⟨4, t, 0, now⟩ := if_pos ⟨rfl, c1⟩
        rw [E]
        go_enter Try.func19, Try.ntmps19
        go_wp2_with fail
        refine (CL _).mono ?_
        rintro e w1 ⟨rfl, b1⟩
        obtain ⟨CS, CZ, B1⟩ := two b1
        obtain ⟨v0, v1, v2, v3, vf, vl⟩ := CS.cells
        obtain ⟨z0, z1, z2, z3, zf, zl⟩ := CZ.cells
        clear CS CZ
        go_wp2_with fail
        refine (turn _ _ _ _ _ _ _).mono ?_
        rintro e w2 ⟨rfl, b2⟩
        replace b2 := b1.trans (b2.mono b1.size)
        clear v0 v1 v2 v3 vf vl z0 z1 z2 z3 zf zl b1 B1
        obtain ⟨CS, CZ, B1⟩ := two b2
        obtain ⟨v0, v1, v2, v3, vf, vl⟩ := CS.cells
        obtain ⟨z0, z1, z2, z3, zf, zl⟩ := CZ.cells
        clear CS CZ
        go_wp2
        exact bodyPost_ret (v := .tuple #[.agg #[.int .i64 4, .int .i64 t, .int .i64 0, .int .i64 now], .int .i64 0]) (by simp [results, Try.results19, go_sem, z0, z1, z2, z3]) rfl ⟨rfl, ((((B1).setCell (by simp) _).setCell (by simp) _).setCell (by simp) _).setCell (by simp) _⟩
  · have E : an ⟨p, t, u, a⟩ now ok = ⟨0, 0, 0, 0⟩ := if_neg fun h => c0 h.1
    have E2 : anE ⟨p, t, u, a⟩ now = 36 := if_neg fun h => c0 h.1
    rw [E, E2]
    go_enter Try.func19, Try.ntmps19
    go_wp2
    exact bodyPost_ret (v := .tuple #[.agg #[.int .i64 0, .int .i64 0, .int .i64 0, .int .i64 0], .int .i64 36]) (by simp [results, Try.results19, go_sem]) rfl ⟨rfl, ((Below.refl _ _).alloc (Nat.le_refl _) _).alloc (by simp) _⟩

set_option maxRecDepth 100000 in
theorem finish (p t u a now try_ tries : Int) (ok : Bool) (w : World) :
    Calls Try.prog 21 #[.agg #[.int .i64 p, .int .i64 t, .int .i64 u, .int .i64 a], .int .i64 now, .int .i64 try_, .int .i64 tries, .bool ok] w fun e w' => e = .returned (.tuple #[.agg #[.int .i64 (fi ⟨p, t, u, a⟩ now try_ tries ok).p, .int .i64 (fi ⟨p, t, u, a⟩ now try_ tries ok).t, .int .i64 (fi ⟨p, t, u, a⟩ now try_ tries ok).u, .int .i64 (fi ⟨p, t, u, a⟩ now try_ tries ok).a], .int .i64 (fiE ⟨p, t, u, a⟩ now try_)]) ∧ Below w.heap.size w w' := by
  by_cases c0 : p = 2
  · subst c0
    by_cases c2 : t = try_
    · subst c2
      by_cases c1 : u < now
      · have E : fi ⟨2, t, u, a⟩ now t tries ok = ⟨0, 0, 0, 0⟩ := if_neg fun h => h.2.2 c1
        have E2 : fiE ⟨2, t, u, a⟩ now t = 36 := if_neg fun h => h.2.2 c1
        have CL := late 2 t u a now
        rw [decide_eq_true c1] at CL
        rw [E, E2]
        go_enter Try.func21, Try.ntmps21
        go_wp2_with fail
        refine (CL _).mono ?_
        rintro e w1 ⟨rfl, b1⟩
        obtain ⟨CS, CZ, B1⟩ := two b1
        obtain ⟨v0, v1, v2, v3, vf, vl⟩ := CS.cells
        obtain ⟨z0, z1, z2, z3, zf, zl⟩ := CZ.cells
        clear CS CZ
        go_wp2
        exact bodyPost_ret (v := .tuple #[.agg #[.int .i64 0, .int .i64 0, .int .i64 0, .int .i64 0], .int .i64 36]) (by simp [results, Try.results21, go_sem, z0, z1, z2, z3]) rfl ⟨rfl, ((((B1).setCell (by simp) _).setCell (by simp) _).setCell (by simp) _).setCell (by simp) _⟩
      · have E2 : fiE ⟨2, t, u, a⟩ now t = 0 := if_pos ⟨rfl, rfl, c1⟩
        have CL := late 2 t u a now
        rw [decide_eq_false c1] at CL
        rw [E2]
        cases ok
        · have E : fi ⟨2, t, u, a⟩ now t tries false = ag t now tries := if_pos ⟨rfl, rfl, c1⟩
          rw [E]
          go_enter Try.func21, Try.ntmps21
          go_wp2_with fail
          refine (CL _).mono ?_
          rintro e w1 ⟨rfl, b1⟩
          obtain ⟨CS, CZ, B1⟩ := two b1
          obtain ⟨v0, v1, v2, v3, vf, vl⟩ := CS.cells
          obtain ⟨z0, z1, z2, z3, zf, zl⟩ := CZ.cells
          clear CS CZ
          go_wp2_with fail
          refine (again _ _ _ _ _ _ _).mono ?_
          rintro e w2 ⟨rfl, b2⟩
          replace b2 := b1.trans (b2.mono b1.size)
          clear v0 v1 v2 v3 vf vl z0 z1 z2 z3 zf zl b1 B1
          obtain ⟨CS, CZ, B1⟩ := two b2
          obtain ⟨v0, v1, v2, v3, vf, vl⟩ := CS.cells
          obtain ⟨z0, z1, z2, z3, zf, zl⟩ := CZ.cells
          clear CS CZ
          go_wp2
          exact bodyPost_ret (v := .tuple #[.agg #[.int .i64 (ag t now tries).p, .int .i64 (ag t now tries).t, .int .i64 (ag t now tries).u, .int .i64 (ag t now tries).a], .int .i64 0]) (by simp [results, Try.results21, go_sem, z0, z1, z2, z3]) rfl ⟨rfl, ((((B1).setCell (by simp) _).setCell (by simp) _).setCell (by simp) _).setCell (by simp) _⟩
        · have E : fi ⟨2, t, u, a⟩ now t tries true = ⟨4, t, 0, now⟩ := if_pos ⟨rfl, rfl, c1⟩
          rw [E]
          go_enter Try.func21, Try.ntmps21
          go_wp2_with fail
          refine (CL _).mono ?_
          rintro e w1 ⟨rfl, b1⟩
          obtain ⟨CS, CZ, B1⟩ := two b1
          obtain ⟨v0, v1, v2, v3, vf, vl⟩ := CS.cells
          obtain ⟨z0, z1, z2, z3, zf, zl⟩ := CZ.cells
          clear CS CZ
          go_wp2_with fail
          refine (turn _ _ _ _ _ _ _).mono ?_
          rintro e w2 ⟨rfl, b2⟩
          replace b2 := b1.trans (b2.mono b1.size)
          clear v0 v1 v2 v3 vf vl z0 z1 z2 z3 zf zl b1 B1
          obtain ⟨CS, CZ, B1⟩ := two b2
          obtain ⟨v0, v1, v2, v3, vf, vl⟩ := CS.cells
          obtain ⟨z0, z1, z2, z3, zf, zl⟩ := CZ.cells
          clear CS CZ
          go_wp2
          exact bodyPost_ret (v := .tuple #[.agg #[.int .i64 4, .int .i64 t, .int .i64 0, .int .i64 now], .int .i64 0]) (by simp [results, Try.results21, go_sem, z0, z1, z2, z3]) rfl ⟨rfl, ((((B1).setCell (by simp) _).setCell (by simp) _).setCell (by simp) _).setCell (by simp) _⟩
    · have E : fi ⟨2, t, u, a⟩ now try_ tries ok = ⟨0, 0, 0, 0⟩ := if_neg fun h => c2 h.2.1
      have E2 : fiE ⟨2, t, u, a⟩ now try_ = 36 := if_neg fun h => c2 h.2.1
      rw [E, E2]
      go_enter Try.func21, Try.ntmps21
      go_wp2
      exact bodyPost_ret (v := .tuple #[.agg #[.int .i64 0, .int .i64 0, .int .i64 0, .int .i64 0], .int .i64 36]) (by simp [results, Try.results21, go_sem]) rfl ⟨rfl, ((Below.refl _ _).alloc (Nat.le_refl _) _).alloc (by simp) _⟩
  · have E : fi ⟨p, t, u, a⟩ now try_ tries ok = ⟨0, 0, 0, 0⟩ := if_neg fun h => c0 h.1
    have E2 : fiE ⟨p, t, u, a⟩ now try_ = 36 := if_neg fun h => c0 h.1
    rw [E, E2]
    go_enter Try.func21, Try.ntmps21
    go_wp2
    exact bodyPost_ret (v := .tuple #[.agg #[.int .i64 0, .int .i64 0, .int .i64 0, .int .i64 0], .int .i64 36]) (by simp [results, Try.results21, go_sem]) rfl ⟨rfl, ((Below.refl _ _).alloc (Nat.le_refl _) _).alloc (by simp) _⟩

set_option maxRecDepth 100000 in
theorem expire (p t u a now tries : Int) (w : World) :
    Calls Try.prog 23 #[.agg #[.int .i64 p, .int .i64 t, .int .i64 u, .int .i64 a], .int .i64 now, .int .i64 tries] w fun e w' => e = .returned (.tuple #[.agg #[.int .i64 (ex ⟨p, t, u, a⟩ now tries).p, .int .i64 (ex ⟨p, t, u, a⟩ now tries).t, .int .i64 (ex ⟨p, t, u, a⟩ now tries).u, .int .i64 (ex ⟨p, t, u, a⟩ now tries).a], .bool (exB ⟨p, t, u, a⟩ now)]) ∧ Below w.heap.size w w' := by
  by_cases c1 : u < now
  · have CL := fun p => late p t u a now
    rw [decide_eq_true c1] at CL
    by_cases c0 : p = 2
    · subst c0
      have E : ex ⟨2, t, u, a⟩ now tries = ag t now tries := if_pos c1
      have E2 : exB ⟨2, t, u, a⟩ now = true := decide_eq_true ⟨c1, .inl rfl⟩
      rw [E, E2]
      go_enter Try.func23, Try.ntmps23
      go_wp2_with fail
      refine (CL _ _).mono ?_
      rintro e w1 ⟨rfl, b1⟩
      obtain ⟨CS, CZ, B1⟩ := two b1
      obtain ⟨v0, v1, v2, v3, vf, vl⟩ := CS.cells
      obtain ⟨z0, z1, z2, z3, zf, zl⟩ := CZ.cells
      clear CS CZ
      go_wp2_with fail
      refine (again _ _ _ _ _ _ _).mono ?_
      rintro e w2 ⟨rfl, b2⟩
      replace b2 := b1.trans (b2.mono b1.size)
      clear v0 v1 v2 v3 vf vl z0 z1 z2 z3 zf zl b1 B1
      obtain ⟨CS, CZ, B1⟩ := two b2
      obtain ⟨v0, v1, v2, v3, vf, vl⟩ := CS.cells
      obtain ⟨z0, z1, z2, z3, zf, zl⟩ := CZ.cells
      clear CS CZ
      go_wp2
      exact bodyPost_ret (v := .tuple #[.agg #[.int .i64 (ag t now tries).p, .int .i64 (ag t now tries).t, .int .i64 (ag t now tries).u, .int .i64 (ag t now tries).a], .bool true]) (by simp [results, Try.results23, go_sem, z0, z1, z2, z3]) rfl ⟨rfl, ((((B1).setCell (by simp) _).setCell (by simp) _).setCell (by simp) _).setCell (by simp) _⟩
    by_cases c3 : p = 3
    · subst c3
      have E : ex ⟨3, t, u, a⟩ now tries = ⟨5, t, 0, now⟩ := if_pos c1
      have E2 : exB ⟨3, t, u, a⟩ now = true := decide_eq_true ⟨c1, .inr rfl⟩
      rw [E, E2]
      go_enter Try.func23, Try.ntmps23
      go_wp2_with fail
      refine (CL _ _).mono ?_
      rintro e w1 ⟨rfl, b1⟩
      obtain ⟨CS, CZ, B1⟩ := two b1
      obtain ⟨v0, v1, v2, v3, vf, vl⟩ := CS.cells
      obtain ⟨z0, z1, z2, z3, zf, zl⟩ := CZ.cells
      clear CS CZ
      go_wp2_with fail
      refine (turn _ _ _ _ _ _ _).mono ?_
      rintro e w2 ⟨rfl, b2⟩
      replace b2 := b1.trans (b2.mono b1.size)
      clear v0 v1 v2 v3 vf vl z0 z1 z2 z3 zf zl b1 B1
      obtain ⟨CS, CZ, B1⟩ := two b2
      obtain ⟨v0, v1, v2, v3, vf, vl⟩ := CS.cells
      obtain ⟨z0, z1, z2, z3, zf, zl⟩ := CZ.cells
      clear CS CZ
      go_wp2
      exact bodyPost_ret (v := .tuple #[.agg #[.int .i64 5, .int .i64 t, .int .i64 0, .int .i64 now], .bool true]) (by simp [results, Try.results23, go_sem, z0, z1, z2, z3]) rfl ⟨rfl, ((((B1).setCell (by simp) _).setCell (by simp) _).setCell (by simp) _).setCell (by simp) _⟩
    have E : ex ⟨p, t, u, a⟩ now tries = ⟨p, t, u, a⟩ := by unfold ex; rw [if_pos c1, if_neg c0, if_neg c3]
    have E2 : exB ⟨p, t, u, a⟩ now = false := decide_eq_false fun h => h.2.elim c0 c3
    rw [E, E2]
    go_enter Try.func23, Try.ntmps23
    go_wp2_with fail
    refine (CL _ _).mono ?_
    rintro e w1 ⟨rfl, b1⟩
    obtain ⟨CS, CZ, B1⟩ := two b1
    obtain ⟨v0, v1, v2, v3, vf, vl⟩ := CS.cells
    obtain ⟨z0, z1, z2, z3, zf, zl⟩ := CZ.cells
    clear CS CZ
    go_wp2
    exact bodyPost_ret (v := .tuple #[.agg #[.int .i64 p, .int .i64 t, .int .i64 u, .int .i64 a], .bool false]) (by simp [results, Try.results23, go_sem, z0, z1, z2, z3]) rfl ⟨rfl, ((((B1).setCell (by simp) _).setCell (by simp) _).setCell (by simp) _).setCell (by simp) _⟩
  · have CL := late p t u a now
    rw [decide_eq_false c1] at CL
    have E : ex ⟨p, t, u, a⟩ now tries = ⟨p, t, u, a⟩ := if_neg c1
    have E2 : exB ⟨p, t, u, a⟩ now = false := decide_eq_false fun h => c1 h.1
    rw [E, E2]
    go_enter Try.func23, Try.ntmps23
    go_wp2_with fail
    refine (CL _).mono ?_
    rintro e w1 ⟨rfl, b1⟩
    obtain ⟨CS, CZ, B1⟩ := two b1
    obtain ⟨v0, v1, v2, v3, vf, vl⟩ := CS.cells
    obtain ⟨z0, z1, z2, z3, zf, zl⟩ := CZ.cells
    clear CS CZ
    go_wp2
    exact bodyPost_ret (v := .tuple #[.agg #[.int .i64 p, .int .i64 t, .int .i64 u, .int .i64 a], .bool false]) (by simp [results, Try.results23, go_sem, z0, z1, z2, z3]) rfl ⟨rfl, ((((B1).setCell (by simp) _).setCell (by simp) _).setCell (by simp) _).setCell (by simp) _⟩

set_option maxRecDepth 100000 in
theorem lease (p t u a now lease : Int) (w : World) (h : I6 now) (k : I6 lease) (ht : I6 t) :
    Calls Try.prog 17 #[.agg #[.int .i64 p, .int .i64 t, .int .i64 u, .int .i64 a], .int .i64 now, .int .i64 lease] w fun e w' => e = .returned (.tuple #[.agg #[.int .i64 (ls ⟨p, t, u, a⟩ now lease).p, .int .i64 (ls ⟨p, t, u, a⟩ now lease).t, .int .i64 (ls ⟨p, t, u, a⟩ now lease).u, .int .i64 (ls ⟨p, t, u, a⟩ now lease).a], .int .i64 (lsE ⟨p, t, u, a⟩)]) ∧ Below w.heap.size w w' := by
  by_cases c0 : p = 1
  · subst c0
    have E : ls ⟨1, t, u, a⟩ now lease = ⟨2, nxt t, unt now lease, now⟩ := rfl
    have E2 : lsE ⟨1, t, u, a⟩ = 0 := rfl
    rw [E, E2]
    by_cases c1 : t < 9223372036854775807
    · have E3 : nxt t = t + 1 := if_pos c1
      rw [E3]
      go_enter Try.func17, Try.ntmps17
      go_wp2_with fail
      refine (turn _ _ _ _ _ _ _).mono ?_
      rintro e w1 ⟨rfl, b1⟩
      obtain ⟨CS, CZ, B1⟩ := two b1
      obtain ⟨v0, v1, v2, v3, vf, vl⟩ := CS.cells
      obtain ⟨z0, z1, z2, z3, zf, zl⟩ := CZ.cells
      clear CS CZ
      go_wp2_with fail
      refine (lasting _ _ _ _ _ _ h k).mono ?_
      rintro e w2 ⟨rfl, b2⟩
      replace b2 := b1.trans (b2.mono b1.size)
      clear v0 v1 v2 v3 vf vl z0 z1 z2 z3 zf zl b1 B1
      obtain ⟨CS, CZ, B1⟩ := two b2
      obtain ⟨v0, v1, v2, v3, vf, vl⟩ := CS.cells
      obtain ⟨z0, z1, z2, z3, zf, zl⟩ := CZ.cells
      clear CS CZ
      go_wp2
      have EW : wrap64 (t + 1) = t + 1 := by unfold wrap64 I6 at *; omega
      exact bodyPost_ret (v := .tuple #[.agg #[.int .i64 2, .int .i64 (wrap64 (t + 1)), .int .i64 (unt now lease), .int .i64 now], .int .i64 0]) (by simp [results, Try.results17, go_sem, z0, z1, z2, z3, zl]) rfl ⟨by rw [EW], (((((B1).setCell (by simp) _).setCell (by simp) _).setCell (by simp) _).setCell (by simp) _).alloc (by simp; omega) _⟩
    · have E3 : nxt t = t := if_neg c1
      rw [E3]
      go_enter Try.func17, Try.ntmps17
      go_wp2_with fail
      refine (turn _ _ _ _ _ _ _).mono ?_
      rintro e w1 ⟨rfl, b1⟩
      obtain ⟨CS, CZ, B1⟩ := two b1
      obtain ⟨v0, v1, v2, v3, vf, vl⟩ := CS.cells
      obtain ⟨z0, z1, z2, z3, zf, zl⟩ := CZ.cells
      clear CS CZ
      go_wp2_with fail
      refine (lasting _ _ _ _ _ _ h k).mono ?_
      rintro e w2 ⟨rfl, b2⟩
      replace b2 := b1.trans (b2.mono b1.size)
      clear v0 v1 v2 v3 vf vl z0 z1 z2 z3 zf zl b1 B1
      obtain ⟨CS, CZ, B1⟩ := two b2
      obtain ⟨v0, v1, v2, v3, vf, vl⟩ := CS.cells
      obtain ⟨z0, z1, z2, z3, zf, zl⟩ := CZ.cells
      clear CS CZ
      go_wp2
      exact bodyPost_ret (v := .tuple #[.agg #[.int .i64 2, .int .i64 t, .int .i64 (unt now lease), .int .i64 now], .int .i64 0]) (by simp [results, Try.results17, go_sem, z0, z1, z2, z3, zl]) rfl ⟨rfl, (((((B1).setCell (by simp) _).setCell (by simp) _).setCell (by simp) _).setCell (by simp) _).alloc (by simp; omega) _⟩
  · have E : ls ⟨p, t, u, a⟩ now lease = ⟨0, 0, 0, 0⟩ := if_neg c0
    have E2 : lsE ⟨p, t, u, a⟩ = 36 := if_neg c0
    rw [E, E2]
    go_enter Try.func17, Try.ntmps17
    go_wp2
    exact bodyPost_ret (v := .tuple #[.agg #[.int .i64 0, .int .i64 0, .int .i64 0, .int .i64 0], .int .i64 36]) (by simp [results, Try.results17, go_sem]) rfl ⟨rfl, ((Below.refl _ _).alloc (Nat.le_refl _) _).alloc (by simp) _⟩

end Go.Proofs.Ytjpglfnmapncmaa.Wnd
