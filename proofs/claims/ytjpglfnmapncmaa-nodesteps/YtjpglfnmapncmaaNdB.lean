/-
  The walks of the document's steps of a node, and of what the laws beside them use: each returns what the plain functions say, and nothing that was in memory has turned. Conditions: the numbers fit their kinds.
-/
import Derived.Test.YtjpglfnmapncmaaNdA
namespace Go.Proofs.Ytjpglfnmapncmaa.Wnd
open Go.ChangeShapes Go.WideShapes Go.ChangeAt Go.RowKit Go.Proofs.Ytjpglfnmapncmaa.M

set_option maxRecDepth 100000 in
theorem wakeR (p t u a now lease : Int) (c : Bool) (w : World) (h : I6 now) (k : I6 lease) :
    Calls Try.prog 10 #[.agg #[.int .i64 p, .int .i64 t, .int .i64 u, .int .i64 a], .int .i64 now, .int .i64 lease, .bool c] w fun e w' => e = .returned (.tuple #[.agg #[.int .i64 (wk ⟨p, t, u, a⟩ now lease c).p, .int .i64 (wk ⟨p, t, u, a⟩ now lease c).t, .int .i64 (wk ⟨p, t, u, a⟩ now lease c).u, .int .i64 (wk ⟨p, t, u, a⟩ now lease c).a], .int .i64 (wkE ⟨p, t, u, a⟩)]) ∧ Below w.heap.size w w' := by
  by_cases c0 : p = 0
  · subst c0
    cases c
    · have E : wk ⟨0, t, u, a⟩ now lease false = ⟨1, t, 0, now⟩ := rfl
      have E2 : wkE ⟨0, t, u, a⟩ = 0 := rfl
      rw [E, E2]
      go_enter Try.func10, Try.ntmps10
      go_wp2
      exact bodyPost_ret (v := .tuple #[.agg #[.int .i64 1, .int .i64 t, .int .i64 0, .int .i64 now], .int .i64 0]) (by simp [results, Try.results10, go_sem]) rfl ⟨rfl, ((Below.refl _ _).alloc (Nat.le_refl _) _).alloc (by simp) _⟩
    · have E : wk ⟨0, t, u, a⟩ now lease true = ⟨3, t, unt now lease, now⟩ := rfl
      have E2 : wkE ⟨0, t, u, a⟩ = 0 := rfl
      rw [E, E2]
      go_enter Try.func10, Try.ntmps10
      go_wp2_with fail
      refine (untilR _ _ _ h k).mono ?_
      rintro e w1 ⟨rfl, b1⟩
      obtain ⟨CS, CZ, B1⟩ := two b1
      obtain ⟨v0, v1, v2, v3, vf, vl⟩ := CS.cells
      obtain ⟨z0, z1, z2, z3, zf, zl⟩ := CZ.cells
      clear CS CZ
      go_wp2
      exact bodyPost_ret (v := .tuple #[.agg #[.int .i64 3, .int .i64 t, .int .i64 (unt now lease), .int .i64 now], .int .i64 0]) (by simp [results, Try.results10, go_sem, z0, z1, z2, z3]) rfl ⟨rfl, ((((B1).setCell (by simp) _).setCell (by simp) _).setCell (by simp) _).setCell (by simp) _⟩
  · have E : wk ⟨p, t, u, a⟩ now lease c = ⟨0, 0, 0, 0⟩ := if_neg c0
    have E2 : wkE ⟨p, t, u, a⟩ = 36 := if_neg c0
    rw [E, E2]
    go_enter Try.func10, Try.ntmps10
    go_wp2
    exact bodyPost_ret (v := .tuple #[.agg #[.int .i64 0, .int .i64 0, .int .i64 0, .int .i64 0], .int .i64 36]) (by simp [results, Try.results10, go_sem]) rfl ⟨rfl, ((Below.refl _ _).alloc (Nat.le_refl _) _).alloc (by simp) _⟩

set_option maxRecDepth 100000 in
theorem skipR (p t u a now : Int) (w : World) :
    Calls Try.prog 16 #[.agg #[.int .i64 p, .int .i64 t, .int .i64 u, .int .i64 a], .int .i64 now] w fun e w' => e = .returned (.tuple #[.agg #[.int .i64 (sk ⟨p, t, u, a⟩ now).p, .int .i64 (sk ⟨p, t, u, a⟩ now).t, .int .i64 (sk ⟨p, t, u, a⟩ now).u, .int .i64 (sk ⟨p, t, u, a⟩ now).a], .int .i64 (wkE ⟨p, t, u, a⟩)]) ∧ Below w.heap.size w w' := by
  by_cases c0 : p = 0
  · subst c0
    have E : sk ⟨0, t, u, a⟩ now = ⟨6, t, 0, now⟩ := rfl
    have E2 : wkE ⟨0, t, u, a⟩ = 0 := rfl
    rw [E, E2]
    go_enter Try.func16, Try.ntmps16
    go_wp2
    exact bodyPost_ret (v := .tuple #[.agg #[.int .i64 6, .int .i64 t, .int .i64 0, .int .i64 now], .int .i64 0]) (by simp [results, Try.results16, go_sem]) rfl ⟨rfl, ((Below.refl _ _).alloc (Nat.le_refl _) _).alloc (by simp) _⟩
  · have E : sk ⟨p, t, u, a⟩ now = ⟨0, 0, 0, 0⟩ := if_neg c0
    have E2 : wkE ⟨p, t, u, a⟩ = 36 := if_neg c0
    rw [E, E2]
    go_enter Try.func16, Try.ntmps16
    go_wp2
    exact bodyPost_ret (v := .tuple #[.agg #[.int .i64 0, .int .i64 0, .int .i64 0, .int .i64 0], .int .i64 36]) (by simp [results, Try.results16, go_sem]) rfl ⟨rfl, ((Below.refl _ _).alloc (Nat.le_refl _) _).alloc (by simp) _⟩

set_option maxRecDepth 100000 in
theorem againR (p t u a now tries : Int) (w : World) :
    Calls Try.prog 30 #[.agg #[.int .i64 p, .int .i64 t, .int .i64 u, .int .i64 a], .int .i64 now, .int .i64 tries] w fun e w' => e = .returned (.agg #[.int .i64 (ag t now tries).p, .int .i64 (ag t now tries).t, .int .i64 (ag t now tries).u, .int .i64 (ag t now tries).a]) ∧ Below w.heap.size w w' := by
  by_cases c : t < tries
  · have E : ag t now tries = ⟨1, t, 0, now⟩ := by simp [ag, c]
    rw [E]
    go_enter Try.func30, Try.ntmps30
    go_wp2
    exact bodyPost_ret (v := .agg #[.int .i64 1, .int .i64 t, .int .i64 0, .int .i64 now]) (by simp [results, Try.results30, go_sem]) rfl ⟨rfl, ((Below.refl _ _).alloc (Nat.le_refl _) _).alloc (by simp) _⟩
  · have E : ag t now tries = ⟨5, t, 0, now⟩ := by simp [ag, c]
    rw [E]
    go_enter Try.func30, Try.ntmps30
    go_wp2
    exact bodyPost_ret (v := .agg #[.int .i64 5, .int .i64 t, .int .i64 0, .int .i64 now]) (by simp [results, Try.results30, go_sem]) rfl ⟨rfl, ((Below.refl _ _).alloc (Nat.le_refl _) _).alloc (by simp) _⟩

set_option maxRecDepth 100000 in
theorem answerR (p t u a now : Int) (ok : Bool) (w : World) :
    Calls Try.prog 20 #[.agg #[.int .i64 p, .int .i64 t, .int .i64 u, .int .i64 a], .int .i64 now, .bool ok] w fun e w' => e = .returned (.tuple #[.agg #[.int .i64 (an ⟨p, t, u, a⟩ now ok).p, .int .i64 (an ⟨p, t, u, a⟩ now ok).t, .int .i64 (an ⟨p, t, u, a⟩ now ok).u, .int .i64 (an ⟨p, t, u, a⟩ now ok).a], .int .i64 (anE ⟨p, t, u, a⟩ now)]) ∧ Below w.heap.size w w' := by
  by_cases c0 : p = 3
  · subst c0
    by_cases c1 : u < now
    · have E : an ⟨3, t, u, a⟩ now ok = ⟨0, 0, 0, 0⟩ := if_neg fun h => h.2 c1
      have E2 : anE ⟨3, t, u, a⟩ now = 36 := if_neg fun h => h.2 c1
      rw [E, E2]
      go_enter Try.func20, Try.ntmps20
      go_wp2
      exact bodyPost_ret (v := .tuple #[.agg #[.int .i64 0, .int .i64 0, .int .i64 0, .int .i64 0], .int .i64 36]) (by simp [results, Try.results20, go_sem]) rfl ⟨rfl, ((Below.refl _ _).alloc (Nat.le_refl _) _).alloc (by simp) _⟩
    · have E2 : anE ⟨3, t, u, a⟩ now = 0 := if_pos ⟨rfl, c1⟩
      rw [E2]
      cases ok
      · have E : an ⟨3, t, u, a⟩ now false = ⟨5, t, 0, now⟩ := if_pos ⟨rfl, c1⟩
        rw [E]
        go_enter Try.func20, Try.ntmps20
        go_wp2
        exact bodyPost_ret (v := .tuple #[.agg #[.int .i64 5, .int .i64 t, .int .i64 0, .int .i64 now], .int .i64 0]) (by simp [results, Try.results20, go_sem]) rfl ⟨rfl, ((Below.refl _ _).alloc (Nat.le_refl _) _).alloc (by simp) _⟩
      · have E : an ⟨3, t, u, a⟩ now true = ⟨4, t, 0, now⟩ := if_pos ⟨rfl, c1⟩
        rw [E]
        go_enter Try.func20, Try.ntmps20
        go_wp2
        exact bodyPost_ret (v := .tuple #[.agg #[.int .i64 4, .int .i64 t, .int .i64 0, .int .i64 now], .int .i64 0]) (by simp [results, Try.results20, go_sem]) rfl ⟨rfl, ((Below.refl _ _).alloc (Nat.le_refl _) _).alloc (by simp) _⟩
  · have E : an ⟨p, t, u, a⟩ now ok = ⟨0, 0, 0, 0⟩ := if_neg fun h => c0 h.1
    have E2 : anE ⟨p, t, u, a⟩ now = 36 := if_neg fun h => c0 h.1
    rw [E, E2]
    go_enter Try.func20, Try.ntmps20
    go_wp2
    exact bodyPost_ret (v := .tuple #[.agg #[.int .i64 0, .int .i64 0, .int .i64 0, .int .i64 0], .int .i64 36]) (by simp [results, Try.results20, go_sem]) rfl ⟨rfl, ((Below.refl _ _).alloc (Nat.le_refl _) _).alloc (by simp) _⟩

set_option maxRecDepth 100000 in
theorem finishR (p t u a now try_ tries : Int) (ok : Bool) (w : World) :
    Calls Try.prog 22 #[.agg #[.int .i64 p, .int .i64 t, .int .i64 u, .int .i64 a], .int .i64 now, .int .i64 try_, .int .i64 tries, .bool ok] w fun e w' => e = .returned (.tuple #[.agg #[.int .i64 (fi ⟨p, t, u, a⟩ now try_ tries ok).p, .int .i64 (fi ⟨p, t, u, a⟩ now try_ tries ok).t, .int .i64 (fi ⟨p, t, u, a⟩ now try_ tries ok).u, .int .i64 (fi ⟨p, t, u, a⟩ now try_ tries ok).a], .int .i64 (fiE ⟨p, t, u, a⟩ now try_)]) ∧ Below w.heap.size w w' := by
  by_cases c0 : p = 2
  · subst c0
    by_cases c2 : t = try_
    · subst c2
      by_cases c1 : u < now
      · have E : fi ⟨2, t, u, a⟩ now t tries ok = ⟨0, 0, 0, 0⟩ := if_neg fun h => h.2.2 c1
        have E2 : fiE ⟨2, t, u, a⟩ now t = 36 := if_neg fun h => h.2.2 c1
        rw [E, E2]
        go_enter Try.func22, Try.ntmps22
        go_wp2
        exact bodyPost_ret (v := .tuple #[.agg #[.int .i64 0, .int .i64 0, .int .i64 0, .int .i64 0], .int .i64 36]) (by simp [results, Try.results22, go_sem]) rfl ⟨rfl, ((Below.refl _ _).alloc (Nat.le_refl _) _).alloc (by simp) _⟩
      · have E2 : fiE ⟨2, t, u, a⟩ now t = 0 := if_pos ⟨rfl, rfl, c1⟩
        rw [E2]
        cases ok
        · have E : fi ⟨2, t, u, a⟩ now t tries false = ag t now tries := if_pos ⟨rfl, rfl, c1⟩
          rw [E]
          go_enter Try.func22, Try.ntmps22
          go_wp2_with fail
          refine (againR _ _ _ _ _ _ _).mono ?_
          rintro e w1 ⟨rfl, b1⟩
          obtain ⟨CS, CZ, B1⟩ := two b1
          obtain ⟨v0, v1, v2, v3, vf, vl⟩ := CS.cells
          obtain ⟨z0, z1, z2, z3, zf, zl⟩ := CZ.cells
          clear CS CZ
          go_wp2
          exact bodyPost_ret (v := .tuple #[.agg #[.int .i64 (ag t now tries).p, .int .i64 (ag t now tries).t, .int .i64 (ag t now tries).u, .int .i64 (ag t now tries).a], .int .i64 0]) (by simp [results, Try.results22, go_sem, z0, z1, z2, z3, zl]) rfl ⟨rfl, (((((B1).setCell (by simp) _).setCell (by simp) _).setCell (by simp) _).setCell (by simp) _).alloc (by simp; omega) _⟩
        · have E : fi ⟨2, t, u, a⟩ now t tries true = ⟨4, t, 0, now⟩ := if_pos ⟨rfl, rfl, c1⟩
          rw [E]
          go_enter Try.func22, Try.ntmps22
          go_wp2
          exact bodyPost_ret (v := .tuple #[.agg #[.int .i64 4, .int .i64 t, .int .i64 0, .int .i64 now], .int .i64 0]) (by simp [results, Try.results22, go_sem]) rfl ⟨rfl, ((Below.refl _ _).alloc (Nat.le_refl _) _).alloc (by simp) _⟩
    · have E : fi ⟨2, t, u, a⟩ now try_ tries ok = ⟨0, 0, 0, 0⟩ := if_neg fun h => c2 h.2.1
      have E2 : fiE ⟨2, t, u, a⟩ now try_ = 36 := if_neg fun h => c2 h.2.1
      rw [E, E2]
      go_enter Try.func22, Try.ntmps22
      go_wp2
      exact bodyPost_ret (v := .tuple #[.agg #[.int .i64 0, .int .i64 0, .int .i64 0, .int .i64 0], .int .i64 36]) (by simp [results, Try.results22, go_sem]) rfl ⟨rfl, ((Below.refl _ _).alloc (Nat.le_refl _) _).alloc (by simp) _⟩
  · have E : fi ⟨p, t, u, a⟩ now try_ tries ok = ⟨0, 0, 0, 0⟩ := if_neg fun h => c0 h.1
    have E2 : fiE ⟨p, t, u, a⟩ now try_ = 36 := if_neg fun h => c0 h.1
    rw [E, E2]
    go_enter Try.func22, Try.ntmps22
    go_wp2
    exact bodyPost_ret (v := .tuple #[.agg #[.int .i64 0, .int .i64 0, .int .i64 0, .int .i64 0], .int .i64 36]) (by simp [results, Try.results22, go_sem]) rfl ⟨rfl, ((Below.refl _ _).alloc (Nat.le_refl _) _).alloc (by simp) _⟩

set_option maxRecDepth 100000 in
theorem expireR (p t u a now tries : Int) (w : World) :
    Calls Try.prog 24 #[.agg #[.int .i64 p, .int .i64 t, .int .i64 u, .int .i64 a], .int .i64 now, .int .i64 tries] w fun e w' => e = .returned (.tuple #[.agg #[.int .i64 (ex ⟨p, t, u, a⟩ now tries).p, .int .i64 (ex ⟨p, t, u, a⟩ now tries).t, .int .i64 (ex ⟨p, t, u, a⟩ now tries).u, .int .i64 (ex ⟨p, t, u, a⟩ now tries).a], .bool (exB ⟨p, t, u, a⟩ now)]) ∧ Below w.heap.size w w' := by
  by_cases c1 : u < now
  · by_cases c0 : p = 2
    · subst c0
      have E : ex ⟨2, t, u, a⟩ now tries = ag t now tries := if_pos c1
      have E2 : exB ⟨2, t, u, a⟩ now = true := decide_eq_true ⟨c1, .inl rfl⟩
      rw [E, E2]
      go_enter Try.func24, Try.ntmps24
      go_wp2_with fail
      refine (againR _ _ _ _ _ _ _).mono ?_
      rintro e w1 ⟨rfl, b1⟩
      obtain ⟨CS, CZ, B1⟩ := two b1
      obtain ⟨v0, v1, v2, v3, vf, vl⟩ := CS.cells
      obtain ⟨z0, z1, z2, z3, zf, zl⟩ := CZ.cells
      clear CS CZ
      go_wp2
      exact bodyPost_ret (v := .tuple #[.agg #[.int .i64 (ag t now tries).p, .int .i64 (ag t now tries).t, .int .i64 (ag t now tries).u, .int .i64 (ag t now tries).a], .bool true]) (by simp [results, Try.results24, go_sem, z0, z1, z2, z3, zl]) rfl ⟨rfl, (((((B1).setCell (by simp) _).setCell (by simp) _).setCell (by simp) _).setCell (by simp) _).alloc (by simp; omega) _⟩
    by_cases c3 : p = 3
    · subst c3
      have E : ex ⟨3, t, u, a⟩ now tries = ⟨5, t, 0, now⟩ := if_pos c1
      have E2 : exB ⟨3, t, u, a⟩ now = true := decide_eq_true ⟨c1, .inr rfl⟩
      rw [E, E2]
      go_enter Try.func24, Try.ntmps24
      go_wp2
      exact bodyPost_ret (v := .tuple #[.agg #[.int .i64 5, .int .i64 t, .int .i64 0, .int .i64 now], .bool true]) (by simp [results, Try.results24, go_sem]) rfl ⟨rfl, ((Below.refl _ _).alloc (Nat.le_refl _) _).alloc (by simp) _⟩
    have E : ex ⟨p, t, u, a⟩ now tries = ⟨p, t, u, a⟩ := by unfold ex; rw [if_pos c1, if_neg c0, if_neg c3]
    have E2 : exB ⟨p, t, u, a⟩ now = false := decide_eq_false fun h => h.2.elim c0 c3
    rw [E, E2]
    go_enter Try.func24, Try.ntmps24
    go_wp2
    exact bodyPost_ret (v := .tuple #[.agg #[.int .i64 p, .int .i64 t, .int .i64 u, .int .i64 a], .bool false]) (by simp [results, Try.results24, go_sem]) rfl ⟨rfl, ((Below.refl _ _).alloc (Nat.le_refl _) _).alloc (by simp) _⟩
  · have E : ex ⟨p, t, u, a⟩ now tries = ⟨p, t, u, a⟩ := if_neg c1
    have E2 : exB ⟨p, t, u, a⟩ now = false := decide_eq_false fun h => c1 h.1
    rw [E, E2]
    go_enter Try.func24, Try.ntmps24
    go_wp2
    exact bodyPost_ret (v := .tuple #[.agg #[.int .i64 p, .int .i64 t, .int .i64 u, .int .i64 a], .bool false]) (by simp [results, Try.results24, go_sem]) rfl ⟨rfl, ((Below.refl _ _).alloc (Nat.le_refl _) _).alloc (by simp) _⟩

set_option maxRecDepth 100000 in
theorem leaseR (p t u a now lease : Int) (w : World) (h : I6 now) (k : I6 lease) (ht : I6 t) :
    Calls Try.prog 18 #[.agg #[.int .i64 p, .int .i64 t, .int .i64 u, .int .i64 a], .int .i64 now, .int .i64 lease] w fun e w' => e = .returned (.tuple #[.agg #[.int .i64 (ls ⟨p, t, u, a⟩ now lease).p, .int .i64 (ls ⟨p, t, u, a⟩ now lease).t, .int .i64 (ls ⟨p, t, u, a⟩ now lease).u, .int .i64 (ls ⟨p, t, u, a⟩ now lease).a], .int .i64 (lsE ⟨p, t, u, a⟩)]) ∧ Below w.heap.size w w' := by
  by_cases c0 : p = 1
  · subst c0
    have E : ls ⟨1, t, u, a⟩ now lease = ⟨2, nxt t, unt now lease, now⟩ := rfl
    have E2 : lsE ⟨1, t, u, a⟩ = 0 := rfl
    rw [E, E2]
    by_cases c1 : t = 9223372036854775807
    · subst c1
      have E3 : nxt 9223372036854775807 = 9223372036854775807 := rfl
      rw [E3]
      go_enter Try.func18, Try.ntmps18
      go_wp2_with fail
      refine (untilR _ _ _ h k).mono ?_
      rintro e w1 ⟨rfl, b1⟩
      obtain ⟨CS, CZ, B1⟩ := two b1
      obtain ⟨v0, v1, v2, v3, vf, vl⟩ := CS.cells
      obtain ⟨z0, z1, z2, z3, zf, zl⟩ := CZ.cells
      clear CS CZ
      go_wp2
      exact bodyPost_ret (v := .tuple #[.agg #[.int .i64 2, .int .i64 9223372036854775807, .int .i64 (unt now lease), .int .i64 now], .int .i64 0]) (by simp [results, Try.results18, go_sem, z0, z1, z2, z3]) rfl ⟨rfl, ((((B1).setCell (by simp) _).setCell (by simp) _).setCell (by simp) _).setCell (by simp) _⟩
    · have E3 : nxt t = t + 1 := if_pos (by unfold I6 at ht; omega)
      have EW : wrap64 (t + 1) = t + 1 := by unfold wrap64 I6 at *; omega
      rw [E3]
      go_enter Try.func18, Try.ntmps18
      go_wp2_with fail
      refine (untilR _ _ _ h k).mono ?_
      rintro e w1 ⟨rfl, b1⟩
      obtain ⟨CS, CZ, B1⟩ := two b1
      obtain ⟨v0, v1, v2, v3, vf, vl⟩ := CS.cells
      obtain ⟨z0, z1, z2, z3, zf, zl⟩ := CZ.cells
      clear CS CZ
      go_wp2
      exact bodyPost_ret (v := .tuple #[.agg #[.int .i64 2, .int .i64 (t + 1), .int .i64 (unt now lease), .int .i64 now], .int .i64 0]) (by simp [results, Try.results18, go_sem, z0, z1, z2, z3]) rfl ⟨rfl, ((((B1).setCell (by simp) _).setCell (by simp) _).setCell (by simp) _).setCell (by simp) _⟩
  · have E : ls ⟨p, t, u, a⟩ now lease = ⟨0, 0, 0, 0⟩ := if_neg c0
    have E2 : lsE ⟨p, t, u, a⟩ = 36 := if_neg c0
    rw [E, E2]
    go_enter Try.func18, Try.ntmps18
    go_wp2
    exact bodyPost_ret (v := .tuple #[.agg #[.int .i64 0, .int .i64 0, .int .i64 0, .int .i64 0], .int .i64 36]) (by simp [results, Try.results18, go_sem]) rfl ⟨rfl, ((Below.refl _ _).alloc (Nat.le_refl _) _).alloc (by simp) _⟩

set_option maxRecDepth 100000 in
theorem is_ (p t u a : Int) (w : World) :
    Calls Try.prog 14 #[.agg #[.int .i64 p, .int .i64 t, .int .i64 u, .int .i64 a], .agg #[.int .i64 p, .int .i64 t, .int .i64 u, .int .i64 a]] w fun e w' => e = .returned (.bool true) ∧ Below w.heap.size w w' := by
  go_enter Try.func14, Try.ntmps14
  go_wp2
  go_ret
  exact ⟨by simp, ((Below.refl _ _).alloc (Nat.le_refl _) _).alloc (by simp) _⟩

set_option maxRecDepth 100000 in
theorem made (p t u a : Int) (w : World) :
    Calls Try.prog 8 #[.agg #[.int .i64 p, .int .i64 t, .int .i64 u, .int .i64 a]] w fun e w' => e = .returned (.agg #[.int .i64 p, .int .i64 t, .int .i64 u, .int .i64 a]) ∧ Below w.heap.size w w' := by
  go_enter Try.func8, Try.ntmps8
  go_wp2
  exact bodyPost_ret (v := .agg #[.int .i64 p, .int .i64 t, .int .i64 u, .int .i64 a]) (by simp [results, Try.results8, go_sem]) rfl ⟨rfl, ((Below.refl _ _).alloc (Nat.le_refl _) _).alloc (by simp) _⟩

end Go.Proofs.Ytjpglfnmapncmaa.Wnd
