/-
  The walk of the law NodeEnds: it returns true, and nothing that was in memory has turned. Conditions: the numbers fit their kinds; the slices lie in memory.
-/
import Derived.Test.YtjpglfnmapncmaaNdK
namespace Go.Proofs.Ytjpglfnmapncmaa.Wnd
open Go.ChangeShapes Go.WideShapes Go.ChangeAt Go.RowKit Go.Proofs.Ytjpglfnmapncmaa.M Go.Proofs.Ytjpglfnmapncmaa.Wnv

theorem wake0 (w : World) : Calls Try.prog 9 #[.agg #[.int .i64 0, .int .i64 0, .int .i64 0, .int .i64 0], .int .i64 0, .int .i64 0, .bool false] w fun e w' => e = .returned (.tuple #[.agg #[.int .i64 1, .int .i64 0, .int .i64 0, .int .i64 0], .int .i64 0]) ∧ Below w.heap.size w w' :=
  wake 0 0 0 0 0 0 false w (by unfold I6; omega) (by unfold I6; omega)


/-- The law's memory between rounds: its state in its block, and what it found. -/
structure Ke (W w : World) (S : Nat) (p t u a : Int) : Prop where
  c : Cel w S p t u a
  b : Below W.heap.size W w
  l : W.heap.size ≤ S
theorem Ke.call {W w w' : World} {S : Nat} {p t u a : Int} (h : Ke W w S p t u a) (b : Below w.heap.size w w') : Ke W w' S p t u a := ⟨h.c.call b, h.b.trans (b.mono h.b.size), h.l⟩
theorem Ke.al {W w : World} {S : Nat} {p t u a : Int} (h : Ke W w S p t u a) (o : Obj) : Ke W (w.alloc o) S p t u a := h.call ((Below.refl _ _).alloc (Nat.le_refl _) _)
theorem Ke.put {W w : World} {S : Nat} {p t u a : Int} (h : Ke W w S p t u a) (q r v b : Int) : Ke W ((((w.setCell ⟨S, 0, none⟩ (.int .i64 q)).setCell ⟨S, 1, none⟩ (.int .i64 r)).setCell ⟨S, 2, none⟩ (.int .i64 v)).setCell ⟨S, 3, none⟩ (.int .i64 b)) S q r v b := by
  obtain ⟨⟨T, hc⟩, hb, hl⟩ := h
  refine ⟨⟨T, ?_⟩, (((hb.setCell hl _).setCell hl _).setCell hl _).setCell hl _, hl⟩
  simp [World.setCell, Array.getElem?_modify, hc]
theorem Ke.lg {W w : World} {S : Nat} {p t u a : Int} (h : Ke W w S p t u a) {ta : Option Addr} {n : Nat} {z : Nat → Int} (H : Lgs W ta n z) : Lgs w ta n z := H.below h.b
/-- Ready, or failed behind its last try. -/
def ph (j T : Int) : Int := if j < T then 1 else 5
theorem ph_lt {j T : Int} (h : j < T) : ph j T = 1 := if_pos h
theorem ph_ge {j T : Int} (h : ¬ j < T) : ph j T = 5 := if_neg h

theorem leaseI {t A N : Int} (ht : 0 ≤ t) (ht2 : t ≤ 30) (h0 : 0 ≤ N) (h1 : N ≤ 30000) (w : World) : Calls Try.prog 17 #[.agg #[.int .i64 1, .int .i64 t, .int .i64 0, .int .i64 A], .int .i64 N, .int .i64 5] w fun e w' => e = .returned (.tuple #[.agg #[.int .i64 2, .int .i64 (t + 1), .int .i64 (N + 5), .int .i64 N], .int .i64 0]) ∧ Below w.heap.size w w' := by
  have h := lease 1 t 0 A N 5 w (by unfold I6; omega) (by unfold I6; omega) (by unfold I6; omega)
  rw [show ls ⟨1, t, 0, A⟩ N 5 = ⟨2, nxt t, unt N 5, N⟩ from rfl, show nxt t = t + 1 from if_pos (by omega), unt_sum (now := N) (lease := 5) (by omega) (by omega)] at h
  exact h
theorem expireE (t u a T : Int) (w : World) : Calls Try.prog 23 #[.agg #[.int .i64 2, .int .i64 t, .int .i64 u, .int .i64 a], .int .i64 u, .int .i64 T] w fun e w' => e = .returned (.tuple #[.agg #[.int .i64 2, .int .i64 t, .int .i64 u, .int .i64 a], .bool false]) ∧ Below w.heap.size w w' := by
  have h := expire 2 t u a u T w
  rw [show ex ⟨2, t, u, a⟩ u T = ⟨2, t, u, a⟩ from if_neg (Int.lt_irrefl u), show exB ⟨2, t, u, a⟩ u = false from decide_eq_false fun h => Int.lt_irrefl u h.1] at h
  exact h
theorem expireL {t u a T n : Int} (hn : u < n) (w : World) : Calls Try.prog 23 #[.agg #[.int .i64 2, .int .i64 t, .int .i64 u, .int .i64 a], .int .i64 n, .int .i64 T] w fun e w' => e = .returned (.tuple #[.agg #[.int .i64 (ph t T), .int .i64 t, .int .i64 0, .int .i64 n], .bool true]) ∧ Below w.heap.size w w' := by
  have h := expire 2 t u a n T w
  rw [show ex ⟨2, t, u, a⟩ n T = ag t n T from if_pos hn, show exB ⟨2, t, u, a⟩ n = true from decide_eq_true ⟨hn, .inl rfl⟩] at h
  exact h
theorem finishF (t u a T : Int) (w : World) : Calls Try.prog 21 #[.agg #[.int .i64 2, .int .i64 t, .int .i64 u, .int .i64 a], .int .i64 u, .int .i64 t, .int .i64 T, .bool false] w fun e w' => e = .returned (.tuple #[.agg #[.int .i64 (ph t T), .int .i64 t, .int .i64 0, .int .i64 u], .int .i64 0]) ∧ Below w.heap.size w w' := by
  have h := finish 2 t u a u t T false w
  rw [show fi ⟨2, t, u, a⟩ u t T false = ag t u T from if_pos ⟨rfl, rfl, Int.lt_irrefl u⟩, show fiE ⟨2, t, u, a⟩ u t = 0 from if_pos ⟨rfl, rfl, Int.lt_irrefl u⟩] at h
  exact h
theorem finishT (t u a T : Int) (w : World) : Calls Try.prog 21 #[.agg #[.int .i64 2, .int .i64 t, .int .i64 u, .int .i64 a], .int .i64 u, .int .i64 t, .int .i64 T, .bool true] w fun e w' => e = .returned (.tuple #[.agg #[.int .i64 4, .int .i64 t, .int .i64 0, .int .i64 u], .int .i64 0]) ∧ Below w.heap.size w w' := by
  have h := finish 2 t u a u t T true w
  rw [show fi ⟨2, t, u, a⟩ u t T true = ⟨4, t, 0, u⟩ from if_pos ⟨rfl, rfl, Int.lt_irrefl u⟩, show fiE ⟨2, t, u, a⟩ u t = 0 from if_pos ⟨rfl, rfl, Int.lt_irrefl u⟩] at h
  exact h
theorem leaseO4 {t a N : Int} (ht : 0 ≤ t) (ht2 : t ≤ 30) (h0 : 0 ≤ N) (h1 : N ≤ 30000) (w : World) : Calls Try.prog 17 #[.agg #[.int .i64 4, .int .i64 t, .int .i64 0, .int .i64 a], .int .i64 N, .int .i64 5] w fun e w' => e = .returned (.tuple #[.agg #[.int .i64 0, .int .i64 0, .int .i64 0, .int .i64 0], .int .i64 36]) ∧ Below w.heap.size w w' := by
  have h := lease 4 t 0 a N 5 w (by unfold I6; omega) (by unfold I6; omega) (by unfold I6; omega)
  exact h
theorem overO4 (t a : Int) (w : World) : Calls Try.prog 12 #[.agg #[.int .i64 4, .int .i64 t, .int .i64 0, .int .i64 a]] w fun e w' => e = .returned (.bool true) ∧ Below w.heap.size w w' := over 4 t 0 a w
theorem leaseO5 {t a N : Int} (ht : 0 ≤ t) (ht2 : t ≤ 30) (h0 : 0 ≤ N) (h1 : N ≤ 30000) (w : World) : Calls Try.prog 17 #[.agg #[.int .i64 5, .int .i64 t, .int .i64 0, .int .i64 a], .int .i64 N, .int .i64 5] w fun e w' => e = .returned (.tuple #[.agg #[.int .i64 0, .int .i64 0, .int .i64 0, .int .i64 0], .int .i64 36]) ∧ Below w.heap.size w w' := by
  have h := lease 5 t 0 a N 5 w (by unfold I6; omega) (by unfold I6; omega) (by unfold I6; omega)
  exact h
theorem overO5 (t a : Int) (w : World) : Calls Try.prog 12 #[.agg #[.int .i64 5, .int .i64 t, .int .i64 0, .int .i64 a]] w fun e w' => e = .returned (.bool true) ∧ Below w.heap.size w w' := over 5 t 0 a w
theorem finishO (t a N T : Int) (w : World) : Calls Try.prog 21 #[.agg #[.int .i64 4, .int .i64 t, .int .i64 0, .int .i64 a], .int .i64 N, .int .i64 t, .int .i64 T, .bool true] w fun e w' => e = .returned (.tuple #[.agg #[.int .i64 0, .int .i64 0, .int .i64 0, .int .i64 0], .int .i64 36]) ∧ Below w.heap.size w w' := by
  have h := finish 4 t 0 a N t T true w
  rw [show fi ⟨4, t, 0, a⟩ N t T true = ⟨0, 0, 0, 0⟩ from if_neg fun h => by have : (4 : Int) = 2 := h.1; omega, show fiE ⟨4, t, 0, a⟩ N t = 36 from if_neg fun h => by have : (4 : Int) = 2 := h.1; omega] at h
  exact h
theorem expireO (t a T : Int) (w : World) : Calls Try.prog 23 #[.agg #[.int .i64 4, .int .i64 t, .int .i64 0, .int .i64 a], .int .i64 1152921504606846976, .int .i64 T] w fun e w' => e = .returned (.tuple #[.agg #[.int .i64 4, .int .i64 t, .int .i64 0, .int .i64 a], .bool false]) ∧ Below w.heap.size w w' := by
  have h := expire 4 t 0 a 1152921504606846976 T w
  rw [show ex ⟨4, t, 0, a⟩ 1152921504606846976 T = ⟨4, t, 0, a⟩ from rfl, show exB ⟨4, t, 0, a⟩ 1152921504606846976 = false from rfl] at h
  exact h
end Go.Proofs.Ytjpglfnmapncmaa.Wnd
