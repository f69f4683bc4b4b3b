/-
  The walks of token.parts and of the number literal in token.claimsOf: a text's two parts; a number of a list, and whether it is sound. Conditions: texts of at most 2^47 bytes; the value lies in memory as values do.
-/
import Derived.Test.YtkelipedpjmmaaaDoorRows
import Derived.Test.YtkelipedpjmmaaaDoorTkA
import Derived.Test.YtkelipedpjmmaaaDoorGetV
namespace Go.Proofs.YtkelipedpjmmaaaDoor.M
open Go.RowKit

theorem fits_at {w : World} {A : Nat → Prop} : ∀ {f : F} {xs : List Value} (i : Nat), Fits w A f xs → i < f.len → ∃ t L ys l, xs.drop (4 * i) = .int .i64 (f.kd i) :: .int .i64 (f.nb i) :: .string t :: L :: ys ∧ Rd w A L l
  | .nil, _, i, _, hi => by simp [F.len] at hi
  | .cons k n s l r, xs, 0, h, _ => by
    obtain ⟨L, ys, rfl, _, h3⟩ := fits_cons.1 h
    exact ⟨s, L, ys, l, rfl, h3⟩
  | .cons k n s l r, xs, i + 1, h, hi => by
    obtain ⟨L, ys, rfl, h2, _⟩ := fits_cons.1 h
    obtain ⟨t, L', zs, l', e, h4⟩ := fits_at i h2 (by simp [F.len] at hi; omega)
    refine ⟨t, L', zs, l', ?_, h4⟩
    rw [show 4 * (i + 1) = 4 * i + 1 + 1 + 1 + 1 by omega]
    show ys.drop (4 * i) = _
    exact e

/-- A value of a list, as a walk wants it. -/
def At (w : World) (g : Nat) (f : F) (i : Nat) : Prop := g < w.heap.size ∧ ∃ t p n c, w.cell? ⟨g, 4 * i, none⟩ = some (.int .i64 (f.kd i)) ∧ w.cell? ⟨g, 4 * i + 1, none⟩ = some (.int .i64 (f.nb i)) ∧ w.cell? ⟨g, 4 * i + 2, none⟩ = some (.string t) ∧ w.cell? ⟨g, 4 * i + 3, none⟩ = some (.slice p n c)
theorem rd_at {w : World} {A : Nat → Prop} {p : Option Addr} {n cap : Nat} {f : F} (h : Rd w A (.slice p n cap) f) (h0 : 0 < f.len) : ∃ g, p = some ⟨g, 0, none⟩ ∧ A g ∧ f.len ≤ cap ∧ cap ≤ maxLen ∧ ∀ i, i < f.len → At w g f i := by
  obtain ⟨p', cap', xs, e, hc, hm, hF, hx⟩ := rd_form h
  obtain ⟨rfl, rfl, rfl⟩ : p = p' ∧ n = f.len ∧ cap = cap' := by simpa using e
  obtain ⟨t, L, ys, l, e0, _⟩ := fits_at 0 hF h0
  obtain ⟨g, rfl, hA, hg, _⟩ := hx _ _ _ e0
  refine ⟨g, rfl, hA, hc, hm, fun i hi => ⟨hg, ?_⟩⟩
  obtain ⟨t, L, ys, l, e0, hl⟩ := fits_at i hF hi
  obtain ⟨p2, c2, _, rfl, _⟩ := rd_form hl
  have d1 := drop_next e0
  have d2 := drop_next d1
  have d3 := drop_next d2
  have q : ∀ j x zs, xs.drop j = x :: zs → w.cell? ⟨g, j, none⟩ = some x := fun j x zs hj => by
    obtain ⟨g', eg, _, _, hc⟩ := hx _ _ _ hj
    simp only [Option.some.injEq, Addr.mk.injEq] at eg
    obtain ⟨rfl, _⟩ := eg
    exact hc
  exact ⟨t, p2, _, c2, q _ _ _ e0, q _ _ _ d1, q _ _ _ d2, q _ _ _ d3⟩
theorem At.below {w w' : World} {g : Nat} {f : F} {i : Nat} (h : At w g f i) (b : Below w.heap.size w w') : At w' g f i := by
  obtain ⟨hg, t, p, n, c, h0, h1, h2, h3⟩ := h
  exact ⟨Nat.lt_of_lt_of_le hg b.size, t, p, n, c, (b.cell (by exact hg)).trans h0, (b.cell (by exact hg)).trans h1, (b.cell (by exact hg)).trans h2, (b.cell (by exact hg)).trans h3⟩

end Go.Proofs.YtkelipedpjmmaaaDoor.M
namespace Go.Proofs.YtkelipedpjmmaaaDoor.Wtk
open Go.ChangeShapes Go.WideShapes Go.ChangeAt Go.RowKit Go.Proofs.YtkelipedpjmmaaaDoor.M Go.Proofs.YtkelipedpjmmaaaDoor.Wf

theorem parts (s : ByteArray) (w : World) (hs : s.size ≤ maxLen) (h : ¬ s.size < 32) :
    Calls Tryd.prog 14 #[.string s] w fun e w' => e = .returned (.tuple #[.string (hd32 s), .string (tl32 s)]) ∧ Below w.heap.size w w' := by
  have h1 : (s.size : Int) - 32 = ((s.size - 32 : Nat) : Int) := by omega
  unfold hd32 tl32
  unfold maxLen at hs
  have h2 : s.size - 32 ≤ s.size := by omega
  generalize s.size - 32 = at_ at *
  go_enter Tryd.func14, Tryd.ntmps14
  go_wp2_with fail
  go_region
  go_wp2_with fail
  go_ret2
  exact ⟨rfl, (Below.refl w.heap.size w).drew⟩

set_option maxRecDepth 100000 in
theorem number0 (i : Nat) (lo hi : Int) (bv bs g cap : Nat) (b B : Bool) (w : World) (t : ByteArray) (p2 : Option Addr) (n2 c2 : Nat) (K N : Int) (_ : 4 ≤ cap) (hi4 : i < 4)
    (v3 : w.cell? ⟨bv, 3, none⟩ = some (.slice (some ⟨g, 0, none⟩) 4 cap)) (k0 : w.cell? ⟨g, 4 * i, none⟩ = some (.int .i64 K)) (k1 : w.cell? ⟨g, 4 * i + 1, none⟩ = some (.int .i64 N)) (k2 : w.cell? ⟨g, 4 * i + 2, none⟩ = some (.string t)) (k3 : w.cell? ⟨g, 4 * i + 3, none⟩ = some (.slice p2 n2 c2))
    (x0 : w.cell? ⟨bs, 0, none⟩ = some (.bool b)) (xf : ∀ j, w.frozen? ⟨bs, j, none⟩ = false) (hbs : bs < w.heap.size) (HB : Hid (B = (b && decide (K = 0 ∧ lo ≤ N ∧ N ≤ hi)))) :
    Calls Tryd.prog 28 #[.int .i64 (i : Int), .int .i64 lo, .int .i64 hi, .pointer (some ⟨bv, 0, none⟩), .pointer (some ⟨bs, 0, none⟩)] w fun e w' =>
      e = .returned (.int .i64 N) ∧ ∃ o, w' = (w.setCell ⟨bs, 0, none⟩ (.bool B)).alloc o := by
  obtain rfl | rfl | rfl | rfl : i = 0 ∨ i = 1 ∨ i = 2 ∨ i = 3 := by omega
  all_goals
    simp only [Nat.mul_zero, Nat.zero_add, Nat.reduceMul, Nat.reduceAdd] at k0 k1 k2 k3
    go_enter Tryd.func28, Tryd.ntmps28
    go_wp2_with fail
  all_goals
    go_ret
    refine ⟨rfl, _, congrArg (fun x => (w.setCell ⟨bs, 0, none⟩ (.bool x)).alloc _) ?_⟩
    rw [HB.out]
    simp_all <;> omega

end Go.Proofs.YtkelipedpjmmaaaDoor.Wtk
