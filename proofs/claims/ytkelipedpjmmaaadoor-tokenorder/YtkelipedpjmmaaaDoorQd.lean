/-
  Several texts in one. The walks of token.parts and of the number literal in token.claimsOf: a text's two parts; a number of a list, and whether it is sound. Conditions: texts of at most 2^47 bytes; the value lies in memory as values do. The walk of token.claimsOf: the four numbers of a value that is a list of such, or that it is none. Conditions: the value lies in memory as values do. The walk of token.Parse: the claims, the tag and the error that 'tkN', 'tkT' and 'tkE' say; nothing that was in memory has turned. Conditions: texts of at most 2^47 bytes.
-/
import Derived.Test.YtkelipedpjmmaaaDoorRows
import Derived.Test.YtkelipedpjmmaaaDoorQc
import Derived.Test.YtkelipedpjmmaaaDoorGetV
import Derived.Test.YtkelipedpjmmaaaDoorClone
namespace Go.Proofs.YtkelipedpjmmaaaDoor.M
open Go.RowKit

theorem fits_at {w : World} {A : Nat → Prop} : ∀ {f : F} {xs : List Value} (i : Nat), Fits w A f xs → i < f.len → ∃ t L ys l, xs.drop (4 * i) = .int .i64 (f.kd i) :: .int .i64 (f.nb i) :: .string t :: L :: ys ∧ Rd w A L l
  | .nil, _, i, _, hi => by simp [F.len] at hi
  | .cons k n s l r, xs, 0, h, _ => by
    obtain ⟨L, ys, rfl, _, h3⟩ := fits_cons.1 h
    exact ⟨s, L, ys, l, rfl, h3⟩
  | .cons k n s l r, xs, i + 1, h, hi => by
    obtain ⟨L, ys, rfl, h2, _⟩ := fits_cons.1 h
    obtain ⟨t, L', zs, l', e, h4⟩ := fits_at i h2 (by simp [F.len] at hi; omega)
    refine ⟨t, L', zs, l', ?_, h4⟩
    rw [show 4 * (i + 1) = 4 * i + 1 + 1 + 1 + 1 by omega]
    show ys.drop (4 * i) = _
    exact e

/-- A value of a list, as a walk wants it. -/
def At (w : World) (g : Nat) (f : F) (i : Nat) : Prop := g < w.heap.size ∧ ∃ t p n c, w.cell? ⟨g, 4 * i, none⟩ = some (.int .i64 (f.kd i)) ∧ w.cell? ⟨g, 4 * i + 1, none⟩ = some (.int .i64 (f.nb i)) ∧ w.cell? ⟨g, 4 * i + 2, none⟩ = some (.string t) ∧ w.cell? ⟨g, 4 * i + 3, none⟩ = some (.slice p n c)
theorem rd_at {w : World} {A : Nat → Prop} {p : Option Addr} {n cap : Nat} {f : F} (h : Rd w A (.slice p n cap) f) (h0 : 0 < f.len) : ∃ g, p = some ⟨g, 0, none⟩ ∧ A g ∧ f.len ≤ cap ∧ cap ≤ maxLen ∧ ∀ i, i < f.len → At w g f i := by
  obtain ⟨p', cap', xs, e, hc, hm, hF, hx⟩ := rd_form h
  obtain ⟨rfl, rfl, rfl⟩ : p = p' ∧ n = f.len ∧ cap = cap' := by simpa using e
  obtain ⟨t, L, ys, l, e0, _⟩ := fits_at 0 hF h0
  obtain ⟨g, rfl, hA, hg, _⟩ := hx _ _ _ e0
  refine ⟨g, rfl, hA, hc, hm, fun i hi => ⟨hg, ?_⟩⟩
  obtain ⟨t, L, ys, l, e0, hl⟩ := fits_at i hF hi
  obtain ⟨p2, c2, _, rfl, _⟩ := rd_form hl
  have d1 := drop_next e0
  have d2 := drop_next d1
  have d3 := drop_next d2
  have q : ∀ j x zs, xs.drop j = x :: zs → w.cell? ⟨g, j, none⟩ = some x := fun j x zs hj => by
    obtain ⟨g', eg, _, _, hc⟩ := hx _ _ _ hj
    simp only [Option.some.injEq, Addr.mk.injEq] at eg
    obtain ⟨rfl, _⟩ := eg
    exact hc
  exact ⟨t, p2, _, c2, q _ _ _ e0, q _ _ _ d1, q _ _ _ d2, q _ _ _ d3⟩
theorem At.below {w w' : World} {g : Nat} {f : F} {i : Nat} (h : At w g f i) (b : Below w.heap.size w w') : At w' g f i := by
  obtain ⟨hg, t, p, n, c, h0, h1, h2, h3⟩ := h
  exact ⟨Nat.lt_of_lt_of_le hg b.size, t, p, n, c, (b.cell (by exact hg)).trans h0, (b.cell (by exact hg)).trans h1, (b.cell (by exact hg)).trans h2, (b.cell (by exact hg)).trans h3⟩

end Go.Proofs.YtkelipedpjmmaaaDoor.M
namespace Go.Proofs.YtkelipedpjmmaaaDoor.Wtk
open Go.ChangeShapes Go.WideShapes Go.ChangeAt Go.RowKit Go.Proofs.YtkelipedpjmmaaaDoor.M Go.Proofs.YtkelipedpjmmaaaDoor.Wf

theorem parts (s : ByteArray) (w : World) (hs : s.size ≤ maxLen) (h : ¬ s.size < 32) :
    Calls Tryd.prog 14 #[.string s] w fun e w' => e = .returned (.tuple #[.string (hd32 s), .string (tl32 s)]) ∧ Below w.heap.size w w' := by
  have h1 : (s.size : Int) - 32 = ((s.size - 32 : Nat) : Int) := by omega
  unfold hd32 tl32
  unfold maxLen at hs
  have h2 : s.size - 32 ≤ s.size := by omega
  generalize s.size - 32 = at_ at *
  go_enter Tryd.func14, Tryd.ntmps14
  go_wp2_with fail
  go_region
  go_wp2_with fail
  go_ret2
  exact ⟨rfl, (Below.refl w.heap.size w).drew⟩

set_option maxRecDepth 100000 in
theorem number0 (i : Nat) (lo hi : Int) (bv bs g cap : Nat) (b B : Bool) (w : World) (t : ByteArray) (p2 : Option Addr) (n2 c2 : Nat) (K N : Int) (_ : 4 ≤ cap) (hi4 : i < 4)
    (v3 : w.cell? ⟨bv, 3, none⟩ = some (.slice (some ⟨g, 0, none⟩) 4 cap)) (k0 : w.cell? ⟨g, 4 * i, none⟩ = some (.int .i64 K)) (k1 : w.cell? ⟨g, 4 * i + 1, none⟩ = some (.int .i64 N)) (k2 : w.cell? ⟨g, 4 * i + 2, none⟩ = some (.string t)) (k3 : w.cell? ⟨g, 4 * i + 3, none⟩ = some (.slice p2 n2 c2))
    (x0 : w.cell? ⟨bs, 0, none⟩ = some (.bool b)) (xf : ∀ j, w.frozen? ⟨bs, j, none⟩ = false) (hbs : bs < w.heap.size) (HB : Hid (B = (b && decide (K = 0 ∧ lo ≤ N ∧ N ≤ hi)))) :
    Calls Tryd.prog 28 #[.int .i64 (i : Int), .int .i64 lo, .int .i64 hi, .pointer (some ⟨bv, 0, none⟩), .pointer (some ⟨bs, 0, none⟩)] w fun e w' =>
      e = .returned (.int .i64 N) ∧ ∃ o, w' = (w.setCell ⟨bs, 0, none⟩ (.bool B)).alloc o := by
  obtain rfl | rfl | rfl | rfl : i = 0 ∨ i = 1 ∨ i = 2 ∨ i = 3 := by omega
  all_goals
    simp only [Nat.mul_zero, Nat.zero_add, Nat.reduceMul, Nat.reduceAdd] at k0 k1 k2 k3
    go_enter Tryd.func28, Tryd.ntmps28
    go_wp2_with fail
  all_goals
    go_ret
    refine ⟨rfl, _, congrArg (fun x => (w.setCell ⟨bs, 0, none⟩ (.bool x)).alloc _) ?_⟩
    rw [HB.out]
    simp_all <;> omega

end Go.Proofs.YtkelipedpjmmaaaDoor.Wtk

namespace Go.Proofs.YtkelipedpjmmaaaDoor.Wtk
open Go.ChangeShapes Go.WideShapes Go.ChangeAt Go.RowKit Go.Proofs.YtkelipedpjmmaaaDoor.M Go.Proofs.YtkelipedpjmmaaaDoor.Wf Go.Proofs.YtkelipedpjmmaaaDoor.Wr

set_option maxRecDepth 100000 in
theorem claimsNo (k n : Int) (s : ByteArray) (p : Option Addr) (l cap : Nat) (w : World) (h : k ≠ 2 ∨ l ≠ 4) (_ : l ≤ 9223372036854775807) :
    Calls Tryd.prog 16 #[.agg #[.int .i64 k, .int .i64 n, .string s, .slice p l cap]] w fun e w' => e = .returned (.tuple #[.agg #[.int .i64 0, .int .i64 0, .int .i64 0, .int .i64 0], .bool false]) ∧ Below w.heap.size w w' := by
  rcases h with h | h
  · have h1 : (k != 2) = true := by simpa using h
    go_enter Tryd.func16, Tryd.ntmps16
    go_wp2_with fail
    exact bodyPost_ret (v := .tuple #[.agg #[.int .i64 0, .int .i64 0, .int .i64 0, .int .i64 0], .bool false]) (by simp [results, Tryd.results16, go_sem]) rfl ⟨rfl, ((Below.refl w.heap.size w).alloc (Nat.le_refl _) _).alloc (by simp) _⟩
  · have h1 : ((l : Int) != 4) = true := by simp; omega
    by_cases h2 : k = 2
    · subst h2
      go_enter Tryd.func16, Tryd.ntmps16
      go_wp2_with fail
      exact bodyPost_ret (v := .tuple #[.agg #[.int .i64 0, .int .i64 0, .int .i64 0, .int .i64 0], .bool false]) (by simp [results, Tryd.results16, go_sem]) rfl ⟨rfl, ((Below.refl w.heap.size w).alloc (Nat.le_refl _) _).alloc (by simp) _⟩
    · have h3 : (k != 2) = true := by simpa using h2
      go_enter Tryd.func16, Tryd.ntmps16
      go_wp2_with fail
      exact bodyPost_ret (v := .tuple #[.agg #[.int .i64 0, .int .i64 0, .int .i64 0, .int .i64 0], .bool false]) (by simp [results, Tryd.results16, go_sem]) rfl ⟨rfl, ((Below.refl w.heap.size w).alloc (Nat.le_refl _) _).alloc (by simp) _⟩

theorem at_of {w w' : World} {g : Nat} {f : F} {i : Nat} (h : At w g f i) (hk : w'.heap[g]? = w.heap[g]?) (hl : w.heap.size ≤ w'.heap.size) : At w' g f i := by
  obtain ⟨hg, t, p, n, c, h0, h1, h2, h3⟩ := h
  have e : ∀ j, w'.cell? ⟨g, j, none⟩ = w.cell? ⟨g, j, none⟩ := fun j => by simp [World.cell?, hk]
  exact ⟨Nat.lt_of_lt_of_le hg hl, t, p, n, c, (e _).trans h0, (e _).trans h1, (e _).trans h2, (e _).trans h3⟩

/-- What claimsOf has laid: the value, the result, whether all is sound. -/
def Cs (w : World) (n : Int) (s : ByteArray) (g cap : Nat) (f : F) (b : Bool) (W : World) : Prop :=
  W.heap[w.heap.size]? = some (.cells #[.int .i64 2, .int .i64 n, .string s, .slice (some ⟨g, 0, none⟩) 4 cap] 50 (0, 0)) ∧
  W.heap[w.heap.size + 1]? = some (.cells #[.int .i64 0, .int .i64 0, .int .i64 0, .int .i64 0] 23 (0, 0)) ∧
  W.heap[w.heap.size + 1 + 1]? = some (.cells #[.bool b] 4 (0, 0)) ∧ (g < w.heap.size) ∧ (∀ i, i < 4 → At W g f i) ∧ Below w.heap.size w W
theorem cs_start {w : World} {n : Int} {s : ByteArray} {g cap : Nat} {f : F} (hA : ∀ i, i < 4 → At w g f i) :
    Cs w n s g cap f true (((w.alloc (.cells #[.int .i64 2, .int .i64 n, .string s, .slice (some ⟨g, 0, none⟩) 4 cap] 50)).alloc (.cells #[.int .i64 0, .int .i64 0, .int .i64 0, .int .i64 0] 23)).alloc (.cells #[.bool true] 4)) := by
  obtain ⟨X, hX⟩ : ∃ X, X = ((w.alloc (.cells #[.int .i64 2, .int .i64 n, .string s, .slice (some ⟨g, 0, none⟩) 4 cap] 50)).alloc (.cells #[.int .i64 0, .int .i64 0, .int .i64 0, .int .i64 0] 23)).alloc (.cells #[.bool true] 4) := ⟨_, rfl⟩
  obtain ⟨h0, h1, h2, h3, h4⟩ := Wr.three w _ _ _ X hX
  rw [← hX]
  exact ⟨h0, h1, h2, (hA 0 (by decide)).1, fun i hi => (hA i hi).below h4, h4⟩
theorem Cs.step {w W : World} {n : Int} {s : ByteArray} {g cap : Nat} {f : F} {b : Bool} (h : Cs w n s g cap f b W) (i : Nat) (lo hi : Int) (hi4 : i < 4) (hc : 4 ≤ cap) :
    Calls Tryd.prog 28 #[.int .i64 (i : Int), .int .i64 lo, .int .i64 hi, .pointer (some ⟨w.heap.size, 0, none⟩), .pointer (some ⟨w.heap.size + 1 + 1, 0, none⟩)] W fun e w' =>
      e = .returned (.int .i64 (f.nb i)) ∧ Cs w n s g cap f (b && decide (f.kd i = 0 ∧ lo ≤ f.nb i ∧ f.nb i ≤ hi)) w' := by
  obtain ⟨h0, h1, h2, hg, hA, hb⟩ := h
  obtain ⟨_, t, p2, n2, c2, k0, k1, k2, k3⟩ := hA i hi4
  refine (number0 i lo hi w.heap.size (w.heap.size + 1 + 1) g cap b _ W t p2 n2 c2 _ _ hc hi4 (by simp [World.cell?, h0]) k0 k1 k2 k3 (by simp [World.cell?, h2]) (frozen_there h2) (lt_of_heap h2) rfl).mono ?_
  rintro e w' ⟨rfl, o, rfl⟩
  refine ⟨rfl, ?_⟩
  have hz : ∀ x, (W.setCell ⟨w.heap.size + 1 + 1, 0, none⟩ x).heap.size = W.heap.size := fun x => by simp [World.setCell]
  have ho : ∀ x j, j < W.heap.size → j ≠ w.heap.size + 1 + 1 → ((W.setCell ⟨w.heap.size + 1 + 1, 0, none⟩ x).alloc o).heap[j]? = W.heap[j]? := fun x j hj hn => (Below.heap_alloc _ _ _ (by rw [hz]; exact hj)).trans (Below.heap_setCell _ _ _ _ hn)
  have l2 := lt_of_heap h2
  refine ⟨(ho _ _ (by omega) (by omega)).trans h0, (ho _ _ (by omega) (by omega)).trans h1, ?_, hg, fun j hj => at_of (hA j hj) (ho _ _ (by omega) (by omega)) (by rw [World.size_alloc, hz]; omega), ?_⟩
  · rw [Below.heap_alloc _ _ _ (by rw [hz]; exact l2), heap_set1 h2]
    rfl
  · exact (hb.setCell (p := ⟨w.heap.size + 1 + 1, 0, none⟩) (by show w.heap.size ≤ w.heap.size + 1 + 1; omega) _).alloc (by rw [hz]; omega) _

set_option maxRecDepth 100000 in
theorem claimsFour (n : Int) (s : ByteArray) (g cap : Nat) (f : F) (w : World) (hc : 4 ≤ cap) (hA : ∀ i, i < 4 → At w g f i) (B : Bool) (HB : Hid (B = decide (((f.kd 0 = 0 ∧ 0 ≤ f.nb 0 ∧ f.nb 0 ≤ 2147483647) ∧ (f.kd 1 = 0 ∧ 0 ≤ f.nb 1 ∧ f.nb 1 ≤ 2147483647) ∧ f.kd 2 = 0 ∧ f.kd 3 = 0)))) (I2 : I6 (f.nb 2)) (I3 : I6 (f.nb 3)) :
    Calls Tryd.prog 16 #[.agg #[.int .i64 2, .int .i64 n, .string s, .slice (some ⟨g, 0, none⟩) 4 cap]] w fun e w' =>
      (B = true → e = .returned (.tuple #[.agg #[.int .i64 (f.nb 0), .int .i64 (f.nb 1), .int .i64 (f.nb 2), .int .i64 (f.nb 3)], .bool true])) ∧ (B = false → e = .returned (.tuple #[.agg #[.int .i64 0, .int .i64 0, .int .i64 0, .int .i64 0], .bool false])) ∧ Below w.heap.size w w' := by
  have hmf : ∀ (fn : Fn) (first cap : Array Value) (w : World), (Instr.makeFunc fn first cap).run Tryd.prog w = .ok (.func fn first cap) w := fun _ _ _ _ => rfl
  have S0 := hid (cs_start (n := n) (s := s) (cap := cap) hA)
  have ST := hid (fun (W : World) (b : Bool) (h : Cs w n s g cap f b W) (i : Nat) (lo hi : Int) (hi4 : i < 4) => Cs.step h i lo hi hi4 hc)
  have HE := hid (show B = ((((true && decide (f.kd 0 = 0 ∧ 0 ≤ f.nb 0 ∧ f.nb 0 ≤ 2147483647)) && decide (f.kd 1 = 0 ∧ 0 ≤ f.nb 1 ∧ f.nb 1 ≤ 2147483647)) && decide (f.kd 2 = 0 ∧ -9223372036854775808 ≤ f.nb 2 ∧ f.nb 2 ≤ 9223372036854775807)) && decide (f.kd 3 = 0 ∧ -9223372036854775808 ≤ f.nb 3 ∧ f.nb 3 ≤ 9223372036854775807)) from by
    rw [HB.out]
    obtain ⟨a2, b2⟩ := I2
    obtain ⟨a3, b3⟩ := I3
    have e2 : decide (f.kd 2 = 0 ∧ -9223372036854775808 ≤ f.nb 2 ∧ f.nb 2 ≤ 9223372036854775807) = decide (f.kd 2 = 0) := by
      apply decide_eq_decide.2
      exact ⟨fun h => h.1, fun h => ⟨h, a2, by omega⟩⟩
    have e3 : decide (f.kd 3 = 0 ∧ -9223372036854775808 ≤ f.nb 3 ∧ f.nb 3 ≤ 9223372036854775807) = decide (f.kd 3 = 0) := by
      apply decide_eq_decide.2
      exact ⟨fun h => h.1, fun h => ⟨h, a3, by omega⟩⟩
    rw [e2, e3]
    simp only [Bool.true_and, Bool.decide_and, Bool.and_assoc])
  clear hA HB I2 I3
  go_enter Tryd.func16, Tryd.ntmps16
  go_wp2_with fail
  refine (ST.out _ _ S0.out 0 0 2147483647 (by decide)).mono ?_
  rintro e w1 ⟨rfl, s1⟩
  have S1 := hid s1
  clear s1 S0
  go_wp2_with fail
  refine (ST.out _ _ S1.out 1 0 2147483647 (by decide)).mono ?_
  rintro e w2 ⟨rfl, s2⟩
  have S2 := hid s2
  clear s2 S1
  go_wp2_with fail
  refine (ST.out _ _ S2.out 2 (-9223372036854775808) 9223372036854775807 (by decide)).mono ?_
  rintro e w3 ⟨rfl, s3⟩
  have S3 := hid s3
  clear s3 S2
  go_wp2_with fail
  refine (ST.out _ _ S3.out 3 (-9223372036854775808) 9223372036854775807 (by decide)).mono ?_
  rintro e w4 ⟨rfl, s4⟩
  rw [← HE.out] at s4
  clear S3 ST HE
  obtain ⟨h0, h1, h2, hg, hA, hb⟩ := s4
  have HBe := hid hb
  have v0 : w4.cell? ⟨w.heap.size + 1, 0, none⟩ = some (.int .i64 0) := by simp [World.cell?, h1]
  have v1 : w4.cell? ⟨w.heap.size + 1, 1, none⟩ = some (.int .i64 0) := by simp [World.cell?, h1]
  have v2 : w4.cell? ⟨w.heap.size + 1, 2, none⟩ = some (.int .i64 0) := by simp [World.cell?, h1]
  have v3 : w4.cell? ⟨w.heap.size + 1, 3, none⟩ = some (.int .i64 0) := by simp [World.cell?, h1]
  have vf := frozen_there h1
  have x0 : w4.cell? ⟨w.heap.size + 1 + 1, 0, none⟩ = some (.bool B) := by simp [World.cell?, h2]
  have l2 := lt_of_heap h2
  have l1 := lt_of_heap h1
  clear h0 h1 h2 hA hb hg
  have hz := HBe.out.size
  cases B with
  | true =>
    go_wp2_with fail
    have hZ : Below w.heap.size w ((put4 w4 (w.heap.size + 1) 0 (.int .i64 (f.nb 0)) (.int .i64 (f.nb 1)) (.int .i64 (f.nb 2)) (.int .i64 (f.nb 3))).alloc (.cells #[.int .i64 (f.nb 0), .int .i64 (f.nb 1), .int .i64 (f.nb 2), .int .i64 (f.nb 3)] 23)) := (put4_below HBe.out (Nat.le_succ _) _ _ _ _).alloc (by rw [put4_size]; exact hz) _
    exact bodyPost_ret (v := .tuple #[.agg #[.int .i64 (f.nb 0), .int .i64 (f.nb 1), .int .i64 (f.nb 2), .int .i64 (f.nb 3)], .bool true]) (by simp [results, Tryd.results16, go_sem, v0, v1, v2, v3, l1]) rfl ⟨rfl, hZ⟩
  | false =>
    go_wp2_with fail
    have hZ : Below w.heap.size w ((put4 w4 (w.heap.size + 1) 0 (.int .i64 0) (.int .i64 0) (.int .i64 0) (.int .i64 0)).alloc (.cells #[.int .i64 (f.nb 0), .int .i64 (f.nb 1), .int .i64 (f.nb 2), .int .i64 (f.nb 3)] 23)) := (put4_below HBe.out (Nat.le_succ _) _ _ _ _).alloc (by rw [put4_size]; exact hz) _
    exact bodyPost_ret (v := .tuple #[.agg #[.int .i64 0, .int .i64 0, .int .i64 0, .int .i64 0], .bool false]) (by simp [results, Tryd.results16, go_sem, v0, v1, v2, v3, l1]) rfl ⟨rfl, hZ⟩

end Go.Proofs.YtkelipedpjmmaaaDoor.Wtk

namespace Go.Proofs.YtkelipedpjmmaaaDoor.Wtk
open Go.ChangeShapes Go.WideShapes Go.ChangeAt Go.RowKit Go.Proofs.YtkelipedpjmmaaaDoor.M Go.Proofs.YtkelipedpjmmaaaDoor.Wf Go.Proofs.YtkelipedpjmmaaaDoor.Wr

theorem nb_range : ∀ {f : F} (i : Nat), f.ok → I6 (f.nb i)
  | .nil, _, _ => by constructor <;> simp [F.nb]
  | .cons _ _ _ _ _, 0, h => h.2.1
  | .cons _ _ _ _ r, i + 1, h => nb_range i h.2.2.2.2

theorem claimsYes {v : V} {p : Option Addr} {cap : Nat} {A : Nat → Prop} {w : World} (hR : Rd w A (.slice p v.l.len cap) v.l) (ho : v.l.ok) (h : okV v) :
    Calls Tryd.prog 16 #[.agg #[.int .i64 v.k, .int .i64 v.n, .string v.s, .slice p v.l.len cap]] w fun e w' => e = .returned (.tuple #[.agg #[.int .i64 (v.l.nb 0), .int .i64 (v.l.nb 1), .int .i64 (v.l.nb 2), .int .i64 (v.l.nb 3)], .bool true]) ∧ Below w.heap.size w w' := by
  obtain ⟨hk, hl, h1, h2, h3, h4⟩ := h
  obtain ⟨g, rfl, _, hc, _, hA⟩ := rd_at hR (by omega)
  rw [hk, hl]
  rw [hl] at hc hA
  exact (claimsFour v.n v.s g cap v.l w hc hA true (by exact (decide_eq_true ⟨h1, h2, h3, h4⟩).symm) (nb_range 2 ho) (nb_range 3 ho)).mono fun e w' h => ⟨h.1 rfl, h.2.2⟩
theorem claimsNot {v : V} {p : Option Addr} {cap : Nat} {A : Nat → Prop} {w : World} (hR : Rd w A (.slice p v.l.len cap) v.l) (ho : v.l.ok) (h : ¬ okV v) :
    Calls Tryd.prog 16 #[.agg #[.int .i64 v.k, .int .i64 v.n, .string v.s, .slice p v.l.len cap]] w fun e w' => e = .returned (.tuple #[.agg #[.int .i64 0, .int .i64 0, .int .i64 0, .int .i64 0], .bool false]) ∧ Below w.heap.size w w' := by
  obtain ⟨_, cap', _, e, hc, hm, _⟩ := rd_form hR
  obtain ⟨_, rfl⟩ : _ ∧ cap = cap' := by simpa using e
  have hmx : v.l.len ≤ 9223372036854775807 := by unfold maxLen at hm; omega
  by_cases hk : v.k = 2
  · by_cases hl : v.l.len = 4
    · obtain ⟨g, rfl, _, hc, _, hA⟩ := rd_at hR (by omega)
      rw [hk, hl]
      rw [hl] at hc hA
      exact (claimsFour v.n v.s g cap v.l w hc hA false (by exact (decide_eq_false (fun c => h ⟨hk, hl, c⟩)).symm) (nb_range 2 ho) (nb_range 3 ho)).mono fun e w' h => ⟨h.2.1 rfl, h.2.2⟩
    · exact claimsNo _ _ _ _ _ _ w (.inr hl) hmx
  · exact claimsNo _ _ _ _ _ _ w (.inl hk) hmx

/-- The result's cell. -/
def Rz (T : TypeId) (w W : World) : Prop := W.heap[w.heap.size]? = some (.cells #[.int .i64 0, .int .i64 0, .int .i64 0, .int .i64 0] T (0, 0)) ∧ Below w.heap.size w W
theorem rz_start (T : TypeId) (w : World) : Rz T w (w.alloc (.cells #[.int .i64 0, .int .i64 0, .int .i64 0, .int .i64 0] T)) := ⟨heap_alloc_new w _, (Below.refl w.heap.size w).alloc (Nat.le_refl _) _⟩
theorem Rz.below {T : TypeId} {w W W' : World} (h : Rz T w W) (b : Below W.heap.size W W') : Rz T w W' := ⟨(b.block _ (lt_of_heap h.1)).trans h.1, h.2.trans (b.mono h.2.size)⟩
theorem Rz.alloc {T : TypeId} {w W : World} (h : Rz T w W) (o : Obj) : Rz T w (W.alloc o) := h.below ((Below.refl _ _).alloc (Nat.le_refl _) _)
theorem Rz.cells {T : TypeId} {w W : World} (h : Rz T w W) : W.cell? ⟨w.heap.size, 0, none⟩ = some (.int .i64 0) ∧ W.cell? ⟨w.heap.size, 1, none⟩ = some (.int .i64 0) ∧ W.cell? ⟨w.heap.size, 2, none⟩ = some (.int .i64 0) ∧ W.cell? ⟨w.heap.size, 3, none⟩ = some (.int .i64 0) ∧ (∀ j, W.frozen? ⟨w.heap.size, j, none⟩ = false) ∧ w.heap.size < W.heap.size := by
  obtain ⟨h, _⟩ := h
  exact ⟨by simp [World.cell?, h], by simp [World.cell?, h], by simp [World.cell?, h], by simp [World.cell?, h], frozen_there h, lt_of_heap h⟩
theorem Rz.put {T : TypeId} {w W : World} (h : Rz T w W) (a b c d : Value) : Below w.heap.size w (put4 W w.heap.size 0 a b c d) := put4_below h.2 (Nat.le_refl _) _ _ _ _

theorem four_c {w : World} {b : Nat} {x0 x1 x2 x3 : Value} {T : TypeId} (h : w.heap[b]? = some (.cells #[x0, x1, x2, x3] T (0, 0))) : w.cell? ⟨b, 0, none⟩ = some x0 ∧ w.cell? ⟨b, 1, none⟩ = some x1 ∧ w.cell? ⟨b, 2, none⟩ = some x2 ∧ w.cell? ⟨b, 3, none⟩ = some x3 := by
  simp [World.cell?, h]
theorem cell_off {w : World} {a b i j : Nat} {v : Value} (h : a ≠ b) : (w.setCell ⟨a, i, none⟩ v).cell? ⟨b, j, none⟩ = w.cell? ⟨b, j, none⟩ := by
  have e := Below.heap_setCell w ⟨a, i, none⟩ v b (fun c => h c.symm)
  simp only [World.cell?, e]

set_option maxRecDepth 100000 in
set_option maxHeartbeats 1000000 in
theorem parse (s : ByteArray) (w : World) (hs : s.size ≤ 140737488355328) :
    Calls Tryd.prog 8 #[.string s] w fun e w' => e = .returned (.tuple #[.agg #[.int .i64 (tkN s 0), .int .i64 (tkN s 1), .int .i64 (tkN s 2), .int .i64 (tkN s 3)], .string (tkT s), .int .i64 (tkE s)]) ∧ Below w.heap.size w w' := by
  by_cases c : s.size < 32
  · have e3 := tk_short c
    obtain ⟨t0, n0⟩ := tk_none (s := s) (by rw [e3]; decide)
    rw [e3, t0, n0, n0, n0, n0]
    clear e3 t0 n0
    go_enter Tryd.func8, Tryd.ntmps8
    go_wp2_with fail
    exact bodyPost_ret (v := .tuple #[.agg #[.int .i64 0, .int .i64 0, .int .i64 0, .int .i64 0], .string ⟨#[]⟩, .int .i64 3]) (by simp [results, Tryd.results8, go_sem]) rfl ⟨rfl, (Below.refl w.heap.size w).alloc (Nat.le_refl _) _⟩
  · have hs' : s.size ≤ maxLen := by unfold maxLen; omega
    have CP := hid (fun W => parts s W hs' c)
    have CG := hid (fun W => Wr.get (hd32 s) W (by rw [hd32_size]; omega))
    have CC := hid (fun W => Wc.clone (tl32 s) W (by rw [tl32_size c]; decide))
    have HE := hid (fun e => tk_err (s := s) (e := e) c)
    have HF := hid (fun v => tk_form (s := s) (v := v) c)
    have HO := hid (fun v => tk_ok (s := s) (v := v) c)
    have c' : ¬ (s.size : Int) < 32 := by omega
    generalize hr : allR (hd32 s) = r at *
    have hsz := tl32_size c
    generalize hd32 s = H at *
    generalize tl32 s = T at *
    cases r with
    | error e0 =>
      have e3 := HE.out e0 rfl
      have ne := allR_code hr
      obtain ⟨t0, n0⟩ := tk_none (s := s) (by rw [e3]; exact ne)
      rw [e3, t0, n0, n0, n0, n0]
      have ne' : (e0 != 0) = true := by simpa using ne
      have CG2 : Hid (∀ W, Calls Tryd.prog 15 #[.string H] W fun e w' => ∃ p cap, e = .returned (.tuple #[.agg #[.int .i64 0, .int .i64 0, .string ⟨#[]⟩, .slice p 0 cap], .int .i64 e0]) ∧ Hid (Rd w' (fun g => W.heap.size ≤ g) (.slice p 0 cap) .nil) ∧ Below W.heap.size W w') := CG
      clear e3 t0 n0 HE HF HO CG hr ne
      go_enter Tryd.func8, Tryd.ntmps8
      go_wp2_with fail
      refine (CP.out _).mono ?_
      rintro e w1 ⟨rfl, b1⟩
      go_wp2_with fail
      refine (CG2.out _).mono ?_
      rintro e w2 ⟨p, cap, rfl, _, b2⟩
      have Z := (((rz_start 23 w).below b1).below b2)
      obtain ⟨v0, v1, v2, v3, vf, vl⟩ := Z.cells
      have HZ := hid Z
      clear Z b1 b2
      go_wp2_with fail
      exact bodyPost_ret (v := .tuple #[.agg #[.int .i64 0, .int .i64 0, .int .i64 0, .int .i64 0], .string ⟨#[]⟩, .int .i64 e0]) (by simp [results, Tryd.results8, go_sem, v0, v1, v2, v3, vl]) rfl ⟨rfl, (HZ.out.put _ _ _ _).alloc (by rw [put4_size]; exact HZ.out.2.size) _⟩
    | ok v =>
      have OK := hid (all_back hr).2
      have CG2 : Hid (∀ W, Calls Tryd.prog 15 #[.string H] W fun e w' => ∃ p cap, e = .returned (.tuple #[.agg #[.int .i64 v.k, .int .i64 v.n, .string v.s, .slice p v.l.len cap], .int .i64 0]) ∧ Hid (Rd w' (fun g => W.heap.size ≤ g) (.slice p v.l.len cap) v.l) ∧ Below W.heap.size W w') := CG
      by_cases hv : okV v
      · obtain ⟨e3, t0, n0⟩ := HO.out v rfl hv
        rw [e3, t0, n0, n0, n0, n0]
        have OV := hid hv
        clear e3 t0 n0 HE HF HO CG hr hv
        go_enter Tryd.func8, Tryd.ntmps8
        go_wp2_with fail
        refine (CP.out _).mono ?_
        rintro e w1 ⟨rfl, b1⟩
        go_wp2_with fail
        refine (CG2.out _).mono ?_
        rintro e w2 ⟨p, cap, rfl, R2, b2⟩
        have Z := hid (((rz_start 23 w).below b1).below b2)
        have R3 := hid (fun o => rd_below (w' := w2.alloc o) R2.out ((Below.refl _ _).alloc (Nat.le_refl _) _))
        clear b1 b2
        go_wp2_with fail
        refine (claimsYes (R3.out _) OK.out.2.2.2.1 OV.out).mono ?_
        rintro e w3 ⟨rfl, b3⟩
        have Z3 := (Z.out.alloc _).below b3
        obtain ⟨v0, v1, v2, v3, vf, vl⟩ := Z3.cells
        have HZ := hid Z3
        clear Z Z3 b3 R3 R2 OK OV
        have m := heap_alloc_new w3 (.cells #[.int .i64 (v.l.nb 0), .int .i64 (v.l.nb 1), .int .i64 (v.l.nb 2), .int .i64 (v.l.nb 3)] 23)
        have kk := four_c m
        have TA : Hid (Calls Tryd.prog 17 #[.string T] (w3.alloc (.cells #[.int .i64 (v.l.nb 0), .int .i64 (v.l.nb 1), .int .i64 (v.l.nb 2), .int .i64 (v.l.nb 3)] 23)).drew fun e w' => e = .returned (.string T) ∧ Hid (Rz 23 w w') ∧ (w'.cell? ⟨w.heap.size, 0, none⟩ = some (.int .i64 0) ∧ w'.cell? ⟨w.heap.size, 1, none⟩ = some (.int .i64 0) ∧ w'.cell? ⟨w.heap.size, 2, none⟩ = some (.int .i64 0) ∧ w'.cell? ⟨w.heap.size, 3, none⟩ = some (.int .i64 0) ∧ (∀ j, w'.frozen? ⟨w.heap.size, j, none⟩ = false) ∧ w.heap.size < w'.heap.size) ∧ (w'.cell? ⟨w3.heap.size, 0, none⟩ = some (.int .i64 (v.l.nb 0)) ∧ w'.cell? ⟨w3.heap.size, 1, none⟩ = some (.int .i64 (v.l.nb 1)) ∧ w'.cell? ⟨w3.heap.size, 2, none⟩ = some (.int .i64 (v.l.nb 2)) ∧ w'.cell? ⟨w3.heap.size, 3, none⟩ = some (.int .i64 (v.l.nb 3)))) := by
          refine (CC.out _).mono fun e w' ⟨q1, q2⟩ => ?_
          have q : Below (w3.alloc (.cells #[.int .i64 (v.l.nb 0), .int .i64 (v.l.nb 1), .int .i64 (v.l.nb 2), .int .i64 (v.l.nb 3)] 23)).heap.size (w3.alloc (.cells #[.int .i64 (v.l.nb 0), .int .i64 (v.l.nb 1), .int .i64 (v.l.nb 2), .int .i64 (v.l.nb 3)] 23)) w' := (Below.refl _ _).drew.trans q2
          have Z := (HZ.out.alloc _).below q
          exact ⟨q1, Z, Z.cells, four_c ((q.block _ (by simp)).trans m)⟩
        have hne : w.heap.size ≠ w3.heap.size := by omega
        clear v0 v1 v2 v3 vf m CC CP CG2 hsz
        go_wp2_with fail
        go_region_held3 (fun w' => w'.cell? ⟨w3.heap.size, 0, none⟩ = some (.int .i64 (v.l.nb 0)) ∧ w'.cell? ⟨w3.heap.size, 1, none⟩ = some (.int .i64 (v.l.nb 1)) ∧ w'.cell? ⟨w3.heap.size, 2, none⟩ = some (.int .i64 (v.l.nb 2)) ∧ w'.cell? ⟨w3.heap.size, 3, none⟩ = some (.int .i64 (v.l.nb 3)))
          (first | exact kk | (simp only [cell_off hne]; exact kk) | go_keep)
          ((go_at_call 17; refine TA.out.mono ?_; rintro e w7 ⟨rfl, HZ7, ⟨v0, v1, v2, v3, vf, vl⟩, kk⟩))
        go_wp2_with fail
        exact bodyPost_ret (v := .tuple #[.agg #[.int .i64 (v.l.nb 0), .int .i64 (v.l.nb 1), .int .i64 (v.l.nb 2), .int .i64 (v.l.nb 3)], .string T, .int .i64 0]) (by simp [results, Tryd.results8, go_sem, v0, v1, v2, v3]) rfl ⟨rfl, HZ7.out.put _ _ _ _⟩
      · have e3 := HF.out v rfl hv
        obtain ⟨t0, n0⟩ := tk_none (s := s) (by rw [e3]; decide)
        rw [e3, t0, n0, n0, n0, n0]
        have OV := hid hv
        clear e3 t0 n0 HE HF HO CG hr hv
        go_enter Tryd.func8, Tryd.ntmps8
        go_wp2_with fail
        refine (CP.out _).mono ?_
        rintro e w1 ⟨rfl, b1⟩
        go_wp2_with fail
        refine (CG2.out _).mono ?_
        rintro e w2 ⟨p, cap, rfl, R2, b2⟩
        have Z := hid (((rz_start 23 w).below b1).below b2)
        have R3 := hid (fun o => rd_below (w' := w2.alloc o) R2.out ((Below.refl _ _).alloc (Nat.le_refl _) _))
        clear b1 b2
        go_wp2_with fail
        refine (claimsNot (R3.out _) OK.out.2.2.2.1 OV.out).mono ?_
        rintro e w3 ⟨rfl, b3⟩
        have Z3 := (Z.out.alloc _).below b3
        obtain ⟨v0, v1, v2, v3, vf, vl⟩ := Z3.cells
        have HZ := hid Z3
        clear Z Z3 b3 R3 R2 OK OV
        go_wp2_with fail
        exact bodyPost_ret (v := .tuple #[.agg #[.int .i64 0, .int .i64 0, .int .i64 0, .int .i64 0], .string ⟨#[]⟩, .int .i64 4]) (by simp [results, Tryd.results8, go_sem, v0, v1, v2, v3, vl]) rfl ⟨rfl, (HZ.out.put _ _ _ _).alloc (by rw [put4_size]; exact HZ.out.2.size) _⟩

end Go.Proofs.YtkelipedpjmmaaaDoor.Wtk
