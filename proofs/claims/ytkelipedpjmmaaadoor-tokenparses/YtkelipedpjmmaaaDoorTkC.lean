/-
  The walk of token.claimsOf: the four numbers of a value that is a list of such, or that it is none. Conditions: the value lies in memory as values do.
-/
import Derived.Test.YtkelipedpjmmaaaDoorRows
import Derived.Test.YtkelipedpjmmaaaDoorTkB
namespace Go.Proofs.YtkelipedpjmmaaaDoor.Wtk
open Go.ChangeShapes Go.WideShapes Go.ChangeAt Go.RowKit Go.Proofs.YtkelipedpjmmaaaDoor.M Go.Proofs.YtkelipedpjmmaaaDoor.Wf Go.Proofs.YtkelipedpjmmaaaDoor.Wr

set_option maxRecDepth 100000 in
theorem claimsNo (k n : Int) (s : ByteArray) (p : Option Addr) (l cap : Nat) (w : World) (h : k ≠ 2 ∨ l ≠ 4) (_ : l ≤ 9223372036854775807) :
    Calls Tryd.prog 16 #[.agg #[.int .i64 k, .int .i64 n, .string s, .slice p l cap]] w fun e w' => e = .returned (.tuple #[.agg #[.int .i64 0, .int .i64 0, .int .i64 0, .int .i64 0], .bool false]) ∧ Below w.heap.size w w' := by
  rcases h with h | h
  · have h1 : (k != 2) = true := by simpa using h
    go_enter Tryd.func16, Tryd.ntmps16
    go_wp2_with fail
    exact bodyPost_ret (v := .tuple #[.agg #[.int .i64 0, .int .i64 0, .int .i64 0, .int .i64 0], .bool false]) (by simp [results, Tryd.results16, go_sem]) rfl ⟨rfl, ((Below.refl w.heap.size w).alloc (Nat.le_refl _) _).alloc (by simp) _⟩
  · have h1 : ((l : Int) != 4) = true := by simp; omega
    by_cases h2 : k = 2
    · subst h2
      go_enter Tryd.func16, Tryd.ntmps16
      go_wp2_with fail
      exact bodyPost_ret (v := .tuple #[.agg #[.int .i64 0, .int .i64 0, .int .i64 0, .int .i64 0], .bool false]) (by simp [results, Tryd.results16, go_sem]) rfl ⟨rfl, ((Below.refl w.heap.size w).alloc (Nat.le_refl _) _).alloc (by simp) _⟩
    · have h3 : (k != 2) = true := by simpa using h2
      go_enter Tryd.func16, Tryd.ntmps16
      go_wp2_with fail
      exact bodyPost_ret (v := .tuple #[.agg #[.int .i64 0, .int .i64 0, .int .i64 0, .int .i64 0], .bool false]) (by simp [results, Tryd.results16, go_sem]) rfl ⟨rfl, ((Below.refl w.heap.size w).alloc (Nat.le_refl _) _).alloc (by simp) _⟩

theorem at_of {w w' : World} {g : Nat} {f : F} {i : Nat} (h : At w g f i) (hk : w'.heap[g]? = w.heap[g]?) (hl : w.heap.size ≤ w'.heap.size) : At w' g f i := by
  obtain ⟨hg, t, p, n, c, h0, h1, h2, h3⟩ := h
  have e : ∀ j, w'.cell? ⟨g, j, none⟩ = w.cell? ⟨g, j, none⟩ := fun j => by simp [World.cell?, hk]
  exact ⟨Nat.lt_of_lt_of_le hg hl, t, p, n, c, (e _).trans h0, (e _).trans h1, (e _).trans h2, (e _).trans h3⟩

/-- What claimsOf has laid: the value, the result, whether all is sound. -/
def Cs (w : World) (n : Int) (s : ByteArray) (g cap : Nat) (f : F) (b : Bool) (W : World) : Prop :=
  W.heap[w.heap.size]? = some (.cells #[.int .i64 2, .int .i64 n, .string s, .slice (some ⟨g, 0, none⟩) 4 cap] 50 (0, 0)) ∧
  W.heap[w.heap.size + 1]? = some (.cells #[.int .i64 0, .int .i64 0, .int .i64 0, .int .i64 0] 23 (0, 0)) ∧
  W.heap[w.heap.size + 1 + 1]? = some (.cells #[.bool b] 4 (0, 0)) ∧ (g < w.heap.size) ∧ (∀ i, i < 4 → At W g f i) ∧ Below w.heap.size w W
theorem cs_start {w : World} {n : Int} {s : ByteArray} {g cap : Nat} {f : F} (hA : ∀ i, i < 4 → At w g f i) :
    Cs w n s g cap f true (((w.alloc (.cells #[.int .i64 2, .int .i64 n, .string s, .slice (some ⟨g, 0, none⟩) 4 cap] 50)).alloc (.cells #[.int .i64 0, .int .i64 0, .int .i64 0, .int .i64 0] 23)).alloc (.cells #[.bool true] 4)) := by
  obtain ⟨X, hX⟩ : ∃ X, X = ((w.alloc (.cells #[.int .i64 2, .int .i64 n, .string s, .slice (some ⟨g, 0, none⟩) 4 cap] 50)).alloc (.cells #[.int .i64 0, .int .i64 0, .int .i64 0, .int .i64 0] 23)).alloc (.cells #[.bool true] 4) := ⟨_, rfl⟩
  obtain ⟨h0, h1, h2, h3, h4⟩ := Wr.three w _ _ _ X hX
  rw [← hX]
  exact ⟨h0, h1, h2, (hA 0 (by decide)).1, fun i hi => (hA i hi).below h4, h4⟩
theorem Cs.step {w W : World} {n : Int} {s : ByteArray} {g cap : Nat} {f : F} {b : Bool} (h : Cs w n s g cap f b W) (i : Nat) (lo hi : Int) (hi4 : i < 4) (hc : 4 ≤ cap) :
    Calls Tryd.prog 28 #[.int .i64 (i : Int), .int .i64 lo, .int .i64 hi, .pointer (some ⟨w.heap.size, 0, none⟩), .pointer (some ⟨w.heap.size + 1 + 1, 0, none⟩)] W fun e w' =>
      e = .returned (.int .i64 (f.nb i)) ∧ Cs w n s g cap f (b && decide (f.kd i = 0 ∧ lo ≤ f.nb i ∧ f.nb i ≤ hi)) w' := by
  obtain ⟨h0, h1, h2, hg, hA, hb⟩ := h
  obtain ⟨_, t, p2, n2, c2, k0, k1, k2, k3⟩ := hA i hi4
  refine (number0 i lo hi w.heap.size (w.heap.size + 1 + 1) g cap b _ W t p2 n2 c2 _ _ hc hi4 (by simp [World.cell?, h0]) k0 k1 k2 k3 (by simp [World.cell?, h2]) (frozen_there h2) (lt_of_heap h2) rfl).mono ?_
  rintro e w' ⟨rfl, o, rfl⟩
  refine ⟨rfl, ?_⟩
  have hz : ∀ x, (W.setCell ⟨w.heap.size + 1 + 1, 0, none⟩ x).heap.size = W.heap.size := fun x => by simp [World.setCell]
  have ho : ∀ x j, j < W.heap.size → j ≠ w.heap.size + 1 + 1 → ((W.setCell ⟨w.heap.size + 1 + 1, 0, none⟩ x).alloc o).heap[j]? = W.heap[j]? := fun x j hj hn => (Below.heap_alloc _ _ _ (by rw [hz]; exact hj)).trans (Below.heap_setCell _ _ _ _ hn)
  have l2 := lt_of_heap h2
  refine ⟨(ho _ _ (by omega) (by omega)).trans h0, (ho _ _ (by omega) (by omega)).trans h1, ?_, hg, fun j hj => at_of (hA j hj) (ho _ _ (by omega) (by omega)) (by rw [World.size_alloc, hz]; omega), ?_⟩
  · rw [Below.heap_alloc _ _ _ (by rw [hz]; exact l2), heap_set1 h2]
    rfl
  · exact (hb.setCell (p := ⟨w.heap.size + 1 + 1, 0, none⟩) (by show w.heap.size ≤ w.heap.size + 1 + 1; omega) _).alloc (by rw [hz]; omega) _

set_option maxRecDepth 100000 in
theorem claimsFour (n : Int) (s : ByteArray) (g cap : Nat) (f : F) (w : World) (hc : 4 ≤ cap) (hA : ∀ i, i < 4 → At w g f i) (B : Bool) (HB : Hid (B = decide (((f.kd 0 = 0 ∧ 0 ≤ f.nb 0 ∧ f.nb 0 ≤ 2147483647) ∧ (f.kd 1 = 0 ∧ 0 ≤ f.nb 1 ∧ f.nb 1 ≤ 2147483647) ∧ f.kd 2 = 0 ∧ f.kd 3 = 0)))) (I2 : I6 (f.nb 2)) (I3 : I6 (f.nb 3)) :
    Calls Tryd.prog 16 #[.agg #[.int .i64 2, .int .i64 n, .string s, .slice (some ⟨g, 0, none⟩) 4 cap]] w fun e w' =>
      (B = true → e = .returned (.tuple #[.agg #[.int .i64 (f.nb 0), .int .i64 (f.nb 1), .int .i64 (f.nb 2), .int .i64 (f.nb 3)], .bool true])) ∧ (B = false → e = .returned (.tuple #[.agg #[.int .i64 0, .int .i64 0, .int .i64 0, .int .i64 0], .bool false])) ∧ Below w.heap.size w w' := by
  have hmf : ∀ (fn : Fn) (first cap : Array Value) (w : World), (Instr.makeFunc fn first cap).run Tryd.prog w = .ok (.func fn first cap) w := fun _ _ _ _ => rfl
  have S0 := hid (cs_start (n := n) (s := s) (cap := cap) hA)
  have ST := hid (fun (W : World) (b : Bool) (h : Cs w n s g cap f b W) (i : Nat) (lo hi : Int) (hi4 : i < 4) => Cs.step h i lo hi hi4 hc)
  have HE := hid (show B = ((((true && decide (f.kd 0 = 0 ∧ 0 ≤ f.nb 0 ∧ f.nb 0 ≤ 2147483647)) && decide (f.kd 1 = 0 ∧ 0 ≤ f.nb 1 ∧ f.nb 1 ≤ 2147483647)) && decide (f.kd 2 = 0 ∧ -9223372036854775808 ≤ f.nb 2 ∧ f.nb 2 ≤ 9223372036854775807)) && decide (f.kd 3 = 0 ∧ -9223372036854775808 ≤ f.nb 3 ∧ f.nb 3 ≤ 9223372036854775807)) from by
    rw [HB.out]
    obtain ⟨a2, b2⟩ := I2
    obtain ⟨a3, b3⟩ := I3
    have e2 : decide (f.kd 2 = 0 ∧ -9223372036854775808 ≤ f.nb 2 ∧ f.nb 2 ≤ 9223372036854775807) = decide (f.kd 2 = 0) := by
      apply decide_eq_decide.2
      exact ⟨fun h => h.1, fun h => ⟨h, a2, by omega⟩⟩
    have e3 : decide (f.kd 3 = 0 ∧ -9223372036854775808 ≤ f.nb 3 ∧ f.nb 3 ≤ 9223372036854775807) = decide (f.kd 3 = 0) := by
      apply decide_eq_decide.2
      exact ⟨fun h => h.1, fun h => ⟨h, a3, by omega⟩⟩
    rw [e2, e3]
    simp only [Bool.true_and, Bool.decide_and, Bool.and_assoc])
  clear hA HB I2 I3
  go_enter Tryd.func16, Tryd.ntmps16
  go_wp2_with fail
  refine (ST.out _ _ S0.out 0 0 2147483647 (by decide)).mono ?_
  rintro e w1 ⟨rfl, s1⟩
  have S1 := hid s1
  clear s1 S0
  go_wp2_with fail
  refine (ST.out _ _ S1.out 1 0 2147483647 (by decide)).mono ?_
  rintro e w2 ⟨rfl, s2⟩
  have S2 := hid s2
  clear s2 S1
  go_wp2_with fail
  refine (ST.out _ _ S2.out 2 (-9223372036854775808) 9223372036854775807 (by decide)).mono ?_
  rintro e w3 ⟨rfl, s3⟩
  have S3 := hid s3
  clear s3 S2
  go_wp2_with fail
  refine (ST.out _ _ S3.out 3 (-9223372036854775808) 9223372036854775807 (by decide)).mono ?_
  rintro e w4 ⟨rfl, s4⟩
  rw [← HE.out] at s4
  clear S3 ST HE
  obtain ⟨h0, h1, h2, hg, hA, hb⟩ := s4
  have HBe := hid hb
  have v0 : w4.cell? ⟨w.heap.size + 1, 0, none⟩ = some (.int .i64 0) := by simp [World.cell?, h1]
  have v1 : w4.cell? ⟨w.heap.size + 1, 1, none⟩ = some (.int .i64 0) := by simp [World.cell?, h1]
  have v2 : w4.cell? ⟨w.heap.size + 1, 2, none⟩ = some (.int .i64 0) := by simp [World.cell?, h1]
  have v3 : w4.cell? ⟨w.heap.size + 1, 3, none⟩ = some (.int .i64 0) := by simp [World.cell?, h1]
  have vf := frozen_there h1
  have x0 : w4.cell? ⟨w.heap.size + 1 + 1, 0, none⟩ = some (.bool B) := by simp [World.cell?, h2]
  have l2 := lt_of_heap h2
  have l1 := lt_of_heap h1
  clear h0 h1 h2 hA hb hg
  have hz := HBe.out.size
  cases B with
  | true =>
    go_wp2_with fail
    have hZ : Below w.heap.size w ((put4 w4 (w.heap.size + 1) 0 (.int .i64 (f.nb 0)) (.int .i64 (f.nb 1)) (.int .i64 (f.nb 2)) (.int .i64 (f.nb 3))).alloc (.cells #[.int .i64 (f.nb 0), .int .i64 (f.nb 1), .int .i64 (f.nb 2), .int .i64 (f.nb 3)] 23)) := (put4_below HBe.out (Nat.le_succ _) _ _ _ _).alloc (by rw [put4_size]; exact hz) _
    exact bodyPost_ret (v := .tuple #[.agg #[.int .i64 (f.nb 0), .int .i64 (f.nb 1), .int .i64 (f.nb 2), .int .i64 (f.nb 3)], .bool true]) (by simp [results, Tryd.results16, go_sem, v0, v1, v2, v3, l1]) rfl ⟨rfl, hZ⟩
  | false =>
    go_wp2_with fail
    have hZ : Below w.heap.size w ((put4 w4 (w.heap.size + 1) 0 (.int .i64 0) (.int .i64 0) (.int .i64 0) (.int .i64 0)).alloc (.cells #[.int .i64 (f.nb 0), .int .i64 (f.nb 1), .int .i64 (f.nb 2), .int .i64 (f.nb 3)] 23)) := (put4_below HBe.out (Nat.le_succ _) _ _ _ _).alloc (by rw [put4_size]; exact hz) _
    exact bodyPost_ret (v := .tuple #[.agg #[.int .i64 0, .int .i64 0, .int .i64 0, .int .i64 0], .bool false]) (by simp [results, Tryd.results16, go_sem, v0, v1, v2, v3, l1]) rfl ⟨rfl, hZ⟩

end Go.Proofs.YtkelipedpjmmaaaDoor.Wtk
