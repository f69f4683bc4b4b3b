/-
  The contract of slices.BinarySearchFunc of edges by their first numbers, and of waysFrom. Condition: a row of at most 2^21 edges, sorted by their first numbers.
-/
import Derived.Test.YtpbbamoeaalolaaGtY
namespace Go.Proofs.Ytpbbamoeaalolaa.Wg
open Go.ChangeShapes Go.WideShapes Go.ChangeAt Go.RowKit Go.Proofs.Ytpbbamoeaalolaa.M Go.Maps

/-- Up to a place all first numbers are less, from it on none is. -/
structure Cutp (W : List Ed) (n : Int) (i : Nat) : Prop where
  lo : ∀ x e, W[x]? = some e → x < i → e.1 < n
  hi : ∀ x e, W[x]? = some e → i ≤ x → n ≤ e.1
theorem pw_get {W : List Ed} (h : W.Pairwise fun a b => a.1 ≤ b.1) {i j : Nat} {x y : Ed} (hx : W[i]? = some x) (hy : W[j]? = some y) (hij : i ≤ j) : x.1 ≤ y.1 := by
  rcases Nat.lt_or_ge i j with h' | h'
  · rw [List.pairwise_iff_getElem] at h
    obtain ⟨hi, e1⟩ := List.getElem?_eq_some_iff.1 hx
    obtain ⟨hj, e2⟩ := List.getElem?_eq_some_iff.1 hy
    rw [← e1, ← e2]
    exact h i j hi hj h'
  · have : i = j := by omega
    subst this
    rw [hx] at hy
    cases hy
    exact Int.le_refl _

theorem cmp_a {x n : Int} (h : x < n) : Lib.compareInt x n = -1 := by unfold Lib.compareInt; rw [if_pos h]
theorem cmp_b {x n : Int} (h : x = n) : Lib.compareInt x n = 0 := by unfold Lib.compareInt; rw [if_neg (by omega), if_neg (by omega)]
theorem cmp_c {x n : Int} (h : ¬ x < n) (k : ¬ x = n) : Lib.compareInt x n = 1 := by unfold Lib.compareInt; rw [if_neg h, if_pos (by omega)]

set_option maxRecDepth 100000 in
set_option maxHeartbeats 1600000 in
theorem search {w : World} {g cap : Nat} {W : List Ed} (n : Int) (hrd : Rd eC w g 0 W) (hg : g < w.heap.size) (hpw : W.Pairwise fun a b => a.1 ≤ b.1) (hl : W.length ≤ 2097152) :
    Calls Try.prog 40 #[.slice (some ⟨g, 0, none⟩) W.length cap, .int .i64 n, .func (.func 41) #[] #[]] w fun e w' => ∃ (i : Nat) (f : Bool), e = .returned (.tuple #[.int .i64 i, .bool f]) ∧ i ≤ W.length ∧ Cutp W n i ∧ Below w.heap.size w w' := by
  go_enter Try.func40, Try.ntmps40
  go_wp2
  go_loopw [9, 10] (fun a b wr => ∃ i j : Nat, i ≤ j ∧ j ≤ W.length ∧ a = .int .i64 i ∧ b = .int .i64 j ∧ Hid (∀ x e, W[x]? = some e → x < i → e.1 < n) ∧ Hid (∀ x e, W[x]? = some e → j ≤ x → n ≤ e.1) ∧ Below w.heap.size w wr) (fun a b _ => (intOf b).toNat - (intOf a).toNat)
  case atStart => exact ⟨0, W.length, Nat.zero_le _, Nat.le_refl _, rfl, rfl, fun x e _ h => absurd h (Nat.not_lt_zero _), fun x e h h' => by have := (List.getElem?_eq_some_iff.1 h).1; omega, Below.refl _ _⟩
  case round =>
    obtain ⟨i, j, hij, hj, rfl, rfl, hlo, hhi, bw⟩ := hrel
    by_cases c : i < j
    · obtain ⟨h, hh⟩ : ∃ h, Hid (h = (i + j) / 2) := ⟨_, rfl⟩
      have hi1 : i ≤ h := by have := hh.out; omega
      have hj1 : h < j := by have := hh.out; omega
      have e1 : ((i : Int) + (j : Int)) / 2 = (h : Int) := by have := hh.out; omega
      have hW : h < W.length := by omega
      obtain ⟨x, hx⟩ : ∃ x, W[h]? = some x := ⟨W[h], List.getElem?_eq_getElem hW⟩
      obtain ⟨x0, x1⟩ := hrd.atE hx
      rw [Nat.zero_add] at x0 x1
      have y0 : wr.cell? ⟨g, h * 2, none⟩ = some (.int .i64 x.1) := (bw.cell (p := ⟨g, h * 2, none⟩) hg).trans x0
      have y1 : wr.cell? ⟨g, h * 2 + 1, none⟩ = some (.int .i64 x.2) := (bw.cell (p := ⟨g, h * 2 + 1, none⟩) hg).trans x1
      have CC := hid fun W => toNumber x n W
      clear x0 x1
      by_cases cx : x.1 < n
      · rw [cmp_a cx] at CC
        have hlo' : Hid (∀ y e, W[y]? = some e → y < h + 1 → e.1 < n) := fun y e hy hyh => by
          have := pw_get hpw hy hx (by omega)
          omega
        clear hx cx hlo
        go_wp2_with fail
        refine (CC.out _).mono ?_
        rintro e w3 ⟨rfl, b3⟩
        have bw3 := bw.trans (b3.mono bw.size)
        clear CC b3
        go_wp2
        go_roundw
        case rel => exact ⟨h + 1, j, by omega, hj, by go_num, rfl, hlo', hhi, bw3⟩
        case measure => simp [intOf]; omega
      · have hhi' : Hid (∀ y e, W[y]? = some e → h ≤ y → n ≤ e.1) := fun y e hy hyh => by
          have := pw_get hpw hx hy hyh
          omega
        by_cases cy : x.1 = n
        · rw [cmp_b cy] at CC
          clear hx cx hhi cy
          go_wp2_with fail
          refine (CC.out _).mono ?_
          rintro e w3 ⟨rfl, b3⟩
          have bw3 := bw.trans (b3.mono bw.size)
          clear CC b3
          go_wp2
          go_roundw
          case rel => exact ⟨i, h, hi1, by omega, rfl, rfl, hlo, hhi', bw3⟩
          case measure => simp [intOf]; omega
        · rw [cmp_c cx cy] at CC
          clear hx cx hhi cy
          go_wp2_with fail
          refine (CC.out _).mono ?_
          rintro e w3 ⟨rfl, b3⟩
          have bw3 := bw.trans (b3.mono bw.size)
          clear CC b3
          go_wp2
          go_roundw
          case rel => exact ⟨i, h, hi1, by omega, rfl, rfl, hlo, hhi', bw3⟩
          case measure => simp [intOf]; omega
    · have hji : j = i := by omega
      subst hji
      have hC := hid (Cutp.mk (W := W) (n := n) (i := j) hlo.out hhi.out)
      by_cases c2 : j < W.length
      · obtain ⟨x, hx⟩ : ∃ x, W[j]? = some x := ⟨W[j], List.getElem?_eq_getElem c2⟩
        obtain ⟨x0, x1⟩ := hrd.atE hx
        rw [Nat.zero_add] at x0 x1
        have y0 : wr.cell? ⟨g, j * 2, none⟩ = some (.int .i64 x.1) := (bw.cell (p := ⟨g, j * 2, none⟩) hg).trans x0
        have y1 : wr.cell? ⟨g, j * 2 + 1, none⟩ = some (.int .i64 x.2) := (bw.cell (p := ⟨g, j * 2 + 1, none⟩) hg).trans x1
        have CC := hid fun W => toNumber x n W
        generalize Lib.compareInt x.1 n = r at CC
        clear x0 x1 hx hlo hhi hpw
        go_wp2_with fail
        refine (CC.out _).mono ?_
        rintro e w3 ⟨rfl, b3⟩
        have bw3 := bw.trans (b3.mono bw.size)
        clear CC b3
        go_wp2
        go_ret2
        exact ⟨j, _, rfl, hj, hC.out, bw3⟩
      · clear hlo hhi hpw
        go_wp2
        go_ret2
        exact ⟨j, _, rfl, hj, hC.out, bw⟩

/-- Those ways that lead away from a number, as they stand. -/
def Away (W : List Ed) (n : Int) (V : List Ed) (i : Nat) : Prop := (∀ k x, V[k]? = some x → W[i + k]? = some x) ∧ ∀ y, y ∈ V ↔ y ∈ W ∧ y.1 = n
theorem away_of {W : List Ed} {n : Int} {i j : Nat} (hc : Cutp W n i) (hij : i ≤ j) (hin : ∀ x e, W[x]? = some e → i ≤ x → x < j → e.1 = n) (hpw : W.Pairwise fun a b => a.1 ≤ b.1) (hend : j = W.length ∨ ∃ e, W[j]? = some e ∧ e.1 ≠ n) : Away W n ((W.drop i).take (j - i)) i := by
  have hg : ∀ k x, ((W.drop i).take (j - i))[k]? = some x → k < j - i ∧ W[i + k]? = some x := fun k x hk => by
    rw [List.getElem?_take] at hk
    split at hk
    · rename_i hlt
      rw [List.getElem?_drop] at hk
      exact ⟨hlt, hk⟩
    · cases hk
  refine ⟨fun k x hk => (hg k x hk).2, fun y => ⟨fun hy => ?_, fun hy => ?_⟩⟩
  · obtain ⟨k, hk⟩ := List.mem_iff_getElem?.1 hy
    obtain ⟨h1, h2⟩ := hg k y hk
    exact ⟨List.mem_of_getElem? h2, hin _ _ h2 (by omega) (by omega)⟩
  · obtain ⟨hyW, hyn⟩ := hy
    obtain ⟨k, hk⟩ := List.mem_iff_getElem?.1 hyW
    have hik : i ≤ k := by
      rcases Nat.lt_or_ge k i with h | h
      · have := hc.lo k y hk h; omega
      · exact h
    have hkj : k < j := by
      rcases Nat.lt_or_ge k j with h | h
      · exact h
      · rcases hend with he | ⟨e, he, hne⟩
        · have := (List.getElem?_eq_some_iff.1 hk).1; omega
        · have a := pw_get hpw he hk h
          have b := hc.hi j e he (by omega)
          omega
    refine List.mem_iff_getElem?.2 ⟨k - i, ?_⟩
    rw [List.getElem?_take, if_pos (by omega), List.getElem?_drop, show i + (k - i) = k by omega]
    exact hk

/-- What waysFrom comes to. -/
def WaysP (w w' : World) (g : Nat) (W : List Ed) (n : Int) (e : Ending) : Prop :=
  ∃ (V : List Ed) (i off cap' : Nat), e = .returned (.slice (some ⟨g, off, none⟩) V.length cap') ∧ (V = [] ∨ off = i * 2) ∧ Away W n V i ∧ Below w.heap.size w w'

set_option maxRecDepth 100000 in
set_option maxHeartbeats 1600000 in
theorem waysFrom {w : World} {g cap : Nat} {W : List Ed} (n : Int) (hrd : Rd eC w g 0 W) (hg : g < w.heap.size) (hpw : W.Pairwise fun a b => a.1 ≤ b.1) (hl : W.length ≤ 2097152) (hc1 : W.length ≤ cap) :
    Calls Try.prog 28 #[.int .i64 n, .slice (some ⟨g, 0, none⟩) W.length cap] w fun e w' => WaysP w w' g W n e := by
  have S := hid fun w' (hh : Below w.heap.size w w') => search (w := w') (cap := cap) n (fun i x hx t v hv => (hh.cell (p := ⟨g, 0 + i * 2 + t, none⟩) hg).trans (hrd i x hx t v hv)) (Nat.lt_of_lt_of_le hg hh.size) hpw hl
  go_enter Try.func28, Try.ntmps28
  go_wp2_with fail
  refine (S.out _ (Below.refl _ _)).mono ?_
  rintro e w1 ⟨i, f, rfl, hi, hC, b1⟩
  clear S
  go_wp2
  go_loop [7] (fun b => ∃ j : Nat, i ≤ j ∧ j ≤ W.length ∧ b = .int .i64 j ∧ Hid (∀ x e, W[x]? = some e → i ≤ x → x < j → e.1 = n)) (fun b => W.length - (intOf b).toNat)
  case atStart => exact ⟨i, Nat.le_refl _, hi, rfl, fun x e _ h1 h2 => by omega⟩
  case round =>
    obtain ⟨j, hij, hj, rfl, hin⟩ := hrel
    by_cases c : j < W.length
    · obtain ⟨x, hx⟩ : ∃ x, W[j]? = some x := ⟨W[j], List.getElem?_eq_getElem c⟩
      obtain ⟨x0, x1⟩ := hrd.atE hx
      rw [Nat.zero_add] at x0 x1
      have y0 : w1.cell? ⟨g, j * 2, none⟩ = some (.int .i64 x.1) := (b1.cell (p := ⟨g, j * 2, none⟩) hg).trans x0
      by_cases cx : x.1 = n
      · have hin' : Hid (∀ y e, W[y]? = some e → i ≤ y → y < j + 1 → e.1 = n) := fun y e hy h1 h2 => by
          by_cases e' : y = j
          · subst e'; rw [hx] at hy; cases hy; exact cx
          · exact hin.out y e hy h1 (by omega)
        have d1 : decide (x.1 = n) = true := decide_eq_true cx
        have d2 : (x.1 == n) = true := by simpa using cx
        clear hin x0 x1 hx cx hpw
        go_wp2
        go_round
        case rel => exact ⟨j + 1, by omega, c, by go_num, hin'⟩
        case measure => simp [intOf]; omega
      · have A := hid (away_of hC hij hin.out hpw (.inr ⟨x, hx, cx⟩))
        have d1 : decide (x.1 = n) = false := decide_eq_false cx
        have d2 : (x.1 == n) = false := by simpa using cx
        have zl := hid (show ((W.drop i).take (j - i)).length = j - i by rw [List.length_take, List.length_drop]; omega)
        clear hin x0 x1 hx cx hpw hC
        go_wp2
        go_ret
        unfold WaysP
        exact ⟨_, i, i * 2, cap - i, by rw [zl.out]; rfl, .inr rfl, A.out, b1⟩
    · have A := hid (away_of hC hij hin.out hpw (.inl (by omega)))
      have zl := hid (show ((W.drop i).take (j - i)).length = j - i by rw [List.length_take, List.length_drop]; omega)
      clear hin hpw hC
      go_wp2
      · go_ret
        exact ⟨_, i, 0, 0, by rw [zl.out]; rfl, .inl (List.length_eq_zero_iff.1 (by rw [zl.out]; omega)), A.out, b1⟩
      · go_ret
        exact ⟨_, i, i * 2, cap - i, by rw [zl.out]; rfl, .inr rfl, A.out, b1⟩

end Go.Proofs.Ytpbbamoeaalolaa.Wg
