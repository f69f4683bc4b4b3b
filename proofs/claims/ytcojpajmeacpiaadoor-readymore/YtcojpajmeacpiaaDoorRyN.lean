/-
  The contract of the laws' equal, and what the laws ask first (wakes); from the condition on the library's table to its cells; from the reading of masks and numbers to what they hold. Conditions: those named.
-/
import Derived.Test.YtcojpajmeacpiaaDoorRyM
import Derived.Test.YtcojpajmeacpiaaDoorRyJ
import Derived.ChangeSame
import Derived.ChangeVars
import Derived.JoinedOf
import Derived.RowKit
import Derived.LaidLaws
import Derived.LaidHandle
import Derived.Stop.Joined
import Derived.Lib.LaidTab
import Derived.SliceStrings
import Derived.Deep.Slices
import Derived.SizedLaws
import Derived.ShutString
namespace Go.Proofs.YtcojpajmeacpiaaDoor.Wry
open Go.ChangeShapes Go.WideShapes Go.ChangeAt Go.RowKit Go.Shelf Go.Proofs.YtcojpajmeacpiaaDoor.M

/-! ### equal -/
theorem Is.drewN {w : World} {a : Option Addr} {l : List Int} (h : Is w a l) (q : Nat) : Is (w.drewN q) a l := h
theorem below_drewN {n : Nat} {w w' : World} (h : Below n w w') : ∀ q, Below n w (w'.drewN q)
  | 0 => h
  | q + 1 => (below_drewN h q).drew

set_option maxRecDepth 100000 in
set_option maxHeartbeats 4000000 in
theorem equal {w : World} {a b : Option Addr} {l k : List Int} {c d : Nat} (hl : Is w a l) (hk : Is w b k) (hll : l.length ≤ 9223372036854775807) (_ : k.length ≤ 9223372036854775807) :
    Calls Tryd.prog 10 #[.slice a l.length c, .slice b k.length d] w fun e w' => e = .returned (.bool (decide (l = k))) ∧ Below w.heap.size w w' := by
  have HL := hid hl
  have HK := hid hk
  clear hl hk
  by_cases h : l.length = k.length
  · have hh := hid h
    have d0 : ((l.length : Int) == (k.length : Int)) = true := by simp [h]
    have d1 : ((l.length : Int) != (k.length : Int)) = false := by simp [h]
    rw [← h]
    clear h d0 d1
    go_enter Tryd.func10, Tryd.ntmps10
    go_wp2_with fail
    go_loopw [13] (fun iv wr => ∃ i : Nat, i ≤ l.length ∧ iv = .int .i64 (i : Int) ∧ Hid (∀ j, j < i → l[j]? = k[j]?) ∧ Below w.heap.size w wr) (fun iv _ => l.length - (intOf iv).toNat)
    case atStart => exact ⟨0, Nat.zero_le _, rfl, hid (fun j hj => absurd hj (Nat.not_lt_zero j)), Below.refl _ _⟩
    case round =>
      obtain ⟨i, hi, rfl, hs, hb⟩ := hrel
      by_cases ci : i < l.length
      · have hk2 : i < k.length := by rw [← hh.out]; exact ci
        obtain ⟨x, hx⟩ : ∃ x, l[i]? = some x := ⟨l[i], List.getElem?_eq_getElem ci⟩
        obtain ⟨y, hy⟩ : ∃ y, k[i]? = some y := ⟨k[i], List.getElem?_eq_getElem hk2⟩
        obtain ⟨g, o, rfl, hg, x0⟩ := (HL.out.below hb).at hx
        obtain ⟨g', o', rfl, hg', y0⟩ := (HK.out.below hb).at hy
        by_cases e : x = y
        · have t0 : (x == y) = true := by simp [e]
          have t1 : (x != y) = false := by simp [e]
          have hs2 : Hid (∀ j, j < i + 1 → l[j]? = k[j]?) := hid (fun j hj => by
            by_cases q : j = i
            · subst q; rw [hx, hy, e]
            · exact hs.out j (by omega))
          clear hx hy e hs
          go_wp2_with fail
          go_quiet (fail)
          go_wp2_with fail
          go_roundw
          case rel => exact ⟨i + 1, ci, by go_num, hs2, below_drewN hb _⟩
          case measure => simp [intOf]; omega
        · have t0 : (x == y) = false := by simp [e]
          have t1 : (x != y) = true := by simp [e]
          have hne : Hid (decide (l = k) = false) := hid (decide_eq_false (fun q => e (by rw [q, hy] at hx; cases hx; rfl)))
          clear hx hy e hs
          go_wp2_with fail
          go_quiet (fail)
          go_wp2_with fail
          go_ret
          exact ⟨ret_b hne.out.symm, below_drewN hb _⟩
      · have he : Hid (decide (l = k) = true) := hid (decide_eq_true (List.ext_getElem? fun j => by
          by_cases q : j < l.length
          · exact hs.out j (by omega)
          · rw [List.getElem?_eq_none (by omega), List.getElem?_eq_none (by have := hh.out; omega)]))
        go_wp2_with fail
        go_ret
        exact ⟨ret_b he.out.symm, hb⟩
  · have hne : Hid (decide (l = k) = false) := hid (decide_eq_false (fun e => h (by rw [e])))
    have d0 : ((l.length : Int) == (k.length : Int)) = false := by rw [beq_eq_false_iff_ne]; omega
    have d1 : ((l.length : Int) != (k.length : Int)) = true := by simp [bne, d0]
    clear h
    go_enter Tryd.func10, Tryd.ntmps10
    go_wp2_with fail
    go_ret
    exact ⟨ret_b hne.out.symm, Below.refl _ _⟩

/-! ### wakes -/
theorem wk_od : od [0, 1, 3] = [0, 1, 2] := by decide +kernel
theorem wk_rd : rdn [0, 1, 3] 1 = 2 := by decide +kernel
theorem wk_dp : dps [0, 1, 3] = [1, 2, 3] := by decide +kernel
theorem wk_bl : bl 5 = [0, 2] := by decide +kernel
theorem wk_ok : MOk [0, 1, 3] := by intro x hx; simp at hx; omega
theorem wk_b : IsB [0, 1, 3] ((0 : Nat) : Int) 6 := by
  have h0 := bf_start (M := [0, 1, 3]) (a := 0) (by decide)
  have h1 := (bf_step (by decide) h0).1
  have e1 : fnb [0, 1, 3] 0 (2 ^ 0) = 6 := by decide +kernel
  rw [e1] at h1
  have h2 := (bf_step (by decide) h1).1
  have e2 : fnb [0, 1, 3] (0 ||| 6) 6 = 0 := by decide +kernel
  rw [e2] at h2
  exact bf_end h2
theorem nI_is (o : List Nat) : nI o = (o.map fun i : Nat => (i : Int)).map (Value.int .i64) := by simp [nI]
/-- What a call has made, as numbers. -/
theorem own_nI {w : World} {base : Nat} {v : Value} {o : List Nat} (h : w.ownsRow base 3 1 v o.length (nI o)) : ∃ a cap, v = .slice a (o.map fun i : Nat => (i : Int)).length cap ∧ Is w a (o.map fun i : Nat => (i : Int)) := by
  have h' : w.ownsRow base 3 1 v (o.map fun i : Nat => (i : Int)).length ((o.map fun i : Nat => (i : Int)).map (Value.int .i64)) := by
    rw [List.length_map, ← nI_is]; exact h
  obtain ⟨a, cap, e, _, _, hI⟩ := own_is h'
  exact ⟨a, cap, e, hI⟩
theorem cell_at_new (w : World) (c : Array Value) (t : TypeId) {i : Nat} {v : Value} (h : c[i]? = some v) : (w.alloc (.cells c t)).cell? ⟨w.heap.size, 0 + i, none⟩ = some v := by
  have hb := World.alloc_heap_new w (.cells c t)
  rw [Nat.zero_add]
  unfold World.cell?
  rw [hb]
  exact h
theorem is3 (w : World) (x y z : Int) (t : TypeId) : Is (w.alloc (.cells #[.int .i64 x, .int .i64 y, .int .i64 z] t)) (some ⟨w.heap.size, 0, none⟩) [x, y, z] := by
  refine .inr ⟨_, 0, rfl, by simp, fun i v hv => ?_⟩
  refine cell_at_new w _ t ?_
  match i, hv with
  | 0, hv => simp at hv; subst hv; rfl
  | 1, hv => simp at hv; subst hv; rfl
  | 2, hv => simp at hv; subst hv; rfl
theorem is2 (w : World) (x y : Int) (t : TypeId) : Is (w.alloc (.cells #[.int .i64 x, .int .i64 y] t)) (some ⟨w.heap.size, 0, none⟩) [x, y] := by
  refine .inr ⟨_, 0, rfl, by simp, fun i v hv => ?_⟩
  refine cell_at_new w _ t ?_
  match i, hv with
  | 0, hv => simp at hv; subst hv; rfl
  | 1, hv => simp at hv; subst hv; rfl
theorem ms3 (w : World) (t : TypeId) : Ms (w.alloc (.cells #[.int .u32 0, .int .u32 1, .int .u32 3] t)) (some ⟨w.heap.size, 0, none⟩) [0, 1, 3] := by
  refine .inr ⟨_, 0, rfl, by simp, fun i v hv => ?_⟩
  refine cell_at_new w _ t ?_
  match i, hv with
  | 0, hv => simp at hv; subst hv; rfl
  | 1, hv => simp at hv; subst hv; rfl
  | 2, hv => simp at hv; subst hv; rfl

set_option maxRecDepth 100000 in
set_option maxHeartbeats 12800000 in
theorem wakes {w : World} (hT : Tab w) : Calls Tryd.prog 9 #[] w fun e w' => e = .returned (.bool true) ∧ Below w.heap.size w w' := by
  have hT0 := hT.lt
  have B0 := hid (al w (.cells #[.int .u32 0, .int .u32 1, .int .u32 3] 28))
  have HM := hid (ms3 w 28)
  have HT := hid (hT.below hT0 B0.out)
  have z0 : 0 < (w.alloc (.cells #[.int .u32 0, .int .u32 1, .int .u32 3] 28)).heap.size := by simp
  have zz : w.heap.size < (w.alloc (.cells #[.int .u32 0, .int .u32 1, .int .u32 3] 28)).heap.size := by simp
  clear hT
  go_enter Tryd.func9, Tryd.ntmps9
  go_wp2_with fail
  obtain ⟨X, hX⟩ : ∃ X, Hid (X = w.alloc (.cells #[.int .u32 0, .int .u32 1, .int .u32 3] 28)) := ⟨_, hid rfl⟩
  rw [← hX.out] at HM HT B0 z0 zz ⊢
  refine (order (M := [0, 1, 3]) HM.out wk_ok HT.out).mono ?_
  rintro e w1 ⟨v, rfl, own, b1⟩
  rw [wk_od] at own
  obtain ⟨a1, c1, rfl, I1⟩ := own_nI own
  have HI1 := hid I1
  clear own I1
  go_wp2_with fail
  have A1 := hid (al w1 (.cells #[.int .i64 0, .int .i64 1, .int .i64 2] 3))
  have b1' := hid (b1.trans (A1.out.mono b1.size))
  refine (equal (HI1.out.below A1.out) (is3 w1 0 1 2 3) (by simp) (by simp)).mono ?_
  rintro e w2 ⟨rfl, b2⟩
  rw [show decide ((([0, 1, 2] : List Nat).map fun i : Nat => (i : Int)) = [0, 1, 2]) = true by decide]
  have b2' := hid (b1'.out.trans (b2.mono b1'.out.size))
  clear b1 A1 b1' b2 HI1
  go_wp2_with fail
  refine (ready (D := 1) (HM.out.below b2'.out) wk_ok (by decide) (HT.out.below z0 b2'.out)).mono ?_
  rintro e w3 ⟨rfl, b3⟩
  rw [wk_rd]
  have b3' := hid (b2'.out.trans (b3.mono b2'.out.size))
  clear b2' b3
  go_wp2_with fail
  refine (behind (n := 0) (HM.out.below b3'.out) wk_ok (HT.out.below z0 b3'.out) (by decide)).mono ?_
  rintro e w4 ⟨⟨b, rfl, hb⟩, b4⟩
  obtain rfl := hb.one wk_b
  have b4' := hid (b3'.out.trans (b4.mono b3'.out.size))
  clear b3' b4 hb
  go_wp2_with fail
  refine (depths (HM.out.below b4'.out) wk_ok (HT.out.below z0 b4'.out)).mono ?_
  rintro e w5 ⟨⟨H, rfl, I5⟩, b5⟩
  rw [wk_dp] at I5
  have HI5 := hid I5
  have b5' := hid (b4'.out.trans (b5.mono b4'.out.size))
  clear b4' b5 I5
  go_wp2_with fail
  have A5 := hid (al w5 (.cells #[.int .i64 1, .int .i64 2, .int .i64 3] 3))
  have b5'' := hid (b5'.out.trans (A5.out.mono b5'.out.size))
  refine (equal (HI5.out.below A5.out) (is3 w5 1 2 3 3) (by simp) (by simp)).mono ?_
  rintro e w6 ⟨rfl, b6⟩
  rw [show decide (([1, 2, 3] : List Int) = [1, 2, 3]) = true by decide]
  have b6' := hid (b5''.out.trans (b6.mono b5''.out.size))
  clear b5' A5 b5'' b6 HI5
  go_wp2_with fail
  refine (list (x := 5) (by decide) (HT.out.below z0 b6'.out)).mono ?_
  rintro e w7 ⟨v, rfl, own, b7⟩
  rw [wk_bl] at own
  obtain ⟨a7, c7, rfl, I7⟩ := own_nI own
  have HI7 := hid I7
  have b7' := hid (b6'.out.trans (b7.mono b6'.out.size))
  clear own I7 b6' b7
  go_wp2_with fail
  have A7 := hid (al w7 (.cells #[.int .i64 0, .int .i64 2] 3))
  have b7'' := hid (b7'.out.trans (A7.out.mono b7'.out.size))
  refine (equal (HI7.out.below A7.out) (is2 w7 0 2 3) (by simp) (by simp)).mono ?_
  rintro e w8 ⟨rfl, b8⟩
  rw [show decide ((([0, 2] : List Nat).map fun i : Nat => (i : Int)) = [0, 2]) = true by decide]
  have b8' := hid (b7''.out.trans (b8.mono b7''.out.size))
  clear b7' A7 b7'' b8 HI7
  go_wp2_with fail
  go_ret
  refine ⟨rfl, ?_⟩
  have hsz : w.heap.size ≤ X.heap.size := by omega
  have := B0.out
  exact this.trans (b8'.out.mono hsz)

end Go.Proofs.YtcojpajmeacpiaaDoor.Wry
