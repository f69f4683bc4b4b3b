/-
  The contracts of the document's Ready and Order. Conditions: the masks lie in memory.
-/
import Derived.Test.YtcojpajmeacpiaaDoorRyE
import Derived.Test.YtcojpajmeacpiaaDoorRyD
namespace Go.Proofs.YtcojpajmeacpiaaDoor.Wry
open Go.ChangeShapes Go.WideShapes Go.ChangeAt Go.RowKit Go.Shelf Go.Proofs.YtcojpajmeacpiaaDoor.M

theorem bsm_rdn {M : List Nat} {D : Nat} {p : Nat → Bool} (h : ∀ j, j < nn M → p j = isR M D.testBit j) : bsm p (nn M) = rdn M D := by
  apply Nat.eq_of_testBit_eq
  intro i
  rw [bsm_bit, rdn_bit]
  by_cases c : i < nn M
  · rw [decide_eq_true c, h i c]; rfl
  · unfold isR; rw [decide_eq_false c]; rfl
theorem set_row {w : World} {g n i : Nat} {p q : Nat → Bool} {b : Bool} (h : w.rowIs g 4 n (fun j => .bool (p j))) (hq : ∀ j, q j = if j = i then b else p j) : (w.setCell ⟨g, i, none⟩ (.bool b)).rowIs g 4 n (fun j => .bool (q j)) :=
  (h.set i _).congr fun j _ => by rw [hq]; by_cases e : j = i <;> simp [e]
theorem two (w : World) (n : Nat) (f : Nat → Value) (g : Nat) (c : Array Value) (h : w.rowIs g 4 n f) : (w.alloc (.cells c 4)).rowIs g 4 n f := h.alloc _
theorem row_other {w : World} {g k n i : Nat} {f : Nat → Value} {v : Value} (h : w.rowIs g 4 n f) (hk : g ≠ k) : (w.setCell ⟨k, i, none⟩ v).rowIs g 4 n f := h.of_block (Below.heap_setCell _ _ _ _ hk)

set_option maxRecDepth 100000 in
set_option maxHeartbeats 4000000 in
theorem readyR {w : World} {a : Option Addr} {M : List Nat} {cap D : Nat} (h : Ms w a M) (hM : MOk M) (hD : D < 4294967296) :
    Calls Tryd.prog 16 #[.slice a M.length cap, .int .u32 (D : Int)] w fun e w' => e = .returned (.int .u32 (rdn M D : Int)) ∧ Below w.heap.size w w' := by
  have HM := hid h
  have hn := nn_le M
  have hmk := hid (madeB (nn M) (by omega))
  have hbit := hid (fun (k : Nat) (W : World) => bitR D k W hD)
  have R1 := hid (World.rowIs_made w (.bool false) (nn M) 4)
  have hwt := hid (fun (W : World) (b : Below w.heap.size w W) (g i : Nat) (p : Nat → Bool) (hi : i < nn M) (hr : W.rowIs g 4 (nn M) (fun j => .bool (p j))) => waitsR (cap := cap) (h.below b) hM hi hn hr)
  have hcnt := hid (countR M a cap w)
  have hfin := hid (fun (p : Nat → Bool) (hp : ∀ j, j < nn M → p j = isR M D.testBit j) => bsm_rdn hp)
  have hisR := hid (fun (i : Nat) (hi : i < nn M) => (show isR M D.testBit i = (!D.testBit i && !wai M D.testBit i (nn M)) by unfold isR; rw [decide_eq_true hi]; rfl))
  have hwc := hid (fun (p : Nat → Bool) (i : Nat) (hp : ∀ k, k < nn M → p k = D.testBit k) => (wai_congr hp : wai M p i (nn M) = wai M D.testBit i (nn M)))
  generalize nn M = n at *
  clear h
  go_enter Tryd.func16, Tryd.ntmps16
  go_wp2_with fail
  refine hcnt.out.mono ?_
  rintro e w1 ⟨rfl, rfl⟩
  have hmk' := hmk.out
  go_wp2_with fail
  clear hmk'
  go_loopw [7] (fun iv wr => ∃ i : Nat, i ≤ n ∧ iv = .int .i64 (i : Int) ∧ Hid (wr.rowIs w.heap.size 4 n (fun j => .bool (decide (j < i) && D.testBit j))) ∧ Below w.heap.size w wr) (fun iv _ => n - (intOf iv).toNat)
  case atStart => exact ⟨0, Nat.zero_le _, rfl, hid (R1.out.congr fun j _ => by simp), al w _⟩
  case round =>
    obtain ⟨i, hi, rfl, HR, hb⟩ := hrel
    by_cases c : i < n
    · have C := hid (hbit.out i wr)
      have x0 := HR.out.cell c
      have x1 := HR.out.frozen i
      go_wp2_with fail
      refine C.out.mono ?_
      rintro e w1 ⟨rfl, rfl⟩
      go_wp2_with fail
      go_roundw
      case rel => exact ⟨i + 1, c, by go_num, hid (set_row HR.out fun j => by
        by_cases e : j = i
        · rw [if_pos e, e, decide_eq_true (by omega), Bool.true_and]
        · rw [if_neg e]
          congr 1
          exact decide_eq_decide.2 (by omega)), hb.setCell (p := ⟨w.heap.size, i, none⟩) (Nat.le_refl _) _⟩
      case measure => simp [intOf]; omega
    · obtain rfl : i = n := by omega
      have HR' : Hid (wr.rowIs w.heap.size 4 i (fun j => .bool (D.testBit j))) := hid (HR.out.congr fun j hj => by rw [decide_eq_true hj, Bool.true_and])
      have R2 := hid (World.rowIs_made wr (.bool false) i 4)
      have hmk' := hmk.out
      have hlt := HR.out.lt
      obtain ⟨Q, hQ⟩ : ∃ Q, Hid (Q = wr.heap.size) := ⟨_, hid rfl⟩
      rw [← hQ.out] at R2
      clear HR
      go_wp2_with fail
      clear hmk'
      rw [← hQ.out]
      have hlt2 : w.heap.size < Q := by rw [hQ.out]; exact hlt
      go_loopw [9] (fun iv wq => ∃ k : Nat, k ≤ i ∧ iv = .int .i64 (k : Int) ∧ Hid (wq.rowIs w.heap.size 4 i (fun j => .bool (D.testBit j))) ∧ Hid (wq.rowIs Q 4 i (fun j => .bool (decide (j < k) && isR M D.testBit j))) ∧ Below w.heap.size w wq) (fun iv _ => i - (intOf iv).toNat)
      case atStart => exact ⟨0, Nat.zero_le _, rfl, hid (HR'.out.alloc _), hid (R2.out.congr fun j _ => by simp), hb.alloc hb.size _⟩
      case round =>
        clear HR' R2 hb hlt hQ
        obtain ⟨k, hk, rfl, HR, HQ, hb⟩ := hrel
        by_cases ck : k < i
        · have C := hid (hwt.out _ hb w.heap.size k D.testBit ck HR.out)
          have x0 := HQ.out.cell ck
          have x1 := HQ.out.frozen k
          have y0 := HR.out.cell ck
          have hk2 := hid (hisR.out k ck)
          go_wp2_with fail
          refine C.out.mono ?_
          rintro e w1 ⟨rfl, rfl⟩
          clear C
          have fin : ∀ b : Bool, isR M D.testBit k = b → Hid ((wr.setCell ⟨Q, k, none⟩ (.bool b)).rowIs Q 4 i (fun j => .bool (decide (j < k + 1) && isR M D.testBit j))) := fun b hb' => hid (set_row HQ.out fun j => by
            by_cases e : j = k
            · rw [if_pos e, e, decide_eq_true (by omega), Bool.true_and, hb']
            · rw [if_neg e]
              congr 1
              exact decide_eq_decide.2 (by omega))
          have FIN := hid fin
          clear fin
          rcases e1 : D.testBit k with _ | _
          · rw [e1] at y0 hk2
            rcases e2 : wai M D.testBit k i with _ | _
            all_goals
              rw [e2] at hk2
              clear e1 e2
              go_wp2_with fail
              go_roundw
              case rel => exact ⟨k + 1, ck, by go_num, hid (row_other HR.out (by omega)), FIN.out _ (by rw [hk2.out]; rfl), hb.setCell (p := ⟨Q, k, none⟩) (by show w.heap.size ≤ Q; omega) _⟩
              case measure => simp [intOf]; omega
          · rw [e1] at y0 hk2
            clear e1
            go_wp2_with fail
            go_roundw
            case rel => exact ⟨k + 1, ck, by go_num, hid (row_other HR.out (by omega)), FIN.out _ (by rw [hk2.out]; rfl), hb.setCell (p := ⟨Q, k, none⟩) (by show w.heap.size ≤ Q; omega) _⟩
            case measure => simp [intOf]; omega
        · obtain rfl : k = i := by omega
          have C := hid (number hn HQ.out)
          have hf := hid (hfin.out (fun j => decide (j < k) && isR M D.testBit j) fun j hj => by rw [decide_eq_true hj, Bool.true_and])
          rw [hf.out] at C
          go_wp2_with fail
          refine C.out.mono ?_
          rintro e w1 ⟨rfl, rfl⟩
          go_wp2_with fail
          go_ret
          exact ⟨rfl, hb⟩

/-- How far the order has come: those placed, and what is still to come. -/
def OrO (M : List Nat) (k : Nat) (o : List Nat) (P : Nat) : Prop := P < 4294967296 ∧ o.length ≤ k ∧ k ≤ nn M ∧ o ++ ord M (nn M - k) P = od M
def OrI (M : List Nat) (k i : Nat) (o : List Nat) (P : Nat) : Prop := OrO M k o P ∧ k < nn M ∧ ∀ j, j < i → isR M P.testBit j = false
theorem or_start (M : List Nat) : OrO M 0 [] 0 := ⟨by decide, by simp, Nat.zero_le _, by simp [od]⟩
theorem or_none {M : List Nat} {k : Nat} {o : List Nat} {P : Nat} (h : OrI M k (nn M) o P) : OrO M (k + 1) o P := by
  obtain ⟨⟨h1, h2, h3, h4⟩, hk, h5⟩ := h
  have hz := rd_zero h5
  rw [ord_none hz] at h4
  exact ⟨h1, by omega, hk, by rw [ord_none hz]; exact h4⟩
theorem or_put {M : List Nat} {k i : Nat} {o : List Nat} {P : Nat} (h : OrI M k i o P) (hi : i < nn M) (hr : isR M P.testBit i = true) : OrO M (k + 1) (o ++ [i]) (P ||| 2 ^ i) := by
  obtain ⟨⟨h1, h2, h3, h4⟩, hk, h5⟩ := h
  obtain ⟨hn, hc⟩ := rd_at hr h5
  obtain ⟨f, hf⟩ : ∃ f, nn M - k = f + 1 := ⟨nn M - k - 1, by omega⟩
  rw [hf, ord_some hn, hc] at h4
  refine ⟨put_lt h1 (by have := nn_le M; omega), by simp; omega, hk, ?_⟩
  rw [show nn M - (k + 1) = f by omega, List.append_assoc]
  exact h4
theorem or_end {M : List Nat} {o : List Nat} {P : Nat} (h : OrO M (nn M) o P) : o = od M := by
  have := h.2.2.2
  rw [Nat.sub_self] at this
  simpa [ord] using this
/-- Numbers as cells. -/
def nI (o : List Nat) : List Value := o.map fun i : Nat => Value.int .i64 (i : Int)

end Go.Proofs.YtcojpajmeacpiaaDoor.Wry
