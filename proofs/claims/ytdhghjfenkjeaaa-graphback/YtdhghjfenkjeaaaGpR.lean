/-
  The contracts of the document's Behind and Check. Conditions: the nodes lie in memory, their numbers fit a machine.
-/
import Derived.Test.YtdhghjfenkjeaaaGpC
import Derived.Laws.OwnMore
namespace Go.Proofs.Ytdhghjfenkjeaaa.Wgp
open Go.ChangeShapes Go.WideShapes Go.ChangeAt Go.RowKit Go.Proofs.Ytdhghjfenkjeaaa.M Go.Proofs.Ytdhghjfenkjeaaa.Wg

/-! ### what the search holds -/
def BhI (W : Nat → Nat → Bool) (n k : Nat) (r : Nat → Bool) : Prop := r k = true ∧ ∀ j, r j = true → j < n ∧ (j = k ∨ war W n j k = true)
def BhO (W : Nat → Nat → Bool) (n i k s : Nat) (r : Nat → Bool) : Prop := BhI W n k r ∧ (s < cnt r n ∨ war W n i k = false)
def BhM (W : Nat → Nat → Bool) (n i k s a : Nat) (r : Nat → Bool) : Prop := ∃ r0, BhO W n i k s r0 ∧ BhI W n k r ∧ (∀ j, r0 j = true → r j = true) ∧ ∀ x y, x < a → W x y = true → r0 y = true → r x = true ∧ x ≠ i
def BhN (W : Nat → Nat → Bool) (n i k s a b : Nat) (r : Nat → Bool) : Prop := ∃ r0, BhO W n i k s r0 ∧ BhI W n k r ∧ (∀ j, r0 j = true → r j = true) ∧ (∀ x y, x < a → W x y = true → r0 y = true → r x = true ∧ x ≠ i) ∧ ∀ y, y < b → W a y = true → r0 y = true → r a = true ∧ a ≠ i

theorem bh_start (W : Nat → Nat → Bool) {n k : Nat} (i : Nat) (hk : k < n) : BhO W n i k 0 (fun j => decide (j = k)) :=
  ⟨⟨by simp, fun j hj => by have := of_decide_eq_true hj; subst this; exact ⟨hk, .inl rfl⟩⟩, .inl (cnt_pos hk (by simp))⟩
theorem bh_m {W : Nat → Nat → Bool} {n i k s : Nat} {r : Nat → Bool} (h : BhO W n i k s r) : BhM W n i k s 0 r := ⟨r, h, h.1, fun _ h => h, fun _ _ h => absurd h (Nat.not_lt_zero _)⟩
theorem bh_n {W : Nat → Nat → Bool} {n i k s a : Nat} {r : Nat → Bool} (h : BhM W n i k s a r) : BhN W n i k s a 0 r := by
  obtain ⟨r0, h1, h2, h3, h4⟩ := h
  exact ⟨r0, h1, h2, h3, h4, fun _ h => absurd h (Nat.not_lt_zero _)⟩
theorem bh_row {W : Nat → Nat → Bool} {n i k s a : Nat} {r : Nat → Bool} (hW : ∀ x y, W x y = true → y < n) (h : BhN W n i k s a n r) : BhM W n i k s (a + 1) r := by
  obtain ⟨r0, h1, h2, h3, h4, h5⟩ := h
  refine ⟨r0, h1, h2, h3, fun x y hx hw hr => ?_⟩
  by_cases e : x = a
  · subst e; exact h5 y (hW _ _ hw) hw hr
  · exact h4 x y (by omega) hw hr
theorem bh_round {W : Nat → Nat → Bool} {n i k s : Nat} {r : Nat → Bool} (hW : ∀ x y, W x y = true → x < n) (h : BhM W n i k s n r) : BhO W n i k (s + 1) r := by
  obtain ⟨r0, h1, h2, h3, h4⟩ := h
  refine ⟨h2, ?_⟩
  rcases h1.2 with h5 | h5
  · by_cases e : ∃ j, r0 j = false ∧ r j = true
    · obtain ⟨j, e1, e2⟩ := e
      have := cnt_more h3 (h2.2 j e2).1 e1 e2
      exact .inl (by omega)
    · right
      refine war_no (r := r0) (fun x y hw hr => ?_) h1.1.1
      obtain ⟨q1, q2⟩ := h4 x y (hW _ _ hw) hw hr
      refine ⟨?_, q2⟩
      rcases e3 : r0 x with _ | _
      · exact absurd ⟨x, e3, q1⟩ e
      · rfl
  · exact .inr h5
theorem bh_end {W : Nat → Nat → Bool} {n i k : Nat} {r : Nat → Bool} (h : BhO W n i k n r) : war W n i k = false := by
  rcases h.2 with h | h
  · have := cnt_le r n; omega
  · exact h
theorem bh_skip {W : Nat → Nat → Bool} {n i k s a b : Nat} {r : Nat → Bool} (h : BhN W n i k s a b r) (hs : W a b = false ∨ r b = false) : BhN W n i k s a (b + 1) r := by
  obtain ⟨r0, h1, h2, h3, h4, h5⟩ := h
  refine ⟨r0, h1, h2, h3, h4, fun y hy hw hr => ?_⟩
  by_cases e : y = b
  · subst e
    rcases hs with hs | hs
    · rw [hs] at hw; cases hw
    · rw [h3 _ hr] at hs; cases hs
  · exact h5 y (by omega) hw hr
theorem bh_war {W : Nat → Nat → Bool} {n i k s a b : Nat} {r : Nat → Bool} (h : BhN W n i k s a b r) (hw : W a b = true) (hr : r b = true) : war W n a k = true := by
  obtain ⟨r0, h1, h2, h3, h4, h5⟩ := h
  obtain ⟨q1, q2⟩ := h2.2 b hr
  rcases q2 with rfl | q2
  · exact war_of n hw
  · exact war_trans q1 (war_of n hw) q2
theorem bh_put {W : Nat → Nat → Bool} {n i k s a b : Nat} {r : Nat → Bool} (ha : a < n) (h : BhN W n i k s a b r) (hw : W a b = true) (hr : r b = true) (hi : a ≠ i) : BhN W n i k s a (b + 1) (fun j => if j = a then true else r j) := by
  have hwar := bh_war h hw hr
  obtain ⟨r0, h1, h2, h3, h4, h5⟩ := h
  refine ⟨r0, h1, ⟨?_, ?_⟩, ?_, ?_, ?_⟩
  · show (if k = a then true else r k) = true
    split
    · rfl
    · exact h2.1
  · intro j hj
    by_cases e : j = a
    · subst e; exact ⟨ha, .inr hwar⟩
    · simp only [if_neg e] at hj
      exact h2.2 j hj
  · intro j hj
    show (if j = a then true else r j) = true
    split
    · rfl
    · exact h3 j hj
  · intro x y hx hw hr
    show (if x = a then true else r x) = true ∧ _
    rw [if_neg (by omega)]
    exact h4 x y hx hw hr
  · intro y _ _ _
    exact ⟨by simp, hi⟩

theorem infoB : (Try.prog.info? 4).map (fun i => (i.zero, i.size, i.bytes)) = some (some (.bool false), 1, 1) := by kernel_rfl
theorem madeB (n : Nat) (hn : n ≤ 1048576) (u : World) : (Instr.makeSlice 100 (.int .i64 (n : Int)) (.int .i64 (n : Int))).run Try.prog u = .ok (.slice (some ⟨u.heap.size, 0, none⟩) n n) (u.alloc (.cells (madeCells #[.bool false] n) 4)) := by
  obtain ⟨i0, hi, hz0, hz1, hz2⟩ := info_parts infoB
  have h := run_make (P := Try.prog) u 100 4 i0 (.bool false) Try.underlying100 hi hz0 .i64 .i64 (n : Int) (n : Int) (by omega) (by omega) (by rw [hz2]; omega) (by omega)
  simpa [hz1, Value.cells] using h
theorem first_row (w : World) (k n : Nat) : (w.alloc (.cells ((madeCells #[.bool false] n).setIfInBounds k (.bool true)) 4)).rowIs w.heap.size 4 n (fun j => .bool (decide (j = k))) := by
  have hs : ((madeCells #[.bool false] n).setIfInBounds k (.bool true)).size = n := by simp [size_madeCells]
  have h := World.rowIs_alloc w ((madeCells #[.bool false] n).setIfInBounds k (.bool true)) 4 (fun j => .bool (decide (j = k))) (fun i hi => by
    rw [hs] at hi
    have h0 : (madeCells #[.bool false] n)[i]? = some (.bool false) := by
      rw [← Array.getElem?_toList, toList_madeCells_one, List.getElem?_replicate, if_pos hi]
    rw [Array.getElem?_setIfInBounds]
    by_cases e : k = i
    · subst e; simp [size_madeCells, hi]
    · rw [if_neg e, h0, decide_eq_false (fun q => e q.symm)])
  rw [hs] at h
  exact h
theorem F2.setOther {w : World} {P Q j : Nat} {nm : ByteArray} {v u : Value} (h : F2 w P nm v) (hn : P ≠ Q) : F2 (w.setCell ⟨Q, j, none⟩ u) P nm v := by
  refine ⟨?_, ?_⟩
  · rw [World.cell?_of_block (w := w) (Below.heap_setCell _ _ _ _ hn)]; exact h.1
  · rw [World.cell?_of_block (w := w) (Below.heap_setCell _ _ _ _ hn)]; exact h.2

set_option maxRecDepth 100000 in
set_option maxHeartbeats 12800000 in
theorem behindRef {w : World} {a : Option Addr} {L : List Nd} {cap i k : Nat} (nm : ByteArray) (h : Ns w a L) (hl : L.length ≤ 20) (hi : i < L.length) (hk : k < L.length) (hok : ∀ x ∈ L, NdOk x) :
    Calls Try.prog 29 #[.agg #[.string nm, .slice a L.length cap], .int .i64 (i : Int), .int .i64 (k : Int), .int .i64 (L.length : Int)] w fun e w' => e = .returned (.bool (war (wts L) L.length i k)) ∧ Below w.heap.size w w' := by
  have CW := hid fun (W : World) (b : Below w.heap.size w W) (x y : Nat) (hx : x < L.length) (hy : y < L.length) => waitsRef (cap := cap) nm (h.below b) hx hy hok
  have hw1 : Hid (∀ x y, wts L x y = true → x < L.length) := fun x y h => (wts_lt h).1
  have hw2 : Hid (∀ x y, wts L x y = true → y < L.length) := fun x y h => (wts_lt h).2
  have hst := hid (bh_start (wts L) i hk)
  have hmk := hid (madeB L.length (by omega))
  have B0 := hid (al w (.cells #[.string nm, .slice a L.length cap] 30))
  have F0 := hid (box2 w 30 nm a L.length cap)
  have C1 := hid (CW.out _ B0.out i k hi hk)
  have l0 : ((L.length : Int) == 0) = false := by rw [beq_eq_false_iff_ne]; omega
  generalize wts L = V at C1 CW hw1 hw2 hst ⊢
  clear h hok
  go_enter Try.func29, Try.ntmps29
  go_wp2_with fail
  refine C1.out.mono ?_
  rintro e w1 ⟨rfl, b1⟩
  have z1 : w.heap.size < w1.heap.size := by have := b1.size; simp at this; omega
  have A1 := hid (B0.out.trans (b1.mono (by simp)))
  have F1 := hid (F0.out.below (by simp) b1)
  obtain ⟨f0, f1⟩ := F1.out
  clear C1 b1 F0 B0 l0
  rcases e1 : V i k with _ | _
  · have hmk' := hmk.out
    have R1 := hid (first_row w1 k L.length)
    have z2 : w.heap.size < (w1.alloc (.cells ((madeCells #[.bool false] L.length).setIfInBounds k (.bool true)) 4)).heap.size := by simp; omega
    have F3 := hid (F1.out.below z1 (al w1 (.cells ((madeCells #[.bool false] L.length).setIfInBounds k (.bool true)) 4)))
    have A2 := hid (A1.out.alloc A1.out.size (.cells ((madeCells #[.bool false] L.length).setIfInBounds k (.bool true)) 4))
    have x0 := (World.rowIs_made w1 (.bool false) L.length 4).cell hk
    have x1 := (World.rowIs_made w1 (.bool false) L.length 4).frozen k
    obtain ⟨Q, hQ⟩ : ∃ Q, Hid (Q = w1.heap.size) := ⟨_, rfl⟩
    clear e1
    go_wp2_with fail
    clear hmk hmk' x0 x1 f0 f1 F1
    have zQ : w.heap.size < w1.heap.size := z1
    have zB : w.heap.size ≤ w1.heap.size := A1.out.size
    clear z1
    generalize w1.heap.size = Q at *
    clear hQ
    go_loopw [11] (fun iv wr => ∃ (s : Nat) (r : Nat → Bool), s ≤ L.length ∧ iv = .int .i64 (s : Int) ∧ Hid (BhO V L.length i k s r) ∧ Hid (wr.rowIs Q 4 L.length (fun j => .bool (r j))) ∧ Below w.heap.size w wr ∧ w.heap.size < wr.heap.size ∧ Hid (F2 wr w.heap.size nm (.slice a L.length cap))) (fun iv _ => L.length - (intOf iv).toNat)
    case atStart => exact ⟨0, _, Nat.zero_le _, rfl, hst, R1, A2.out, z2, F3⟩
    case round =>
      clear R1 A2 F3 hst A1 z2
      obtain ⟨s, r, hs, rfl, hO, HR, hb, hz, HF⟩ := hrel
      by_cases cs : s < L.length
      · have hM := hid (bh_m hO.out)
        clear hO
        go_wp2_with fail
        go_loopw [12] (fun iv wr => ∃ (x : Nat) (r : Nat → Bool), x ≤ L.length ∧ iv = .int .i64 (x : Int) ∧ Hid (BhM V L.length i k s x r) ∧ Hid (wr.rowIs Q 4 L.length (fun j => .bool (r j))) ∧ Below w.heap.size w wr ∧ w.heap.size < wr.heap.size ∧ Hid (F2 wr w.heap.size nm (.slice a L.length cap))) (fun iv _ => L.length - (intOf iv).toNat)
        case atStart => exact ⟨0, r, Nat.zero_le _, rfl, hM, HR, hb, hz, HF⟩
        case round =>
          clear hM HR hb hz HF
          clear r
          obtain ⟨x, r, hx, rfl, hM, HR, hb, hz, HF⟩ := hrel
          obtain ⟨f0, f1⟩ := HF.out
          by_cases cx : x < L.length
          · have hN := hid (bh_n hM.out)
            clear hM
            go_wp2_with fail
            clear f0 f1
            go_loopw [13] (fun iv wr => ∃ (y : Nat) (r : Nat → Bool), y ≤ L.length ∧ iv = .int .i64 (y : Int) ∧ Hid (BhN V L.length i k s x y r) ∧ Hid (wr.rowIs Q 4 L.length (fun j => .bool (r j))) ∧ Below w.heap.size w wr ∧ w.heap.size < wr.heap.size ∧ Hid (F2 wr w.heap.size nm (.slice a L.length cap))) (fun iv _ => L.length - (intOf iv).toNat)
            case atStart => exact ⟨0, r, Nat.zero_le _, rfl, hN, HR, hb, hz, HF⟩
            case round =>
              clear hN HR hb hz HF
              clear r
              obtain ⟨y, r, hy, rfl, hN, HR, hb, hz, HF⟩ := hrel
              obtain ⟨f0, f1⟩ := HF.out
              by_cases cy : y < L.length
              · have C1 := hid (CW.out _ hb x y cx cy)
                have gl := HR.out.lt
                go_wp2_with fail
                refine C1.out.mono ?_
                rintro e w2 ⟨rfl, b2⟩
                have R2 : Hid (w2.rowIs Q 4 L.length (fun j => .bool (r j))) := hid (HR.out.of_block (b2.block _ gl))
                have gl2 : Q < w2.heap.size := R2.out.lt
                have F2' := hid (HF.out.below hz b2)
                have hz2 : w.heap.size < w2.heap.size := Nat.lt_of_lt_of_le hz b2.size
                have hb2 := hb.trans (b2.mono hb.size)
                clear C1 b2 HR HF hb hz f0 f1 gl
                rcases e1 : V x y with _ | _
                · have hN' := hid (bh_skip hN.out (.inl e1))
                  clear hN e1
                  go_wp2_with fail
                  go_roundw
                  case rel => exact ⟨y + 1, r, cy, by go_num, hN', R2, hb2, hz2, F2'⟩
                  case measure => simp [intOf]; omega
                · have x0 := R2.out.cell cy
                  have x1 := R2.out.frozen x
                  rcases e2 : r y with _ | _
                  · have hN' := hid (bh_skip hN.out (.inr e2))
                    rw [e2] at x0
                    clear hN e1 e2
                    go_wp2_with fail
                    go_roundw
                    case rel => exact ⟨y + 1, r, cy, by go_num, hN', R2, hb2, hz2, F2'⟩
                    case measure => simp [intOf]; omega
                  · rw [e2] at x0
                    by_cases e3 : x = i
                    · have R : Hid (war V L.length i k = true) := hid (by rw [← e3]; exact bh_war hN.out e1 e2)
                      have d1 : ((x : Int) == (i : Int)) = true := by simp [e3]
                      have d2 : decide ((x : Int) = (i : Int)) = true := by simp [e3]
                      clear hN e1 e2 e3
                      go_wp2_with fail
                      go_ret
                      exact ⟨ret_b R.out.symm, hb2⟩
                    · have hN' := hid (bh_put cx hN.out e1 e2 e3)
                      have d1 : ((x : Int) == (i : Int)) = false := by rw [beq_eq_false_iff_ne]; omega
                      have d2 : decide ((x : Int) = (i : Int)) = false := decide_eq_false (by omega)
                      have y0 := R2.out.cell cx
                      generalize r x = rx at y0
                      clear hN e1 e2 e3
                      go_wp2_with fail
                      go_roundw
                      case rel =>
                        refine ⟨y + 1, _, cy, by go_num, hN', hid ((R2.out.set x _).congr fun j _ => by by_cases e : j = x <;> simp [e]), hb2.setCell (p := ⟨Q, x, none⟩) (by show w.heap.size ≤ Q; omega) _, by simpa using hz2, hid (F2.setOther F2'.out (by omega))⟩
                      case measure => simp [intOf]; omega
              · have hM' := hid (bh_row hw2.out (by have := hN.out; rw [show y = L.length by omega] at this; exact this))
                clear hN
                go_wp2_with fail
                go_roundw
                case rel => exact ⟨x + 1, r, cx, by go_num, hM', HR, hb, hz, HF⟩
                case measure => simp [intOf]; omega
          · have hO' := hid (bh_round hw1.out (by have := hM.out; rw [show x = L.length by omega] at this; exact this))
            clear hM
            go_wp2_with fail
            go_roundw
            case rel => exact ⟨s + 1, r, cs, by go_num, hO', HR, hb, hz, HF⟩
            case measure => simp [intOf]; omega
      · have R : Hid (war V L.length i k = false) := hid (bh_end (by have := hO.out; rw [show s = L.length by omega] at this; exact this))
        clear hO
        go_wp2_with fail
        go_ret
        exact ⟨ret_b R.out.symm, hb⟩
  · have R : Hid (war V L.length i k = true) := hid (war_of _ e1)
    clear e1 hmk hst CW
    go_wp2_with fail
    go_ret
    exact ⟨ret_b R.out.symm, A1.out⟩

end Go.Proofs.Ytdhghjfenkjeaaa.Wgp
