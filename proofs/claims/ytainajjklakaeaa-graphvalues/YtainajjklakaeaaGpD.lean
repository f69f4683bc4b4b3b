/-
  The contracts of soundDeps and what it goes by (slices.Contains, slices.Index), and of the document's deps and Waits. Conditions: the nodes lie in memory.
-/
import Derived.Test.YtainajjklakaeaaGpN
namespace Go.Proofs.Ytainajjklakaeaa.Wgp
open Go.ChangeShapes Go.WideShapes Go.ChangeAt Go.RowKit Go.Proofs.Ytainajjklakaeaa.M Go.Proofs.Ytainajjklakaeaa.Wg

theorem in_take {l : List ByteArray} {i : Nat} {d s : ByteArray} (hd : l[i]? = some d) (h : s ∈ l.take (i + 1)) : s ∈ l.take i ∨ s = d := by
  rw [List.take_add_one, hd] at h
  rcases List.mem_append.1 h with h | h
  · exact .inl h
  · simp at h; exact .inr h
theorem bmem_take {l : List ByteArray} {s : ByteArray} (h : s ∉ l.take l.length) : bmem s l = false := bmem_no (by rw [List.take_length] at h; exact h)

set_option maxRecDepth 100000 in
theorem contains {w : World} {a : Option Addr} {l : List ByteArray} {cap : Nat} (s : ByteArray) (h : Ss w a l) (hl : l.length ≤ 4194304) :
    Calls Try.prog 38 #[.slice a l.length cap, .string s] w fun e w' => e = .returned (.bool (bmem s l)) ∧ w = w' := by
  have C : Hid (Calls Try.prog 41 #[.slice a l.length cap, .string s] w fun e w' => (∃ i : Int, e = .returned (.int .i64 i) ∧ (decide (0 ≤ i) = bmem s l)) ∧ w = w') := by
    have H := hid h
    clear h
    show Calls _ _ _ _ _
    go_enter Try.func41, Try.ntmps41
    go_wp2_with fail
    go_loop [8] (fun iv => ∃ i : Nat, i ≤ l.length ∧ iv = .int .i64 (i : Int) ∧ Hid (s ∉ l.take i)) (fun iv => l.length - (intOf iv).toNat)
    case atStart => exact ⟨0, Nat.zero_le _, rfl, by show ¬ _; simp⟩
    case round =>
      obtain ⟨i, hi, rfl, hno⟩ := hrel
      by_cases ci : i < l.length
      · obtain ⟨d, hd⟩ : ∃ d, l[i]? = some d := ⟨l[i], List.getElem?_eq_getElem ci⟩
        obtain ⟨g, rfl, hg, y0⟩ := H.out.at hd
        have hd' := hid hd
        clear hd H
        by_cases e : s = d
        · have E1 := str_eq e
          have R : Hid (decide (0 ≤ (i : Int)) = bmem s l) := by
            have h1 : bmem s l = true := bmem_iff.2 (e ▸ List.mem_of_getElem? hd'.out)
            show _ = _
            rw [h1]
            exact decide_eq_true (by omega)
          clear e
          go_wp2
          go_ret
          exact ⟨⟨_, rfl, R.out⟩, rfl⟩
        · have E1 := str_ne e
          have hno' : Hid (s ∉ l.take (i + 1)) := fun h => by
            rcases in_take hd'.out h with h | h
            · exact hno.out h
            · exact e h
          clear e hno
          go_wp2
          go_round
          case rel => exact ⟨i + 1, ci, by go_num, hno'⟩
          case measure => simp [intOf]; omega
      · have e : i = l.length := by omega
        subst e
        have R : Hid (bmem s l = false) := bmem_take hno.out
        clear hno
        go_wp2
        go_ret
        exact ⟨⟨_, rfl, by rw [R.out]; rfl⟩, rfl⟩
  clear h
  go_enter Try.func38, Try.ntmps38
  go_wp2_with fail
  refine C.out.mono ?_
  rintro e w1 ⟨⟨i, rfl, hb⟩, rfl⟩
  clear C
  by_cases c : 0 ≤ i
  · have B : Hid (bmem s l = true) := hid (by rw [← hb]; exact decide_eq_true c)
    clear hb
    go_wp2_with fail
    go_ret
    exact ⟨ret_b B.out.symm, rfl⟩
  · have B := hid hb
    have B2 : Hid (bmem s l = false) := hid (by rw [← hb]; exact decide_eq_false c)
    clear hb
    go_wp2_with fail
    go_ret
    exact ⟨(by first | exact ret_b B2.out.symm | exact ret_b B.out), rfl⟩

theorem dp_yes {L : List Nd} {l : List ByteArray} (h : ∀ (k : Nat) d, k < l.length → l[k]? = some d → 0 ≤ fnd L d ∧ d ∉ l.take k) : dOk L l = true :=
  dOk_yes fun k d hd => h k d (List.getElem?_eq_some_iff.1 hd).1 hd

set_option maxRecDepth 100000 in
set_option maxHeartbeats 3200000 in
theorem soundDeps {w : World} {a da : Option Addr} {L : List Nd} {cap dc : Nat} {l : List ByteArray} (h : Ns w a L) (hl : L.length ≤ 4194304) (hD : Ss w da l) (hd : l.length ≤ 400) (hdc : l.length ≤ dc) :
    Calls Try.prog 31 #[.slice da l.length dc, .slice a L.length cap] w fun e w' => e = .returned (.bool (dOk L l)) ∧ Below w.heap.size w w' := by
  have H := hid h
  have HD := hid hD
  clear h hD
  go_enter Try.func31, Try.ntmps31
  go_wp2_with fail
  go_loopw [9] (fun iv wr => ∃ i : Nat, i ≤ l.length ∧ iv = .int .i64 (i : Int) ∧ Hid (∀ (k : Nat) d, k < i → l[k]? = some d → 0 ≤ fnd L d ∧ d ∉ l.take k) ∧ Below w.heap.size w wr) (fun iv _ => l.length - (intOf iv).toNat)
  case atStart => exact ⟨0, Nat.zero_le _, rfl, fun j y hj => absurd hj (Nat.not_lt_zero j), Below.refl _ _⟩
  case round =>
    obtain ⟨i, hi, rfl, hno, hb⟩ := hrel
    by_cases ci : i < l.length
    · obtain ⟨d, hx⟩ : ∃ d, l[i]? = some d := ⟨l[i], List.getElem?_eq_getElem ci⟩
      have hx' := hid hx
      obtain ⟨g, rfl, hg, y0'⟩ := HD.out.at hx
      have y0 := (hb.cell (p := ⟨g, i, none⟩) hg).trans y0'
      have CF := hid (find (cap := cap) d (H.out.below hb) hl)
      have CC := hid fun (W : World) (b : Below w.heap.size w W) => contains (cap := dc) d ((HD.out.below b).take i) (by rw [List.length_take]; omega)
      have hlt : (l.take i).length = i := by rw [List.length_take]; omega
      rw [hlt] at CC
      clear hx H HD y0' hlt
      by_cases e1 : fnd L d < 0
      · have R : Hid (dOk L l = false) := dOk_no hx'.out (.inl e1)
        clear CC hno
        go_wp2_with fail
        refine CF.out.mono ?_
        rintro e w2 ⟨rfl, b2⟩
        go_wp2_with fail
        go_ret
        exact ⟨ret_b R.out.symm, hb.trans (b2.mono hb.size)⟩
      · rcases e2 : bmem d (l.take i) with _ | _
        · have hno' : Hid (∀ (k : Nat) d, k < i + 1 → l[k]? = some d → 0 ≤ fnd L d ∧ d ∉ l.take k) := fun k y hk hy => by
            by_cases c : k = i
            · subst c
              rw [hx'.out] at hy
              injection hy with hy
              subst hy
              exact ⟨by omega, fun hm => by rw [bmem_iff.2 hm] at e2; cases e2⟩
            · exact hno.out k y (by omega) hy
          rw [e2] at CC
          clear e2 hno
          go_wp2_with fail
          refine CF.out.mono ?_
          rintro e w2 ⟨rfl, b2⟩
          have C2 := hid (CC.out _ (hb.trans (b2.mono hb.size)))
          clear CC CF
          go_wp2_with fail
          refine C2.out.mono ?_
          rintro e w3 ⟨rfl, rfl⟩
          clear C2
          go_wp2_with fail
          go_roundw
          case rel => exact ⟨i + 1, ci, by go_num, hno', hb.trans (b2.mono hb.size)⟩
          case measure => simp [intOf]; omega
        · have R : Hid (dOk L l = false) := dOk_no hx'.out (.inr (bmem_iff.1 e2))
          rw [e2] at CC
          clear e2 hno
          go_wp2_with fail
          refine CF.out.mono ?_
          rintro e w2 ⟨rfl, b2⟩
          have C2 := hid (CC.out _ (hb.trans (b2.mono hb.size)))
          clear CC CF
          go_wp2_with fail
          refine C2.out.mono ?_
          rintro e w3 ⟨rfl, rfl⟩
          clear C2
          go_wp2_with fail
          go_ret
          exact ⟨ret_b R.out.symm, hb.trans (b2.mono hb.size)⟩
    · have e : i = l.length := by omega
      subst e
      have R : Hid (dOk L l = true) := dp_yes hno.out
      clear hno
      go_wp2_with fail
      go_ret
      exact ⟨ret_b R.out.symm, hb⟩

theorem drewB {w W : World} {n q : Nat} (b : Below n w W) : Below n w (W.drewN q) := ⟨b.os, b.tape, b.output, b.size, b.block⟩
theorem mem_upto {l : List ByteArray} {s : ByteArray} {m : Nat} (h : ∀ (k : Nat) d, k < m → l[k]? = some d → d ≠ s) (hm : m = l.length) : bmem s l = false :=
  bmem_no fun hs => by
    obtain ⟨k, hk⟩ := List.mem_iff_getElem?.1 hs
    exact h k s (by have := (List.getElem?_eq_some_iff.1 hk).1; omega) hk rfl

theorem F2.drew {w : World} {P q : Nat} {nm : ByteArray} {v : Value} (h : F2 w P nm v) : F2 (w.drewN q) P nm v := h

end Go.Proofs.Ytainajjklakaeaa.Wgp
