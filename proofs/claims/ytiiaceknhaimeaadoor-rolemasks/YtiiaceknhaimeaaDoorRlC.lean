/-
  The walks of role.Least, Find and Name and of the document's Mask, Least, Name and Find: each returns what 'le', 'fnd', 'nmI', 'mk' say, and nothing that was in memory has turned. Conditions: the numbers fit their kinds; the tables of masks and of names hold what they were laid with.
-/
import Derived.Test.YtiiaceknhaimeaaDoorRlB
namespace Go.Proofs.YtiiaceknhaimeaaDoor.Wrl
open Go.ChangeShapes Go.WideShapes Go.ChangeAt Go.RowKit Go.Proofs.YtiiaceknhaimeaaDoor.M

set_option maxRecDepth 100000 in
theorem least (o : Int) (w : World) (hT : TabM w) :
    Calls Tryd.prog 10 #[.int .i64 o] w fun e w' => e = .returned (.int .i64 (le o)) ∧ w = w' := by
  have CA := hid (fun (r : Nat) (hr : r < 5) => allows (r : Int) o w (by omega) (by omega) hT)
  have L5 := hid (le_hi o)
  clear hT
  go_enter Tryd.func10, Tryd.ntmps10
  go_wp2
  go_loop [4] (fun iv => ∃ i : Nat, i ≤ 5 ∧ iv = .int .i64 (i : Int) ∧ (i : Int) ≤ le o) (fun i => 5 - (intOf i).toNat)
  case atStart => exact ⟨0, by omega, rfl, by have := le_lo o; omega⟩
  case round =>
    obtain ⟨i, hi, rfl, hle⟩ := hrel
    by_cases hlt : i < 5
    · have C := hid (CA.out i hlt)
      have HL := hid hle
      by_cases ha : al (i : Int) o = true
      · rw [ha] at C
        have E := hid (le_at hle ha)
        clear ha hle
        go_wp2_with fail
        refine C.out.mono ?_
        rintro e w1 ⟨rfl, rfl⟩
        go_wp2
        go_ret
        exact ⟨by rw [E.out] <;> rfl, rfl⟩
      · have ha' : al (i : Int) o = false := by simpa using ha
        rw [ha'] at C
        have E := hid (le_up hlt hle ha')
        clear ha ha' hle
        go_wp2_with fail
        refine C.out.mono ?_
        rintro e w1 ⟨rfl, rfl⟩
        go_wp2
        go_round
        case rel => exact ⟨i + 1, by omega, by go_num, E.out⟩
        case measure => simp [intOf] <;> omega
    · obtain rfl : i = 5 := by omega
      have E : Hid (le o = 5) := by have := L5.out; show le o = 5; omega
      clear hle
      go_wp2
      go_ret
      exact ⟨by rw [E.out] <;> rfl, rfl⟩

set_option maxRecDepth 100000 in
theorem leastRef (o : Int) (w : World) :
    Calls Tryd.prog 12 #[.int .i64 o] w fun e w' => e = .returned (.int .i64 (le o)) ∧ w = w' := by
  have CA := hid (fun (r : Nat) => allowsRef (r : Int) o w)
  have L5 := hid (le_hi o)
  go_enter Tryd.func12, Tryd.ntmps12
  go_wp2
  go_loop [3] (fun iv => ∃ i : Nat, i ≤ 5 ∧ iv = .int .i64 (i : Int) ∧ (i : Int) ≤ le o) (fun i => 5 - (intOf i).toNat)
  case atStart => exact ⟨0, by omega, rfl, by have := le_lo o; omega⟩
  case round =>
    obtain ⟨i, hi, rfl, hle⟩ := hrel
    by_cases hlt : i < 5
    · have C := hid (CA.out i)
      have HL := hid hle
      by_cases ha : al (i : Int) o = true
      · rw [ha] at C
        have E := hid (le_at hle ha)
        clear ha hle
        go_wp2_with fail
        refine C.out.mono ?_
        rintro e w1 ⟨rfl, rfl⟩
        go_wp2
        go_ret
        exact ⟨by rw [E.out] <;> rfl, rfl⟩
      · have ha' : al (i : Int) o = false := by simpa using ha
        rw [ha'] at C
        have E := hid (le_up hlt hle ha')
        clear ha ha' hle
        go_wp2_with fail
        refine C.out.mono ?_
        rintro e w1 ⟨rfl, rfl⟩
        go_wp2
        go_round
        case rel => exact ⟨i + 1, by omega, by go_num, E.out⟩
        case measure => simp [intOf] <;> omega
    · obtain rfl : i = 5 := by omega
      have E : Hid (le o = 5) := by have := L5.out; show le o = 5; omega
      clear hle
      go_wp2
      go_ret
      exact ⟨by rw [E.out] <;> rfl, rfl⟩

theorem pow_le {k : Nat} (h : k < 10) : 2 ^ k ≤ 512 := by
  have : k = 0 ∨ k = 1 ∨ k = 2 ∨ k = 3 ∨ k = 4 ∨ k = 5 ∨ k = 6 ∨ k = 7 ∨ k = 8 ∨ k = 9 := by omega
  rcases this with rfl | rfl | rfl | rfl | rfl | rfl | rfl | rfl | rfl | rfl <;> decide
/-- A power of two, behind a name. -/
def p2 (k : Nat) : Nat := 2 ^ k

set_option maxRecDepth 100000 in
theorem maskRef (r : Int) (w : World) :
    Calls Tryd.prog 11 #[.int .i64 r] w fun e w' => e = .returned (.int .u32 (mk r)) ∧ w = w' := by
  have CA := hid (fun (o : Nat) => allowsRef r (o : Int) w)
  have PE := hid (pm_end r)
  go_enter Tryd.func11, Tryd.ntmps11
  go_wp2
  go_loop [3, 4, 5] (fun mv pv ov => ∃ k : Nat, k ≤ 10 ∧ ov = .int .i64 (k : Int) ∧ mv = .int .u32 ((pm r k : Nat) : Int) ∧ pv = .int .u32 ((p2 k : Nat) : Int)) (fun _ _ o => 10 - (intOf o).toNat)
  case atStart => exact ⟨0, by omega, rfl, rfl, rfl⟩
  case round =>
    obtain ⟨k, hk, rfl, rfl, rfl⟩ := hrel
    by_cases hlt : k < 10
    · have C := hid (CA.out k)
      have h1 : pm r k < p2 k := pm_lt r k
      have h2 : p2 k ≤ 512 := pow_le hlt
      have S : Hid (pm r (k + 1) = pm r k + if al r (k : Int) = true then p2 k else 0) := rfl
      have S2 : Hid (p2 (k + 1) = p2 k * 2) := Nat.pow_succ ..
      generalize pm r k = M at h1 S
      generalize p2 k = P at h1 h2 S S2
      by_cases ha : al r (k : Int) = true
      · rw [ha] at C
        have S' : Hid (pm r (k + 1) = M + P) := by have := S.out; rwa [if_pos ha] at this
        clear ha S
        go_wp2_with fail
        refine C.out.mono ?_
        rintro e w1 ⟨rfl, rfl⟩
        go_wp2
        go_round
        case rel => exact ⟨k + 1, by omega, by go_num, by rw [S'.out]; go_num, by rw [S2.out]; go_num⟩
        case measure => simp [intOf] <;> omega
      · have ha' : al r (k : Int) = false := by simpa using ha
        rw [ha'] at C
        have S' : Hid (pm r (k + 1) = M) := by have := S.out; rwa [if_neg ha] at this
        clear ha ha' S
        go_wp2_with fail
        refine C.out.mono ?_
        rintro e w1 ⟨rfl, rfl⟩
        go_wp2
        go_round
        case rel => exact ⟨k + 1, by omega, by go_num, by rw [S'.out], by rw [S2.out]; go_num⟩
        case measure => simp [intOf] <;> omega
    · obtain rfl : k = 10 := by omega
      go_wp2
      go_ret
      exact ⟨by rw [← PE.out] <;> rfl, rfl⟩

set_option maxRecDepth 100000 in
theorem name (o : Int) (w : World) (hT : TabN w) :
    Calls Tryd.prog 15 #[.int .i64 o] w fun e w' => e = .returned (.string (nmI o)) ∧ w = w' := by
  have CK := hid (known o w)
  by_cases c : 0 ≤ o ∧ o < 10
  · rw [show knB o = true from decide_eq_true c] at CK
    obtain ⟨n, rfl⟩ : ∃ n : Nat, o = (n : Int) := ⟨o.toNat, by omega⟩
    have hn : n < 10 := by omega
    have hc := hT n hn
    rw [nmI_nat hn]
    generalize nm n = S at hc
    clear c hT
    go_enter Tryd.func15, Tryd.ntmps15
    go_wp2_with fail
    refine CK.out.mono ?_
    rintro e w1 ⟨rfl, rfl⟩
    go_wp2
    go_ret
    exact ⟨rfl, rfl⟩
  · rw [show knB o = false from decide_eq_false c] at CK
    rw [nmI_no (o := o) (by omega)]
    clear c hT
    go_enter Tryd.func15, Tryd.ntmps15
    go_wp2_with fail
    refine CK.out.mono ?_
    rintro e w1 ⟨rfl, rfl⟩
    go_wp2
    go_ret
    exact ⟨rfl, rfl⟩

set_option maxRecDepth 100000 in
theorem nameRef (o : Int) (w : World) :
    Calls Tryd.prog 16 #[.int .i64 o] w fun e w' => e = .returned (.string (nmI o)) ∧ w = w' := by
  by_cases c : 0 ≤ o ∧ o < 10
  · obtain ⟨n, rfl⟩ : ∃ n : Nat, o = (n : Int) := ⟨o.toNat, by omega⟩
    have hn : n = 0 ∨ n = 1 ∨ n = 2 ∨ n = 3 ∨ n = 4 ∨ n = 5 ∨ n = 6 ∨ n = 7 ∨ n = 8 ∨ n = 9 := by omega
    clear c
    rcases hn with rfl | rfl | rfl | rfl | rfl | rfl | rfl | rfl | rfl | rfl
    all_goals
      go_enter Tryd.func16, Tryd.ntmps16
      go_wp2
      go_ret
      exact ⟨rfl, rfl⟩
  · rw [nmI_no (o := o) (by omega)]
    have n0 : ¬ o = 0 := by omega
    have n1 : ¬ o = 1 := by omega
    have n2 : ¬ o = 2 := by omega
    have n3 : ¬ o = 3 := by omega
    have n4 : ¬ o = 4 := by omega
    have n5 : ¬ o = 5 := by omega
    have n6 : ¬ o = 6 := by omega
    have n7 : ¬ o = 7 := by omega
    have n8 : ¬ o = 8 := by omega
    have n9 : ¬ o = 9 := by omega
    clear c
    go_enter Tryd.func16, Tryd.ntmps16
    go_wp2
    go_ret
    exact ⟨rfl, rfl⟩

/-- What the code asks: are the two texts the same? -/
theorem same_list (a b : ByteArray) : (a.toList == b.toList) = decide (a = b) := by
  by_cases h : a = b
  · rw [decide_eq_true h, h]
    simp
  · rw [decide_eq_false h]
    have : ¬ a.toList = b.toList := fun e => h (by
      rw [ByteArray.toList_eq, ByteArray.toList_eq] at e
      exact ByteArray.ext (Array.toList_inj.1 e))
    simpa using this

set_option maxRecDepth 100000 in
theorem find (s : ByteArray) (w : World) (hT : TabN w) :
    Calls Tryd.prog 13 #[.string s] w fun e w' => e = .returned (.tuple #[.int .i64 (fnd s 0 10).1, .bool (fnd s 0 10).2]) ∧ w = w' := by
  have HT := hid hT
  generalize hR : fnd s 0 10 = R
  have HR := hid hR
  clear hT hR
  go_enter Tryd.func13, Tryd.ntmps13
  go_wp2
  go_loop [5] (fun iv => ∃ i k : Nat, i + k = 10 ∧ iv = .int .i64 (i : Int) ∧ fnd s i k = R) (fun i => 10 - (intOf i).toNat)
  case atStart => exact ⟨0, 10, rfl, rfl, HR.out⟩
  case round =>
    obtain ⟨i, k, hik, rfl, hf⟩ := hrel
    match k, hik, hf with
    | 0, hik, hf =>
      obtain rfl : i = 10 := by omega
      have HF : Hid (R = (0, false)) := hf.symm
      clear hf HR hik
      go_wp2
      go_ret2
      exact ⟨by rw [HF.out] <;> rfl, rfl⟩
    | k + 1, hik, hf =>
      have hi : i < 10 := by omega
      have hc := HT.out i hi
      have sl := same_list (nm i) s
      have HF := hid hf
      have hik' : i + 1 + k = 10 := by omega
      clear HR hf hik
      by_cases ha : nm i = s
      · rw [decide_eq_true ha] at sl
        have HF' : Hid (R = ((i : Int), true)) := HF.out.symm.trans (fnd_yes ha)
        generalize nm i = S at hc sl
        clear ha HF
        go_wp2
        go_ret2
        exact ⟨by rw [HF'.out] <;> rfl, rfl⟩
      · rw [decide_eq_false ha] at sl
        have HF' : Hid (fnd s (i + 1) k = R) := (fnd_no ha).symm.trans HF.out
        generalize nm i = S at hc sl
        clear ha HF
        go_wp2
        go_round
        case rel => exact ⟨i + 1, k, hik', by go_num, HF'.out⟩
        case measure => simp [intOf] <;> omega

set_option maxRecDepth 100000 in
theorem findRef (s : ByteArray) (w : World) :
    Calls Tryd.prog 14 #[.string s] w fun e w' => e = .returned (.tuple #[.int .i64 (fnd s 0 10).1, .bool (fnd s 0 10).2]) ∧ w = w' := by
  have CN := hid (fun (o : Nat) => nameRef (o : Int) w)
  generalize hR : fnd s 0 10 = R
  have HR := hid hR
  clear hR
  go_enter Tryd.func14, Tryd.ntmps14
  go_wp2
  go_loop [4] (fun iv => ∃ i k : Nat, i + k = 10 ∧ iv = .int .i64 (i : Int) ∧ fnd s i k = R) (fun i => 10 - (intOf i).toNat)
  case atStart => exact ⟨0, 10, rfl, rfl, HR.out⟩
  case round =>
    obtain ⟨i, k, hik, rfl, hf⟩ := hrel
    match k, hik, hf with
    | 0, hik, hf =>
      obtain rfl : i = 10 := by omega
      have HF : Hid (R = (0, false)) := hf.symm
      clear hf HR hik
      go_wp2
      go_ret2
      exact ⟨by rw [HF.out] <;> rfl, rfl⟩
    | k + 1, hik, hf =>
      have hi : i < 10 := by omega
      have C := hid (CN.out i)
      rw [nmI_nat hi] at C
      have sl := same_list (nm i) s
      have HF := hid hf
      have hik' : i + 1 + k = 10 := by omega
      clear HR hf hik
      by_cases ha : nm i = s
      · rw [decide_eq_true ha] at sl
        have HF' : Hid (R = ((i : Int), true)) := HF.out.symm.trans (fnd_yes ha)
        generalize nm i = S at C sl
        clear ha HF
        go_wp2_with fail
        refine C.out.mono ?_
        rintro e w1 ⟨rfl, rfl⟩
        go_wp2
        go_ret2
        exact ⟨by rw [HF'.out] <;> rfl, rfl⟩
      · rw [decide_eq_false ha] at sl
        have HF' : Hid (fnd s (i + 1) k = R) := (fnd_no ha).symm.trans HF.out
        generalize nm i = S at C sl
        clear ha HF
        go_wp2_with fail
        refine C.out.mono ?_
        rintro e w1 ⟨rfl, rfl⟩
        go_wp2
        go_round
        case rel => exact ⟨i + 1, k, hik', by go_num, HF'.out⟩
        case measure => simp [intOf] <;> omega

end Go.Proofs.YtiiaceknhaimeaaDoor.Wrl
