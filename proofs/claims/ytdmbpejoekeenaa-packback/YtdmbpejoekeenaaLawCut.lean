/-
  The walk of the law PackCuts: it returns true. Nothing that was in memory has turned. Conditions: the items can be read, the text's length is at most 2^47.
-/
import Derived.Test.YtdmbpejoekeenaaLawPut
import Derived.Test.YtdmbpejoekeenaaGetV
import Derived.Test.YtdmbpejoekeenaaMathI
namespace Go.Proofs.Ytdmbpejoekeenaa.Wq
open Go.ChangeShapes Go.WideShapes Go.ChangeAt Go.RowKit Go.Proofs.Ytdmbpejoekeenaa.M Go.Proofs.Ytdmbpejoekeenaa.We Go.Proofs.Ytdmbpejoekeenaa.Wn Go.Proofs.Ytdmbpejoekeenaa.Wf Go.Proofs.Ytdmbpejoekeenaa.Wu

theorem empty_of {t : ByteArray} (h : t.size = 0) : t.toList.isEmpty = true := by
  rw [ByteArray.toList_eq]
  have h1 : t.data.toList.length = t.size := Array.length_toList
  simp
  have : t.data.size = 0 := h
  exact Array.eq_empty_of_size_eq_zero this
theorem some_of {t : ByteArray} (h : ¬ t.size = 0) : t.toList.isEmpty = false := by
  rw [ByteArray.toList_eq]
  have h1 : t.data.toList.length = t.size := Array.length_toList
  cases hh : t.data.toList with
  | nil => rw [hh] at h1; simp at h1; omega
  | cons => rfl
/-- The bytes of a value weigh what it weighs. -/
theorem enc_weight {k n : Int} {t : ByteArray} {l : F} {b : List UInt8} (hb : encV k n t l = .ok b) : b.length = wt1 k n t l.wt := enc1_size (fun _ h => encF_size h) hb

set_option maxHeartbeats 4000000 in
set_option maxRecDepth 100000 in
theorem cuts (p1 : Option Addr) (n1 cap1 : Nat) (cut : Int) (more : ByteArray) (w : World) (h1 : Its w p1 n1) (hc0 : -9223372036854775808 ≤ cut) (hc1 : cut < 9223372036854775808) (hmo : more.size ≤ 140737488355328) :
    Calls Try.prog 8 #[.slice p1 n1 cap1, .int .i64 cut, .string more] w fun e w' => e = .returned (.bool true) ∧ Below w.heap.size w w' := by
  have H1 : Hid _ := h1
  clear h1
  go_enter Try.func8, Try.ntmps8
  go_wp2_with fail
  refine (build _ _ _ _ H1.out).mono ?_
  rintro e w1 ⟨k, m, s, f, q1, q2, c1, c2, rfl, r1, r2, ho, hn, b1⟩
  have R1 : Hid _ := r1
  have HO : Hid _ := ho
  have HW : Hid (wt1 k m s f.wt ≤ 140737488355328) := wt1_le ho (by omega)
  clear r1 r2 ho
  go_wp2_with fail
  obtain ⟨X, hX⟩ : ∃ X, X = (w1.alloc (.cells #[.int .i64 k, .int .i64 m, .string s, .slice q1 f.len c1] 26)).alloc (.cells #[.int .i64 k, .int .i64 m, .string s, .slice q2 f.len c2] 29) := ⟨_, rfl⟩
  rw [← hX]
  obtain ⟨x1, x2, x3, x4⟩ := alloc2 _ _ _ X hX
  have bX : Below w.heap.size w X := b1.trans (x4.mono b1.size)
  have X4 : Hid _ := x4
  clear hX x1 x2 x3 x4
  obtain ⟨r, hr⟩ : ∃ r, Hid (r = encV k m s f) := ⟨_, rfl⟩
  obtain ⟨U, hU⟩ : ∃ U, Hid (U = bytesB r) := ⟨_, rfl⟩
  obtain ⟨C, hC⟩ : ∃ C, Hid (C = codeOf r) := ⟨_, rfl⟩
  refine (Wu.put k m s f _ _ _ X HO.out (rd_below R1.out X4.out) HW.out).mono ?_
  rintro e w2 ⟨rfl, b2⟩
  rw [← hr.out, ← hU.out, ← hC.out]
  have hB2 : Below w.heap.size w w2 := bX.trans (b2.mono bX.size)
  clear b1 b2 bX R1 H1 hn
  cases r with
  | error c =>
    have hc : Hid (C ≠ 0) := by
      have h1 : C = c := hC.out
      rw [h1]
      exact Wo.code_some (fun e he => Wo.codeF he) (show enc1 k m s f.len 0 (encF f (0 + 1)) = .error c from hr.out.symm)
    have hc' : (C != 0) = true := by simpa using hc.out
    go_wp2_with fail
    refine (Wv.wakes _).mono ?_
    rintro e w3 ⟨rfl, b3⟩
    go_wp2_with fail
    refine (Wv.wakes _).mono ?_
    rintro e w4 ⟨rfl, b4⟩
    go_wp2_with fail
    go_ret
    have hB3 := hB2.trans (b3.mono hB2.size)
    exact ⟨rfl, hB3.trans (b4.mono hB3.size)⟩
  | ok b =>
    have hC0 : C = 0 := hC.out
    subst hC0
    have hUb : Hid (U = ⟨b.toArray⟩) := hU.out
    have hUz : Hid (U.size = b.length) := by
      show U.size = b.length
      rw [hUb.out]
      show b.toArray.size = _
      rw [List.size_toArray]
    have hb0 : b ≠ [] := enc1_some (show enc1 k m s f.len 0 (encF f (0 + 1)) = .ok b from hr.out.symm)
    have hU1 : 1 ≤ U.size := by have h1 := List.length_pos_iff.2 hb0; have h2 := hUz.out; omega
    have hU2 : U.size ≤ 140737488355328 := by have h1 := enc_weight hr.out.symm; have h2 := HW.out; have h3 := hUz.out; omega
    have CA : Hid (∀ i, i < U.size → codeOf (allR (U.extract 0 i)) = 3) := fun i hi => by
      have h2 := hUz.out
      rw [hUb.out, all_cut HO.out hr.out.symm (by omega)]; rfl
    have CB : Hid (codeOf (allR (U ++ more)) = if more.size = 0 then 0 else 4) := by
      show _ = _
      rw [hUb.out, all_more HO.out hr.out.symm more]
      split <;> rfl
    clear hb0
    obtain ⟨i, hi, hi1⟩ : ∃ i : Nat, max 0 cut % (U.size : Int) = (i : Int) ∧ i < U.size := by
      have g0 : 0 ≤ max 0 cut % (U.size : Int) := Int.emod_nonneg _ (by omega)
      have g1 : max 0 cut % (U.size : Int) < (U.size : Int) := Int.emod_lt_of_pos _ (by omega)
      exact ⟨(max 0 cut % (U.size : Int)).toNat, by omega, by omega⟩
    have hUe := some_of (t := U) (by omega)
    have hz1 : (U.extract 0 i).size ≤ maxLen := by rw [ByteArray.size_extract]; unfold maxLen; omega
    have hz2 : (U ++ more).size ≤ maxLen := by rw [size_app]; unfold maxLen; omega
    have CG1 := Wr.hid (fun W => Wr.get (U.extract 0 i) W hz1)
    have CG2 := Wr.hid (fun W => Wr.get (U ++ more) W hz2)
    rw [CA.out i hi1] at CG1
    rw [CB.out] at CG2
    clear hz1 hz2
    go_wp2_with fail
    refine (Wv.wakes _).mono ?_
    rintro e w3 ⟨rfl, b3⟩
    have hB3 := hB2.trans (b3.mono hB2.size)
    clear hB2 b3
    go_wp2_with fail
    refine (CG1.out _).mono ?_
    rintro e w4 ⟨p4, c4, rfl, _, b4⟩
    have hB4 := hB3.trans (b4.mono hB3.size)
    clear hB3 b4
    by_cases cm : more.size = 0
    · rw [if_pos cm] at CG2
      have hme := empty_of cm
      go_wp2_with fail
      refine (CG2.out _).mono ?_
      rintro e w5 ⟨p5, c5, rfl, _, b5⟩
      go_wp2_with fail
      go_ret
      have s4 := hB4.size
      have hB5 := (hB4.alloc s4 _).trans (b5.mono (by simp; omega))
      exact ⟨rfl, hB5.alloc hB5.size _⟩
    · rw [if_neg cm] at CG2
      have hme := some_of cm
      go_wp2_with fail
      refine (CG2.out _).mono ?_
      rintro e w5 ⟨p5, c5, rfl, _, b5⟩
      go_wp2_with fail
      go_ret
      have s4 := hB4.size
      have hB5 := (hB4.alloc s4 _).trans (b5.mono (by simp; omega))
      exact ⟨rfl, hB5.alloc hB5.size _⟩

end Go.Proofs.Ytdmbpejoekeenaa.Wq
