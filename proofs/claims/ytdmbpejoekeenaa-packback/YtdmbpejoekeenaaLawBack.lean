/-
  The walk of the law PackBack: it returns true. Nothing that was in memory has turned. Conditions: the items can be read, the text's length is at most 2^47.
-/
import Derived.Test.YtdmbpejoekeenaaLawCut
import Derived.Test.YtdmbpejoekeenaaMathJ
namespace Go.Proofs.Ytdmbpejoekeenaa.Wq
open Go.ChangeShapes Go.WideShapes Go.ChangeAt Go.RowKit Go.Proofs.Ytdmbpejoekeenaa.M Go.Proofs.Ytdmbpejoekeenaa.We Go.Proofs.Ytdmbpejoekeenaa.Wn Go.Proofs.Ytdmbpejoekeenaa.Wf Go.Proofs.Ytdmbpejoekeenaa.Wu

theorem all_code {s : ByteArray} {c : Int} (h : allR s = .error c) : c ≠ 0 := by
  unfold allR at h
  cases hx : valR s 8 0 with
  | error e => rw [hx] at h; cases h; exact valR_code hx
  | ok x =>
    rw [hx] at h
    simp only at h
    split at h
    · cases h
    · cases h; decide

set_option maxHeartbeats 4000000 in
set_option maxRecDepth 100000 in
theorem back (p1 : Option Addr) (n1 cap1 : Nat) (t : ByteArray) (w : World) (h1 : Its w p1 n1) (ht : t.size ≤ 140737488355328) :
    Calls Try.prog 7 #[.slice p1 n1 cap1, .string t] w fun e w' => e = .returned (.bool true) ∧ Below w.heap.size w w' := by
  have H1 : Hid _ := h1
  clear h1
  obtain ⟨r2, hr2⟩ : ∃ r2, Hid (r2 = allR t) := ⟨_, rfl⟩
  have CS := Wr.hid (fun W => Wr.get t W (by unfold maxLen; omega))
  rw [← hr2.out] at CS
  have HC2 : Hid (∀ c, r2 = .error c → c ≠ 0) := fun c h => all_code (hr2.out ▸ h)
  have HV2 : Hid (∀ v, r2 = .ok v → encV v.k v.n v.s v.l = .ok t.data.toList ∧ (F.cons v.k v.n v.s v.l .nil).ok) := fun v h => all_back (hr2.out ▸ h)
  clear hr2
  go_enter Try.func7, Try.ntmps7
  go_wp2_with fail
  refine (build _ _ _ _ H1.out).mono ?_
  rintro e w1 ⟨k, m, s, f, q1, q2, c1, c2, rfl, r1, r2', ho, hn, b1⟩
  have R1 := Wr.hid r1
  have HO := Wr.hid ho
  have HW : Hid (wt1 k m s f.wt ≤ 140737488355328) := wt1_le ho (by omega)
  clear r1 r2' ho
  go_wp2_with fail
  obtain ⟨X, hX⟩ : ∃ X, X = (w1.alloc (.cells #[.int .i64 k, .int .i64 m, .string s, .slice q1 f.len c1] 26)).alloc (.cells #[.int .i64 k, .int .i64 m, .string s, .slice q2 f.len c2] 29) := ⟨_, rfl⟩
  rw [← hX]
  obtain ⟨x1, x2, x3, x4⟩ := alloc2 _ _ _ X hX
  have bX : Below w.heap.size w X := b1.trans (x4.mono b1.size)
  have X1 := Wr.hid x1
  have X4 := Wr.hid x4
  clear hX x1 x2 x3 x4
  obtain ⟨r, hr⟩ : ∃ r, Hid (r = encV k m s f) := ⟨_, rfl⟩
  obtain ⟨U, hU⟩ : ∃ U, Hid (U = bytesB r) := ⟨_, rfl⟩
  obtain ⟨C, hC⟩ : ∃ C, Hid (C = codeOf r) := ⟨_, rfl⟩
  refine (Wu.put k m s f _ _ _ X HO.out (rd_below R1.out X4.out) HW.out).mono ?_
  rintro e w2 ⟨rfl, b2⟩
  rw [← hr.out, ← hU.out, ← hC.out]
  have hB2 : Below w.heap.size w w2 := bX.trans (b2.mono bX.size)
  go_wp2_with fail
  refine (Wv.wakes _).mono ?_
  rintro e w3 ⟨rfl, b3⟩
  have KB := Wr.hid (hB2.trans (b3.mono hB2.size))
  have KX := Wr.hid (b2.trans (b3.mono b2.size))
  clear b1 b2 b3 bX hB2 H1 hn
  cases r with
  | error c =>
    have hc : Hid (C ≠ 0) := by
      have h1 : C = c := hC.out
      rw [h1]
      exact Wo.code_some (fun e he => Wo.codeF he) (show enc1 k m s f.len 0 (encF f (0 + 1)) = .error c from hr.out.symm)
    have hc' : (C == 0) = false := by simpa using hc.out
    go_wp2_with fail
    refine (CS.out _).mono ?_
    rintro e w7 ⟨p7, c7, rfl, R7, b7⟩
    have hB7 := Wr.hid (KB.out.trans (b7.mono KB.out.size))
    clear b7
    cases r2 with
    | error c =>
      have hc' : (c != 0) = true := by simpa using HC2.out c rfl
      have R7' := Wr.hid (rd_below R7.out ((Below.refl _ _).alloc (Nat.le_refl _) (.cells #[.int .i64 0, .int .i64 0, .string ⟨#[]⟩, .slice p7 F.nil.len c7] 26)))
      simp only [Wr.valOf, codeOf] at *
      go_wp2_with fail
      refine (We.equal 0 0 _ .nil _ 0 0 _ .nil _ _ _ _ R7'.out (rd_nil _ (fun _ => True))).mono ?_
      rintro e w8 ⟨rfl, b8⟩
      go_wp2_with fail
      go_ret
      have hB8 := hB7.out.alloc hB7.out.size (.cells #[.int .i64 0, .int .i64 0, .string ⟨#[]⟩, .slice p7 F.nil.len c7] 26)
      exact ⟨by simp [eq1], hB8.trans (b8.mono hB8.size)⟩
    | ok v2 =>
      have hv2 := HV2.out v2 rfl
      have R7' := Wr.hid (rd_below R7.out ((Below.refl _ _).alloc (Nat.le_refl _) (.cells #[.int .i64 v2.k, .int .i64 v2.n, .string v2.s, .slice p7 v2.l.len c7] 26)))
      have hW2 : wt1 v2.k v2.n v2.s v2.l.wt ≤ 140737488355328 := by have h1 := enc_weight hv2.1; have h2 : t.data.toList.length = t.size := Array.length_toList; omega
      have CP := Wr.hid (fun W hR => Wu.put v2.k v2.n v2.s v2.l p7 c7 (fun _ => True) W hv2.2 hR hW2)
      rw [hv2.1] at CP
      have et : bytesB (.ok t.data.toList) = t := by apply ByteArray.ext; simp [bytesB]
      rw [et] at CP
      clear hv2 hW2 et
      simp only [Wr.valOf, codeOf] at *
      go_wp2_with fail
      refine (CP.out _ (rd_of (fun _ _ => trivial) (fun _ _ _ h => h) R7'.out)).mono ?_
      rintro e w8 ⟨rfl, b8⟩
      go_wp2_with fail
      go_ret
      have hB8 := hB7.out.alloc hB7.out.size (.cells #[.int .i64 v2.k, .int .i64 v2.n, .string v2.s, .slice p7 v2.l.len c7] 26)
      exact ⟨rfl, hB8.trans (b8.mono hB8.size)⟩
  | ok b =>
    have hC0 : C = 0 := hC.out
    subst hC0
    have hUb : Hid (U = ⟨b.toArray⟩) := hU.out
    have hU2 : U.size ≤ 140737488355328 := by
      have h1 := enc_weight hr.out.symm; have h2 := HW.out
      rw [hUb.out]
      show b.toArray.size ≤ _
      rw [List.size_toArray]; omega
    have CG := Wr.hid (fun W => Wr.get U W (by unfold maxLen; omega))
    have eA : allR U = .ok (nrm1 k m s (nrm f)) := by rw [hUb.out]; exact all_same HO.out hr.out.symm
    have hEq : Hid _ := nrm1_eq hr.out.symm
    rw [eA] at CG
    simp only [Wr.valOf, codeOf] at CG
    generalize nrm1 k m s (nrm f) = v1 at *
    clear eA hU2
    go_wp2_with fail
    refine (CG.out _).mono ?_
    rintro e w4 ⟨p4, c4, rfl, R4, b4⟩
    have z4 := (b4.block _ (Nat.lt_of_lt_of_le (lt_of_heap X1.out) KX.out.size)).trans ((KX.out.block _ (lt_of_heap X1.out)).trans X1.out)
    have l4 := lt_of_heap z4
    have A1 := Wr.hid (rd_below (rd_below (rd_below (rd_below R1.out X4.out) KX.out) b4) ((Below.refl _ _).alloc (Nat.le_refl _) (.cells #[.int .i64 v1.k, .int .i64 v1.n, .string v1.s, .slice p4 v1.l.len c4] 26)))
    have A4 := Wr.hid (rd_below R4.out ((Below.refl _ _).alloc (Nat.le_refl _) (.cells #[.int .i64 v1.k, .int .i64 v1.n, .string v1.s, .slice p4 v1.l.len c4] 26)))
    have g0 : ∀ o, (w4.alloc o).cell? ⟨w1.heap.size, 0, none⟩ = some (.int .i64 k) := fun o => (four ((Below.heap_alloc w4 o _ l4).trans z4)).1
    have g1 : ∀ o, (w4.alloc o).cell? ⟨w1.heap.size, 1, none⟩ = some (.int .i64 m) := fun o => (four ((Below.heap_alloc w4 o _ l4).trans z4)).2.1
    have g2 : ∀ o, (w4.alloc o).cell? ⟨w1.heap.size, 2, none⟩ = some (.string s) := fun o => (four ((Below.heap_alloc w4 o _ l4).trans z4)).2.2.1
    have g3 : ∀ o, (w4.alloc o).cell? ⟨w1.heap.size, 3, none⟩ = some (.slice q1 f.len c1) := fun o => (four ((Below.heap_alloc w4 o _ l4).trans z4)).2.2.2
    have hB4 := Wr.hid (KB.out.trans (b4.mono KB.out.size))
    clear z4 b4 KB
    go_wp2_with fail
    refine (We.equal k m s f _ v1.k v1.n v1.s v1.l _ _ _ _ A1.out A4.out).mono ?_
    rintro e w5 ⟨rfl, b5⟩
    rw [hEq.out]
    have hB5 := hB4.out.alloc hB4.out.size (.cells #[.int .i64 v1.k, .int .i64 v1.n, .string v1.s, .slice p4 v1.l.len c4] 26)
    have KB := Wr.hid (hB5.trans (b5.mono hB5.size))
    clear b5 g0 g1 g2 g3 hB5
    go_wp2_with fail
    refine (CS.out _).mono ?_
    rintro e w7 ⟨p7, c7, rfl, R7, b7⟩
    have hB7 := Wr.hid (KB.out.trans (b7.mono KB.out.size))
    clear b7
    cases r2 with
    | error c =>
      have hc' : (c != 0) = true := by simpa using HC2.out c rfl
      have R7' := Wr.hid (rd_below R7.out ((Below.refl _ _).alloc (Nat.le_refl _) (.cells #[.int .i64 0, .int .i64 0, .string ⟨#[]⟩, .slice p7 F.nil.len c7] 26)))
      simp only [Wr.valOf, codeOf] at *
      go_wp2_with fail
      refine (We.equal 0 0 _ .nil _ 0 0 _ .nil _ _ _ _ R7'.out (rd_nil _ (fun _ => True))).mono ?_
      rintro e w8 ⟨rfl, b8⟩
      go_wp2_with fail
      go_ret
      have hB8 := hB7.out.alloc hB7.out.size (.cells #[.int .i64 0, .int .i64 0, .string ⟨#[]⟩, .slice p7 F.nil.len c7] 26)
      exact ⟨by simp [eq1], hB8.trans (b8.mono hB8.size)⟩
    | ok v2 =>
      have hv2 := HV2.out v2 rfl
      have R7' := Wr.hid (rd_below R7.out ((Below.refl _ _).alloc (Nat.le_refl _) (.cells #[.int .i64 v2.k, .int .i64 v2.n, .string v2.s, .slice p7 v2.l.len c7] 26)))
      have hW2 : wt1 v2.k v2.n v2.s v2.l.wt ≤ 140737488355328 := by have h1 := enc_weight hv2.1; have h2 : t.data.toList.length = t.size := Array.length_toList; omega
      have CP := Wr.hid (fun W hR => Wu.put v2.k v2.n v2.s v2.l p7 c7 (fun _ => True) W hv2.2 hR hW2)
      rw [hv2.1] at CP
      have et : bytesB (.ok t.data.toList) = t := by apply ByteArray.ext; simp [bytesB]
      rw [et] at CP
      clear hv2 hW2 et
      simp only [Wr.valOf, codeOf] at *
      go_wp2_with fail
      refine (CP.out _ (rd_of (fun _ _ => trivial) (fun _ _ _ h => h) R7'.out)).mono ?_
      rintro e w8 ⟨rfl, b8⟩
      go_wp2_with fail
      go_ret
      have hB8 := hB7.out.alloc hB7.out.size (.cells #[.int .i64 v2.k, .int .i64 v2.n, .string v2.s, .slice p7 v2.l.len c7] 26)
      exact ⟨rfl, hB8.trans (b8.mono hB8.size)⟩

end Go.Proofs.Ytdmbpejoekeenaa.Wq
