/-
  The walks of the laws MacTags, MacLays and MacWhole: each returns true, and nothing that was in memory has turned. Conditions: keys and texts fit a machine; the table of the rounds' numbers holds what it was laid with.
-/
import Derived.Test.YtpmmffihibhlhaaDoorRows
import Derived.Test.YtpmmffihibhlhaaDoorMMask
import Derived.Test.YtpmmffihibhlhaaDoorMRef
import Derived.WalkKit
import Derived.ProofKit
import Derived.OpenShut
import Derived.BigRegion
namespace Go.Proofs.YtpmmffihibhlhaaDoor.Wm
open Go.ChangeShapes Go.WideShapes Go.ChangeAt Go.RowKit Go.Proofs.YtpmmffihibhlhaaDoor.M Go.Proofs.YtpmmffihibhlhaaDoor.Wh

theorem least3 (l : Nat) : ∃ n : Nat, min (l : Int) 3000 = (n : Int) ∧ (if 3000 < (l : Int) then 3000 else (l : Int)) = (n : Int) ∧ n ≤ 3000 ∧ n ≤ l := ⟨min l 3000, by omega, by split <;> omega, by omega, by omega⟩

set_option maxRecDepth 100000 in
theorem lays (K : ByteArray) (w : World) (_ : K.size ≤ 140737488351232) (hT : Tab w) :
    Calls Tryd.prog 4 #[.string K] w fun e w' => e = .returned (.bool true) ∧ Below w.heap.size w w' := by
  obtain ⟨n, hn, hn0, hn1, hn2⟩ := least3 K.size
  have hes : (K.extract 0 n).size = n := by simp; omega
  have C0 : Hid (∀ w, Tab w → Calls Tryd.prog 10 #[.string ⟨#[]⟩] w fun e w' => e = .returned (.string (lay ⟨#[]⟩ 54)) ∧ Below w.heap.size w w') := fun w h => inner _ w (by decide) h
  have h0 := lay_size ⟨#[]⟩ 54
  generalize lay ⟨#[]⟩ 54 = R at C0 h0
  have C1 : Hid (∀ w, Tab w → Calls Tryd.prog 10 #[.string (K.extract 0 n)] w fun e w' => e = .returned (.string (lay (K.extract 0 n) 54)) ∧ Below w.heap.size w w') := fun w h => inner _ w (by omega) h
  have C2 : Hid (∀ w, Calls Tryd.prog 11 #[.string (K.extract 0 n)] w fun e w' => e = .returned (.string (lay (K.extract 0 n) 54)) ∧ Below w.heap.size w w') := fun w => Wl.inner _ w (by omega)
  have C3 : Hid (∀ w, Tab w → Calls Tryd.prog 12 #[.string (K.extract 0 n)] w fun e w' => e = .returned (.string (lay (K.extract 0 n) 92)) ∧ Below w.heap.size w w') := fun w h => outer _ w (by omega) h
  have C4 : Hid (∀ w, Calls Tryd.prog 13 #[.string (K.extract 0 n)] w fun e w' => e = .returned (.string (lay (K.extract 0 n) 92)) ∧ Below w.heap.size w w') := fun w => Wl.outer _ w (by omega)
  generalize lay (K.extract 0 n) 54 = A at C1 C2
  generalize lay (K.extract 0 n) 92 = B at C3 C4
  have HT : Hid (Tab w) := hT
  clear hT hes
  go_enter Tryd.func4, Tryd.ntmps4
  go_wp2_with fail
  refine (C0.out _ HT.out).mono ?_
  rintro e w1 ⟨rfl, b1⟩
  have h1 : Hid (Tab w1) := HT.out.below b1 HT.out.pos
  go_wp2_with fail
  refine (C1.out _ h1.out).mono ?_
  rintro e w2 ⟨rfl, b2⟩
  have c2 : Below w.heap.size w w2 := b1.trans (b2.mono b1.size)
  go_wp2_with fail
  refine (C2.out _).mono ?_
  rintro e w3 ⟨rfl, b3⟩
  have c3 : Below w.heap.size w w3 := c2.trans (b3.mono c2.size)
  have h3 : Hid (Tab w3) := HT.out.below c3 HT.out.pos
  go_wp2_with fail
  refine (C3.out _ h3.out).mono ?_
  rintro e w4 ⟨rfl, b4⟩
  have c4 : Below w.heap.size w w4 := c3.trans (b4.mono c3.size)
  go_wp2_with fail
  refine (C4.out _).mono ?_
  rintro e w5 ⟨rfl, b5⟩
  go_wp2
  go_ret
  exact ⟨rfl, c4.trans (b5.mono c4.size)⟩

set_option maxRecDepth 100000 in
theorem tags (K T : ByteArray) (w : World) (_ : K.size ≤ 140737488351232) (_ : T.size ≤ 140737488351232) (hT : Tab w) :
    Calls Tryd.prog 3 #[.string K, .string T] w fun e w' => e = .returned (.bool true) ∧ Below w.heap.size w w' := by
  obtain ⟨n, hn, hn0, hn1, hn2⟩ := least3 K.size
  obtain ⟨m, hm, hm0, hm1, hm2⟩ := least3 T.size
  have hes : (K.extract 0 n).size = n := by simp; omega
  have het : (T.extract 0 m).size = m := by simp; omega
  have C1 : Hid (∀ w, Tab w → Calls Tryd.prog 8 #[.string (K.extract 0 n), .string (T.extract 0 m)] w fun e w' => e = .returned (.string (tag (K.extract 0 n) (T.extract 0 m))) ∧ Below w.heap.size w w') := fun w h => tag_ _ _ w (by omega) (by omega) h
  have C2 : Hid (∀ w, Calls Tryd.prog 9 #[.string (K.extract 0 n), .string (T.extract 0 m)] w fun e w' => e = .returned (.string (tag (K.extract 0 n) (T.extract 0 m))) ∧ Below w.heap.size w w') := fun w => Wl.tagRef _ _ w (by omega) (by omega)
  generalize tag (K.extract 0 n) (T.extract 0 m) = R at C1 C2
  have HT : Hid (Tab w) := hT
  clear hT hes het
  go_enter Tryd.func3, Tryd.ntmps3
  go_wp2_with fail
  go_region
  have h0 : Hid (Tab w.drew) := HT.out.below ((Below.refl w.heap.size w).drew) HT.out.pos
  have c0 : Below w.heap.size w w.drew := (Below.refl w.heap.size w).drew
  generalize w.drew = v at h0 c0 ⊢
  go_wp2_with fail
  refine (wakes _ h0.out).mono ?_
  rintro e w1 ⟨rfl, b1⟩
  have c1 : Below w.heap.size w w1 := c0.trans (b1.mono c0.size)
  have h1 : Hid (Tab w1) := HT.out.below c1 HT.out.pos
  go_wp2_with fail
  refine (C1.out _ h1.out).mono ?_
  rintro e w2 ⟨rfl, b2⟩
  have c2 : Below w.heap.size w w2 := c1.trans (b2.mono c1.size)
  go_wp2_with fail
  refine (C2.out _).mono ?_
  rintro e w3 ⟨rfl, b3⟩
  go_wp2
  go_ret
  exact ⟨rfl, c2.trans (b3.mono c2.size)⟩

theorem infoByte : (Tryd.prog.info? 5).map (fun i => (i.zero, i.size, i.bytes)) = some (some (.int .u8 0), 1, 1) := by kernel_rfl
theorem make_zs (z : Nat) (hz : z < 65) (u : World) : (Instr.makeSlice 29 (.int .i64 (z : Int)) (.int .i64 (z : Int))).run Tryd.prog u = .ok (.slice (some ⟨u.heap.size, 0, none⟩) z z) (u.alloc (.cells (madeCells #[.int .u8 0] z) 5)) := by
  obtain ⟨i0, hi, hz0, hz1, hz2⟩ := info_parts infoByte
  have h := run_make (P := Tryd.prog) u 29 5 i0 (.int .u8 0) Tryd.underlying29 hi hz0 .i64 .i64 (z : Int) (z : Int) (by omega) (Int.le_refl _) (by rw [hz2]; omega) (by omega)
  simpa [hz1, Value.cells] using h
theorem text_zs (z : Nat) (hz : z < 65) (u : World) : (convert 29 9 (.slice (some ⟨u.heap.size, 0, none⟩) z z)).run Tryd.prog (u.alloc (.cells (madeCells #[.int .u8 0] z) 5)) = .ok (.string (zsB z)) (u.alloc (.cells (madeCells #[.int .u8 0] z) 5)) := by
  have hown : (u.alloc (.cells (madeCells #[.int .u8 0] z) 5)).ownsRow u.heap.size 5 1 (.slice (some ⟨u.heap.size, 0, none⟩) z z) z (madeCells #[.int .u8 0] z).toList :=
    World.ownsRow_lit (base := u.heap.size) (e := 5) (size := 1) u (madeCells #[.int .u8 0] z) z (Nat.le_refl _) (by unfold maxLen; omega) (by simp [size_madeCells])
  rw [made_bytes] at hown
  have h := run_convert_bytes_back (P := Tryd.prog) (u.alloc (.cells (madeCells #[.int .u8 0] z) 5)) 29 9 5 ⟨u.heap.size, 0, none⟩ z (List.replicate z (0 : UInt8)) Tryd.underlying29 Tryd.underlying5 Tryd.underlying9 (fun j hj => by
    have hj' : j < z := by simpa using hj
    have hc := hown.cellAt j (by omega)
    rw [add_at, hc]
    simp [hj'])
  rw [List.length_replicate] at h
  exact h

/-- The length of the noughts. -/
theorem rest65 (n : Int) {l : Nat} (h : ¬ 64 < l) : ∃ k : Nat, max 0 n % (65 - (l : Int)) = (k : Int) ∧ l + k ≤ 64 := by
  have h1 := Int.emod_nonneg (max 0 n) (show (65 - (l : Int)) ≠ 0 by omega)
  have h2 := Int.emod_lt_of_pos (max 0 n) (show (0 : Int) < 65 - (l : Int) by omega)
  exact ⟨(max 0 n % (65 - (l : Int))).toNat, by omega, by omega⟩

set_option maxRecDepth 100000 in
theorem wholes (K T : ByteArray) (n : Int) (w : World) (_ : K.size ≤ 140737488351232) (_ : T.size ≤ 140737488351232) (_ : -9223372036854775808 ≤ n) (_ : n < 9223372036854775808) (hT : Tab w) :
    Calls Tryd.prog 6 #[.string K, .string T, .int .i64 n] w fun e w' => e = .returned (.bool true) ∧ Below w.heap.size w w' := by
  have CT : Hid (∀ w, Tab w → Calls Tryd.prog 8 #[.string K, .string T] w fun e w' => e = .returned (.string (tag K T)) ∧ Below w.heap.size w w') := fun w h => tag_ _ _ w (by omega) (by omega) h
  have CO : Hid (∀ W, Tab W → Calls Tryd.prog 12 #[.string K] W fun e w' => e = .returned (.string (lay K 92)) ∧ Below W.heap.size W w') := fun W h => outer K W (by omega) h
  have CI : Hid (∀ W, Tab W → Calls Tryd.prog 10 #[.string K] W fun e w' => e = .returned (.string (lay K 54)) ∧ Below W.heap.size W w') := fun W h => inner K W (by omega) h
  have CL : Hid (64 < K.size → ∀ w, Tab w → Calls Tryd.prog 8 #[.string (dig K), .string T] w fun e w' => e = .returned (.string (tag K T)) ∧ Below w.heap.size w w') := fun h w ht => by
    have h2 := tag_ (dig K) T w (by rw [dig_size]; omega) (by omega) ht
    rwa [tag_long h] at h2
  have CK : Hid (∀ w, Tab w → Calls Tryd.prog 16 #[.string K] w fun e w' => e = .returned (.string (dig K)) ∧ Below w.heap.size w w') := fun w h => sum K w (by omega) h
  have CZ : Hid (∀ k, K.size + k ≤ 64 → ∀ w, Tab w → Calls Tryd.prog 8 #[.string (K ++ zsB k), .string T] w fun e w' => e = .returned (.string (tag K T)) ∧ Below w.heap.size w w') := fun k h w ht => by
    have h2 := tag_ (K ++ zsB k) T w (by rw [ByteArray.size_append, zsB_size]; omega) (by omega) ht
    rwa [tag_zeros h] at h2
  have s1 := lay_size K 92
  have s2 := lay_size K 54
  have s3 : (lay K 54 ++ T).size = 64 + T.size := by rw [ByteArray.size_append, s2]
  have CD : Hid (∀ W, Tab W → Calls Tryd.prog 16 #[.string (lay K 54 ++ T)] W fun e w' => e = .returned (.string (dig (lay K 54 ++ T))) ∧ Below W.heap.size W w') := fun W h => sum _ W (by omega) h
  have s4 := dig_size (lay K 54 ++ T)
  have s5 : (lay K 92 ++ dig (lay K 54 ++ T)).size = 96 := by rw [ByteArray.size_append, s1, s4]
  have CE : Hid (∀ W, Tab W → Calls Tryd.prog 16 #[.string (lay K 92 ++ dig (lay K 54 ++ T))] W fun e w' => e = .returned (.string (tag K T)) ∧ Below W.heap.size W w') := fun W h => sum _ W (by omega) h
  have s6 := dig_size K
  generalize tag K T = R at CE CT CL CZ
  generalize dig (lay K 54 ++ T) = D at CD CE s4 s5
  generalize lay K 54 = A at CI CD s2 s3
  generalize lay K 92 = B at CO CE s1 s5
  generalize dig K = DK at CL CK s6
  have HT : Hid (Tab w) := hT
  clear hT
  go_enter Tryd.func6, Tryd.ntmps6
  go_wp2_with fail
  refine (CT.out _ HT.out).mono ?_
  rintro e w1 ⟨rfl, c1⟩
  have h1 : Hid (Tab w1) := HT.out.below c1 HT.out.pos
  go_wp2_with fail
  refine (wakes _ h1.out).mono ?_
  rintro e w2 ⟨rfl, b2⟩
  have c2 : Below w.heap.size w w2 := c1.trans (b2.mono c1.size)
  have h2 : Hid (Tab w2) := HT.out.below c2 HT.out.pos
  go_wp2_with fail
  refine (CO.out _ h2.out).mono ?_
  rintro e w3 ⟨rfl, b3⟩
  have c3 : Below w.heap.size w w3 := c2.trans (b3.mono c2.size)
  have h3 : Hid (Tab w3) := HT.out.below c3 HT.out.pos
  go_wp2_with fail
  refine (CI.out _ h3.out).mono ?_
  rintro e w4 ⟨rfl, b4⟩
  have c4 : Below w.heap.size w w4 := c3.trans (b4.mono c3.size)
  have h4 : Hid (Tab w4) := HT.out.below c4 HT.out.pos
  go_wp2_with fail
  refine (CD.out _ h4.out).mono ?_
  rintro e w5 ⟨rfl, b5⟩
  have c5 : Below w.heap.size w w5 := c4.trans (b5.mono c4.size)
  have h5 : Hid (Tab w5) := HT.out.below c5 HT.out.pos
  go_wp2_with fail
  refine (CE.out _ h5.out).mono ?_
  rintro e w6 ⟨rfl, b6⟩
  have c6 : Below w.heap.size w w6 := c5.trans (b6.mono c5.size)
  have h6 : Hid (Tab w6) := HT.out.below c6 HT.out.pos
  clear c1 c2 c3 c4 c5 b2 b3 b4 b5 b6 h1 h2 h3 h4 h5 CT CO CI CD CE
  by_cases hk : 64 < K.size
  · have CL' : Hid _ := CL.out hk
    clear CZ CL
    go_wp2_with fail
    refine (CK.out _ h6.out).mono ?_
    rintro e w7 ⟨rfl, b7⟩
    have c7 : Below w.heap.size w w7 := c6.trans (b7.mono c6.size)
    have h7 : Hid (Tab w7) := HT.out.below c7 HT.out.pos
    go_wp2_with fail
    refine (CL'.out _ h7.out).mono ?_
    rintro e w8 ⟨rfl, b8⟩
    go_wp2
    go_ret
    exact ⟨rfl, c7.trans (b8.mono c7.size)⟩
  · clear CL CK
    obtain ⟨k, hp, hkl⟩ := rest65 n hk
    have M1 := make_zs k (by omega) w6
    have M2 := text_zs k (by omega) w6
    have hz := zsB_size k
    have C : Hid _ := CZ.out k hkl
    have c7 : Below w.heap.size w (w6.alloc (.cells (madeCells #[.int .u8 0] k) 5)) := c6.alloc c6.size _
    have h7 : Hid (Tab (w6.alloc (.cells (madeCells #[.int .u8 0] k) 5))) := HT.out.below c7 HT.out.pos
    generalize zsB k = Z at M2 hz C
    generalize w6.alloc (.cells (madeCells #[.int .u8 0] k) 5) = w7 at M1 M2 c7 h7
    clear CZ
    go_wp2_with fail
    refine (C.out _ h7.out).mono ?_
    rintro e w8 ⟨rfl, b8⟩
    go_wp2
    go_ret
    exact ⟨rfl, c7.trans (b8.mono c7.size)⟩

end Go.Proofs.YtpmmffihibhlhaaDoor.Wm
