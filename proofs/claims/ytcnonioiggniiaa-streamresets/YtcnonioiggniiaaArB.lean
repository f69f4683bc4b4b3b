/-
  The walk of area.sectorOf: it returns the sector of a cell within its bounds, as 'sec' says, and nothing that was in memory has turned.
-/
import Derived.Test.YtcnonioiggniiaaArA
namespace Go.Proofs.Ytcnonioiggniiaa.War
open Go.ChangeShapes Go.WideShapes Go.ChangeAt Go.RowKit Go.Proofs.Ytcnonioiggniiaa.M

/-- All the bytes as a text. -/
theorem text_of (W : World) (G m : Nat) (t s : ByteArray) (h : W.heap[G]? = some (.cells (bz t m) 141 (0, 0))) (hs : s = t ++ zz m) (hz : s.size = 64) :
    (convert 67 9 (.slice (some ⟨G, 0, none⟩) 64 64)).run Try.prog W = .ok (.string s) W := by
  rw [bz_shift, ← hs, bz_zero] at h
  have hl : s.data.toList.length = 64 := by rw [Array.length_toList]; exact hz
  have r := run_convert_bytes_back (P := Try.prog) W 67 9 5 ⟨G, 0, none⟩ 64 s.data.toList Try.underlying67 Try.underlying5 Try.underlying9 (fun j hj => by
    rw [Wp.add_at]
    have hj2 : j < s.data.size := by rw [Array.length_toList] at hj; exact hj
    simp [World.cell?, h]
    exact ⟨_, Array.getElem?_eq_getElem hj2, rfl⟩)
  rw [hl] at r
  simpa using r

set_option maxRecDepth 100000 in
set_option maxHeartbeats 2000000 in
theorem sectorOf (g i : Int) (d : ByteArray) (w : World) (h : Wt g i) (hd : d.size ≤ 55) :
    Calls Try.prog 72 #[cv g i d] w fun e w' => e = .returned (.string (sec g i d)) ∧ Below w.heap.size w w' := by
  obtain ⟨c1, c2, c3, c4⟩ := h
  unfold cv
  have K : Hid (sec g i d = beB 6 g ++ beB 2 i ++ beB 1 (d.size : Int) ++ d ++ zz (55 - d.size)) := rfl
  have C1 : Hid (∀ w, Calls Try.prog 53 #[.int .i64 6, .int .u64 g] w fun e w' => e = .returned (.string (beB 6 g)) ∧ Below w.heap.size w w') := fun w => Wp.putAny 6 g w (by omega) (by omega)
  have C2 : Hid (∀ w, Calls Try.prog 53 #[.int .i64 2, .int .u64 i] w fun e w' => e = .returned (.string (beB 2 i)) ∧ Below w.heap.size w w') := fun w => Wp.putAny 2 i w (by omega) (by omega)
  have C3 : Hid (∀ w, Calls Try.prog 53 #[.int .i64 1, .int .u64 (d.size : Int)] w fun e w' => e = .returned (.string (beB 1 (d.size : Int))) ∧ Below w.heap.size w w') := fun w => Wp.putAny 1 (d.size : Int) w (by omega) (by omega)
  have z1 : Hid ((beB 6 g).size = 6) := beB_size 6 g
  have z2 : Hid ((beB 2 i).size = 2) := beB_size 2 i
  have z3 : Hid ((beB 1 (d.size : Int)).size = 1) := beB_size 1 _
  generalize beB 6 g = x at K C1 z1
  generalize beB 2 i = y at K C2 z2
  generalize beB 1 (d.size : Int) = z at K C3 z3
  have u1 : IntKind.u64.wrap g = g := by rw [IntKind.wrap_u64]; omega
  have u2 : IntKind.u64.wrap i = i := by rw [IntKind.wrap_u64]; omega
  have u3 : IntKind.u64.wrap (d.size : Int) = (d.size : Int) := by rw [IntKind.wrap_u64]; omega
  have u8 : IntKind.i64.wrap 8 = 8 := by decide
  have u9 : IntKind.i64.wrap 9 = 9 := by decide
  go_enter Try.func72, Try.ntmps72
  go_wp2_with fail
  generalize hW : World.alloc (World.alloc w _) _ = W0
  have J0 : JS w g i d ⟨#[]⟩ 64 W0 := by
    refine ⟨?_, ?_, ?_⟩
    · rw [← hW, bz_noughts]
      exact heap_alloc2_new w _ _
    · rw [← hW]
      exact heap_alloc2_old w _ _
    · rw [← hW]
      exact ((Below.refl _ _).alloc (Nat.le_refl _) _).alloc (by simp) _
  clear hW
  obtain ⟨k0, _, _⟩ := J0.cell
  go_region_with (go_at_call 53; refine (C1.out _).mono ?_; rintro e w1 ⟨rfl, b1⟩; have J1 := J0.drew.below b1; have hcp := run_copy_at w1 (w.heap.size + 1) 0 6 64 58 6 ⟨#[]⟩ x rfl z1.out rfl rfl J1.1)
  have J2 := J1.put (⟨#[]⟩ ++ x) 58
  rw [nil_app] at J2
  rw [nil_app]
  generalize World.setRow w1 _ _ = W2 at J2
  clear J0 J1 hcp k0 b1
  obtain ⟨_, k1, _⟩ := J2.cell
  go_wp2
  go_region_with (go_at_call 53; refine (C2.out _).mono ?_; rintro e w3 ⟨rfl, b3⟩; have J3 := J2.drew.below b3; have hcp := run_copy_at w3 (w.heap.size + 1) 6 2 58 56 2 x y z1.out z2.out rfl rfl J3.1)
  have J4 := J3.put (x ++ y) 56
  generalize World.setRow w3 _ _ = W4 at J4
  clear J2 J3 hcp k1 b3
  obtain ⟨_, _, k2⟩ := J4.cell
  go_wp2
  go_region_with (go_at_call 53; refine (C3.out _).mono ?_; rintro e w5 ⟨rfl, b5⟩; have J5 := J4.drew.below b5; have hcp := run_copy_at w5 (w.heap.size + 1) 8 1 56 55 1 (x ++ y) z (by rw [size_app, z1.out, z2.out]) z3.out rfl rfl J5.1)
  have J6 := J5.put (x ++ y ++ z) 55
  generalize World.setRow w5 _ _ = W6 at J6
  clear J4 J5 hcp k2 b5
  obtain ⟨_, _, k2⟩ := J6.cell
  have hcp := run_copy_at W6.drew (w.heap.size + 1) 9 d.size 55 (55 - d.size) (d.size : Int) (x ++ y ++ z) d (by rw [size_app, size_app, z1.out, z2.out, z3.out]) rfl (by omega) rfl J6.drew.1
  have J7 := J6.drew.put (x ++ y ++ z ++ d) (55 - d.size)
  have hcv := text_of _ _ _ _ (sec g i d) J7.1 (by rw [K.out]) (sec_size hd)
  generalize World.setRow W6.drew _ _ = W7 at hcp J7 hcv
  clear J6 u1 u2 u3
  go_wp2
  go_region
  all_goals (go_wp2; go_ret; exact ⟨rfl, J7.2.2⟩)

end Go.Proofs.Ytcnonioiggniiaa.War
