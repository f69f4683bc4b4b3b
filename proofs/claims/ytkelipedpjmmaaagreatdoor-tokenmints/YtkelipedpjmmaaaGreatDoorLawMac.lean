/-
  The walks of the laws MacTags, MacLays and MacWhole: each returns true, and nothing that was in memory has turned. Conditions: keys and texts fit a machine; the table of the rounds' numbers holds what it was laid with.
-/
import Derived.Test.YtkelipedpjmmaaaGreatDoorRows
import Derived.Test.YtkelipedpjmmaaaGreatDoorMMask
import Derived.Test.YtkelipedpjmmaaaGreatDoorMRef
import Derived.WalkKit
import Derived.ProofKit
import Derived.OpenShut
import Derived.BigRegion
namespace Go.Proofs.YtkelipedpjmmaaaGreatDoor.Wm
open Go.ChangeShapes Go.WideShapes Go.ChangeAt Go.RowKit Go.Proofs.YtkelipedpjmmaaaGreatDoor.M Go.Proofs.YtkelipedpjmmaaaGreatDoor.Wh

theorem least3 (l : Nat) : ∃ n : Nat, min (l : Int) 3000 = (n : Int) ∧ (if 3000 < (l : Int) then 3000 else (l : Int)) = (n : Int) ∧ n ≤ 3000 ∧ n ≤ l := ⟨min l 3000, by omega, by split <;> omega, by omega, by omega⟩

theorem infoByte : (Tryz.prog.info? 5).map (fun i => (i.zero, i.size, i.bytes)) = some (some (.int .u8 0), 1, 1) := by kernel_rfl
theorem make_zs (z : Nat) (hz : z < 65) (u : World) : (Instr.makeSlice 72 (.int .i64 (z : Int)) (.int .i64 (z : Int))).run Tryz.prog u = .ok (.slice (some ⟨u.heap.size, 0, none⟩) z z) (u.alloc (.cells (madeCells #[.int .u8 0] z) 5)) := by
  obtain ⟨i0, hi, hz0, hz1, hz2⟩ := info_parts infoByte
  have h := run_make (P := Tryz.prog) u 72 5 i0 (.int .u8 0) Tryz.underlying72 hi hz0 .i64 .i64 (z : Int) (z : Int) (by omega) (Int.le_refl _) (by rw [hz2]; omega) (by omega)
  simpa [hz1, Value.cells] using h
theorem text_zs (z : Nat) (hz : z < 65) (u : World) : (convert 72 9 (.slice (some ⟨u.heap.size, 0, none⟩) z z)).run Tryz.prog (u.alloc (.cells (madeCells #[.int .u8 0] z) 5)) = .ok (.string (zsB z)) (u.alloc (.cells (madeCells #[.int .u8 0] z) 5)) := by
  have hown : (u.alloc (.cells (madeCells #[.int .u8 0] z) 5)).ownsRow u.heap.size 5 1 (.slice (some ⟨u.heap.size, 0, none⟩) z z) z (madeCells #[.int .u8 0] z).toList :=
    World.ownsRow_lit (base := u.heap.size) (e := 5) (size := 1) u (madeCells #[.int .u8 0] z) z (Nat.le_refl _) (by unfold maxLen; omega) (by simp [size_madeCells])
  rw [made_bytes] at hown
  have h := run_convert_bytes_back (P := Tryz.prog) (u.alloc (.cells (madeCells #[.int .u8 0] z) 5)) 72 9 5 ⟨u.heap.size, 0, none⟩ z (List.replicate z (0 : UInt8)) Tryz.underlying72 Tryz.underlying5 Tryz.underlying9 (fun j hj => by
    have hj' : j < z := by simpa using hj
    have hc := hown.cellAt j (by omega)
    rw [add_at, hc]
    simp [hj'])
  rw [List.length_replicate] at h
  exact h

/-- The length of the noughts. -/
theorem rest65 (n : Int) {l : Nat} (h : ¬ 64 < l) : ∃ k : Nat, max 0 n % (65 - (l : Int)) = (k : Int) ∧ l + k ≤ 64 := by
  have h1 := Int.emod_nonneg (max 0 n) (show (65 - (l : Int)) ≠ 0 by omega)
  have h2 := Int.emod_lt_of_pos (max 0 n) (show (0 : Int) < 65 - (l : Int) by omega)
  exact ⟨(max 0 n % (65 - (l : Int))).toNat, by omega, by omega⟩

end Go.Proofs.YtkelipedpjmmaaaGreatDoor.Wm
