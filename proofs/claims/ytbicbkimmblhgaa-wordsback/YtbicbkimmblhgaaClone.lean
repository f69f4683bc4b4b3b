/-
  The walks of strings.Clone and of internal/stringslite.Clone: the text that comes back has the bytes of the text that was handed in, and nothing that was in memory has turned. Condition: the text is of at most 2^48 bytes.
-/
import Derived.Test.YtbicbkimmblhgaaRows
import Derived.Test.YtbicbkimmblhgaaMathB
import Derived.WalkKit
import Derived.ProofKit
import Derived.OpenShut
import Derived.Lib.Strings
import Derived.Lib.BufferWrite
import Derived.Lib.UnsafeStr
namespace Go.Proofs.Ytbicbkimmblhgaa.Wc
open Go.ChangeShapes Go.WideShapes Go.ChangeAt Go.RowKit Go.Proofs.Ytbicbkimmblhgaa.M

theorem info8 : (Try.prog.info? 5).map (fun i => (i.zero, i.size, i.bytes)) = some (some (.int .u8 0), 1, 1) := by kernel_rfl
theorem cells8 : Try.prog.cellsOf 5 = 1 := by kernel_rfl

/-- The row behind the copy: the text's bytes. -/
theorem row_copied (M : Array Value) (s : ByteArray) (h : M.size = s.size) :
    (M.toList.take 0 ++ Lib.byteCells s.data.toList ++ M.toList.drop (0 + s.size)).toArray = (Lib.byteCells s.data.toList).toArray := by
  rw [List.take_zero, List.nil_append, List.drop_of_length_le (by rw [Array.length_toList, h]; omega), List.append_nil]

theorem inner (s : ByteArray) (w : World) (hs : s.size ≤ 281474976710656) :
    Calls Try.prog 34 #[.string s] w fun e w' => e = .returned (.string s) ∧ Below w.heap.size w w' := by
  by_cases h0 : s.size = 0
  · obtain rfl : s = ⟨#[]⟩ := ByteArray.ext (Array.eq_empty_of_size_eq_zero h0)
    go_enter Try.func34, Try.ntmps34
    go_wp2
    go_ret
    exact ⟨rfl, Below.refl _ _⟩
  · obtain ⟨i0, hi, hz0, hz1, hz2⟩ := info_parts info8
    have hone : (Try.prog.info? 5).map (·.size) = some 1 := by rw [hi]; simp [hz1]
    have hsz : s.data.toList.length = s.size := (Lib.size_eq s).symm
    obtain ⟨M, hM⟩ : ∃ M, M = madeCells #[.int .u8 0] s.size := ⟨_, rfl⟩
    have hMs : M.size = s.size := by rw [hM, size_madeCells]
    have hmk : ∀ u : World, (Instr.makeSlice 55 (.int .i64 (s.size : Int)) (.int .i64 (s.size : Int))).run Try.prog u =
        .ok (.slice (some ⟨u.heap.size, 0, none⟩) s.size s.size) (u.alloc (.cells M 5)) := fun u => by
      have h := run_make (P := Try.prog) u 55 5 i0 (.int .u8 0) Try.underlying55 hi hz0 .i64 .i64 (s.size : Int) (s.size : Int) (by omega) (Int.le_refl _) (by rw [hz2]; omega) (by omega)
      rw [hM]
      simpa [hz1, Value.cells] using h
    clear hM
    obtain ⟨Y, hY⟩ : ∃ Y, Y = (Lib.byteCells s.data.toList).toArray := ⟨_, rfl⟩
    have hcp := Lib.run_copy_row_string (P := Try.prog) (w.alloc (.cells M 5)) 55 9 3 5 w.heap.size 0 s.size s.size s M 5 Try.underlying55 hone (heap_alloc_new w _) (Nat.le_refl _) (by omega)
    rw [row_copied M s hMs, ← hY] at hcp
    have hYs : Y.size = s.size := by rw [hY, List.size_toArray, Lib.byteCells_length, hsz]
    have hrow : ((w.alloc (.cells M 5)).setRow w.heap.size Y).heap[w.heap.size]? = some (.cells Y 5 (0, 0)) := setRow_heap _ _ M _ 5 (0, 0) (heap_alloc_new w _)
    have hne : s.data.toList ≠ [] := fun e => h0 (by rw [← hsz, e]; rfl)
    have hus := Lib.run_unsafeString_row (P := Try.prog) ((w.alloc (.cells M 5)).setRow w.heap.size Y) 59 3 9 5 Try.underlying59 cells8 w.heap.size Y.size (by unfold World.shape?; rw [hrow]) s.data.toList hne (by omega) (by omega)
      (fun j x hx => by
        refine Lib.cells_of_row hrow s.size j _ ?_
        rw [List.take_of_length_le (by rw [Array.length_toList]; omega), hY]
        simp [Lib.byteCells, hx])
    rw [hsz] at hus
    clear hY
    go_enter Try.func34, Try.ntmps34
    go_wp2
    go_ret
    have b1 : Below w.heap.size w (w.alloc (.cells M 5)) := (Below.refl _ w).alloc (Nat.le_refl _) _
    have b2 : Below w.heap.size (w.alloc (.cells M 5)) ((w.alloc (.cells M 5)).setRow w.heap.size Y) := ⟨rfl, rfl, rfl, by simp, fun k hk => setRow_other _ _ _ _ (by omega)⟩
    exact ⟨rfl, Lib.below_freeze (b1.trans b2) (p := ⟨w.heap.size, 0, none⟩) (Nat.le_refl _) _⟩

theorem clone (s : ByteArray) (w : World) (hs : s.size ≤ 281474976710656) :
    Calls Try.prog 33 #[.string s] w fun e w' => e = .returned (.string s) ∧ Below w.heap.size w w' := by
  go_enter Try.func33, Try.ntmps33
  go_wp2_with fail
  refine (inner _ _ hs).mono ?_
  rintro e w1 ⟨rfl, b1⟩
  go_wp2
  go_ret
  exact ⟨rfl, b1⟩

end Go.Proofs.Ytbicbkimmblhgaa.Wc
