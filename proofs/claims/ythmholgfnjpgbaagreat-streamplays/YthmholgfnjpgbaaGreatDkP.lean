/-
  The walks of the laws' own helpers: sector (a text as a sector, or as it is) and wakes (what the document fixes); and of the calls of a nil disk.
-/
import Derived.Test.YthmholgfnjpgbaaGreatDc
import Derived.Test.YthmholgfnjpgbaaGreatDb
namespace Go.Proofs.YthmholgfnjpgbaaGreat.Wd
open Go.ChangeShapes Go.WideShapes Go.ChangeAt Go.RowKit Go.Proofs.YthmholgfnjpgbaaGreat.M

/-- A text as a sector. -/
def secB (s : ByteArray) : ByteArray := if 100 ≤ s.size then s else cut64 s 0
theorem secB_small {s : ByteArray} (h : s.size < 100) : secB s = cut64 s 0 := if_neg (by omega)
theorem secB_size {s : ByteArray} (h : s.size < 100) : (secB s).size = 64 := by rw [secB_small h]; exact cut64_size _ _

theorem pad_cells (s : ByteArray) : List.take 0 (lc (fun _ => noB) 1) ++ sc s (min s.size 64) ++ List.drop (0 + min s.size 64) (lc (fun _ => noB) 1) = dc (cut64 s 0) := by
  have hl := lc_length (fun _ => noB) 1
  have hs := sc_length s (min s.size 64)
  rw [List.take_zero, List.nil_append, Nat.zero_add]
  apply List.ext_getElem?
  intro j
  by_cases hj : j < 64
  · rw [dc_get _ _ hj, bt_bx, cut64_bx _ _ _ hj, Nat.zero_add]
    by_cases c : j < s.size
    · rw [List.getElem?_append_left (by omega), sc_get _ _ _ (by omega), bt_bx]
    · rw [List.getElem?_append_right (by omega), hs, List.getElem?_drop, lc_get _ _ _ (by omega), noB_bt, bx_none c]
      rfl
  · rw [List.getElem?_eq_none (by rw [List.length_append, hs, List.length_drop, hl]; omega), List.getElem?_eq_none (by rw [dc_length]; omega)]

theorem conv_dc {W : World} {g : Nat} {x : ByteArray} (h : W.heap[g]? = some (.cells (dc x).toArray 5 (0, 0))) (hx : x.size = 64) : (convert 62 9 (.slice (some ⟨g, 0, none⟩) 64 64)).run Tryz.prog W = .ok (.string x) W := by
  have := run_convert_bytes_arg (P := Tryz.prog) (w := W) 62 5 Tryz.underlying62 Tryz.underlying5 g 0 64 64 ((List.range 64).map fun j => bt x j) (by simp) (fun j hj => by
    rw [Nat.zero_add, blk_cell h (dc_get _ _ hj)]
    simp [List.getD, hj]) 9 Tryz.underlying9
  rw [str_dc _ hx] at this
  exact this

theorem make64 (u : World) : (Instr.makeSlice 62 (.int .i64 64) (.int .i64 64)).run Tryz.prog u = .ok (.slice (some ⟨u.heap.size, 0, none⟩) 64 64) (u.alloc (.cells (lc (fun _ => noB) 1).toArray 5)) := make_lc 1 (by omega) u

set_option maxRecDepth 100000 in
theorem sector (s : ByteArray) (w : World) (hs : s.size ≤ maxLen) :
    Calls Tryz.prog 57 #[.string s] w fun e w' => e = .returned (.string (secB s)) ∧ Below w.heap.size w w' := by
  by_cases c : 100 ≤ s.size
  · have hE : Hid (secB s = s) := if_pos c
    unfold maxLen at hs
    go_enter Tryz.func57, Tryz.ntmps57
    go_wp2
    go_ret
    exact ⟨by rw [hE.out]; rfl, Below.refl _ _⟩
  · have hE := hid (secB_small (s := s) (by omega))
    have hm := make64
    have hcp := run_copy_text (w.alloc (.cells (lc (fun _ => noB) 1).toArray 5)) w.heap.size 5 62 9 3 5 0 64 64 Tryz.underlying62 (by kernel_rfl) _ s (heap_alloc_last w _) (by rw [List.size_toArray, lc_length]; omega)
    simp only at hcp
    rw [pad_cells, World.setRow_alloc_new] at hcp
    have hcv := conv_dc (W := w.alloc (.cells (dc (cut64 s 0)).toArray 5)) (heap_alloc_last w _) (cut64_size s 0)
    generalize (lc (fun _ => noB) 1).toArray = M at hm hcp
    generalize hC : (dc (cut64 s 0)).toArray = C at hcp hcv
    clear hC
    go_enter Tryz.func57, Tryz.ntmps57
    go_wp2
    go_ret
    exact ⟨by rw [hE.out]; rfl, (Below.refl _ _).alloc (Nat.le_refl _) _⟩

/-! ### A nil disk -/
set_option maxRecDepth 100000 in
theorem findN (a : Int) (w : World) : Calls Tryz.prog 23 #[.pointer none, .int .i64 a] w fun e w' => e = .returned (.pointer none) ∧ w = w' := by
  go_enter Tryz.func23, Tryz.ntmps23
  go_wp2
  go_ret
  exact ⟨rfl, rfl⟩
set_option maxRecDepth 100000 in
theorem regionAskedN (a : Int) (w : World) : Calls Tryz.prog 83 #[.pointer none, .int .i64 a] w fun e w' => e = .returned (.tuple #[.pointer none, .int .i64 1]) ∧ w = w' := by
  go_enter Tryz.func83, Tryz.ntmps83
  go_wp2
  go_ret2
  exact ⟨rfl, rfl⟩
set_option maxRecDepth 100000 in
theorem sectorAskedN (a b : Int) (w : World) : Calls Tryz.prog 81 #[.pointer none, .int .i64 a, .int .i64 b] w fun e w' => e = .returned (.tuple #[.pointer none, .int .i64 1]) ∧ w = w' := by
  have C := hid (regionAskedN a w)
  go_enter Tryz.func81, Tryz.ntmps81
  go_wp2_with fail
  refine C.out.mono ?_
  rintro e w1 ⟨rfl, rfl⟩
  go_wp2
  go_ret2
  exact ⟨rfl, rfl⟩
set_option maxRecDepth 100000 in
theorem readN (a b : Int) (w : World) : Calls Tryz.prog 47 #[.pointer none, .int .i64 a, .int .i64 b] w fun e w' => e = .returned (.tuple #[.string ⟨#[]⟩, .int .i64 1]) ∧ w = w' := by
  have C := hid (sectorAskedN a b w)
  go_enter Tryz.func47, Tryz.ntmps47
  go_wp2_with fail
  refine C.out.mono ?_
  rintro e w1 ⟨rfl, rfl⟩
  go_wp2
  go_ret2
  exact ⟨rfl, rfl⟩
set_option maxRecDepth 100000 in
theorem writeN (a b : Int) (x : ByteArray) (w : World) : Calls Tryz.prog 56 #[.pointer none, .int .i64 a, .int .i64 b, .string x] w fun e w' => e = .returned (.int .i64 1) ∧ w = w' := by
  have C := hid (sectorAskedN a b w)
  go_enter Tryz.func56, Tryz.ntmps56
  go_wp2_with fail
  refine C.out.mono ?_
  rintro e w1 ⟨rfl, rfl⟩
  go_wp2
  go_ret
  exact ⟨rfl, rfl⟩
set_option maxRecDepth 100000 in
theorem flushN (a : Int) (w : World) : Calls Tryz.prog 49 #[.pointer none, .int .i64 a] w fun e w' => e = .returned (.int .i64 1) ∧ w = w' := by
  have C := hid (regionAskedN a w)
  go_enter Tryz.func49, Tryz.ntmps49
  go_wp2_with fail
  refine C.out.mono ?_
  rintro e w1 ⟨rfl, rfl⟩
  go_wp2
  go_ret
  exact ⟨rfl, rfl⟩
set_option maxRecDepth 100000 in
theorem cutN (a n : Int) (v : Value) (w : World) : Calls Tryz.prog 51 #[.pointer none, .int .i64 a, .int .i64 n, v] w fun e w' => e = .returned (.tuple #[]) ∧ w = w' := by
  go_enter Tryz.func51, Tryz.ntmps51
  go_wp2
  refine bodyPost_ret (results_none rfl _ _ _) rfl ?_
  exact ⟨rfl, rfl⟩
set_option maxRecDepth 100000 in
theorem crashN (v : Value) (w : World) : Calls Tryz.prog 31 #[.pointer none, v] w fun e w' => e = .returned (.tuple #[]) ∧ w = w' := by
  go_enter Tryz.func31, Tryz.ntmps31
  go_wp2
  refine bodyPost_ret (results_none rfl _ _ _) rfl ?_
  exact ⟨rfl, rfl⟩
set_option maxRecDepth 100000 in
theorem onN (w : World) : Calls Tryz.prog 54 #[.pointer none] w fun e w' => e = .returned (.tuple #[]) ∧ w = w' := by
  go_enter Tryz.func54, Tryz.ntmps54
  go_wp2
  refine bodyPost_ret (results_none rfl _ _ _) rfl ?_
  exact ⟨rfl, rfl⟩
set_option maxRecDepth 100000 in
theorem offN (w : World) : Calls Tryz.prog 34 #[.pointer none] w fun e w' => e = .returned (.bool false) ∧ w = w' := by
  go_enter Tryz.func34, Tryz.ntmps34
  go_wp2
  go_ret
  exact ⟨rfl, rfl⟩
set_option maxRecDepth 100000 in
theorem layN (a : Int) (x : ByteArray) (w : World) : Calls Tryz.prog 6 #[.pointer none, .int .i64 a, .string x] w fun e w' => e = .returned (.tuple #[]) ∧ w = w' := by
  have C := hid (findN a w)
  go_enter Tryz.func6, Tryz.ntmps6
  go_wp2_with fail
  refine C.out.mono ?_
  rintro e w1 ⟨rfl, rfl⟩
  go_wp2
  go_end0
  exact ⟨rfl, rfl⟩
set_option maxRecDepth 100000 in
theorem sectorsN (a : Int) (w : World) : Calls Tryz.prog 25 #[.pointer none, .int .i64 a] w fun e w' => e = .returned (.int .i64 0) ∧ w = w' := by
  have C := hid (findN a w)
  go_enter Tryz.func25, Tryz.ntmps25
  go_wp2_with fail
  refine C.out.mono ?_
  rintro e w1 ⟨rfl, rfl⟩
  go_wp2
  go_ret
  exact ⟨rfl, rfl⟩
set_option maxRecDepth 100000 in
theorem imageN (a : Int) (w : World) : Calls Tryz.prog 32 #[.pointer none, .int .i64 a] w fun e w' => e = .returned (.string ⟨#[]⟩) ∧ w = w' := by
  have C := hid (findN a w)
  go_enter Tryz.func32, Tryz.ntmps32
  go_wp2_with fail
  refine C.out.mono ?_
  rintro e w1 ⟨rfl, rfl⟩
  go_wp2
  go_ret
  exact ⟨rfl, rfl⟩

end Go.Proofs.YthmholgfnjpgbaaGreat.Wd
