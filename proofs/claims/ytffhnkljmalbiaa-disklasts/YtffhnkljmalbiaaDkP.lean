/-
  The walks of the laws' own helpers: sector (a text as a sector, or as it is) and wakes (what the document fixes); and of the calls of a nil disk.
-/
import Derived.Test.YtffhnkljmalbiaaDkO
import Derived.Test.YtffhnkljmalbiaaDkJ
namespace Go.Proofs.Ytffhnkljmalbiaa.Wd
open Go.ChangeShapes Go.WideShapes Go.ChangeAt Go.RowKit Go.Proofs.Ytffhnkljmalbiaa.M

/-- A text as a sector. -/
def secB (s : ByteArray) : ByteArray := if 100 ≤ s.size then s else cut64 s 0
theorem secB_small {s : ByteArray} (h : s.size < 100) : secB s = cut64 s 0 := if_neg (by omega)
theorem secB_size {s : ByteArray} (h : s.size < 100) : (secB s).size = 64 := by rw [secB_small h]; exact cut64_size _ _

theorem pad_cells (s : ByteArray) : List.take 0 (lc (fun _ => noB) 1) ++ sc s (min s.size 64) ++ List.drop (0 + min s.size 64) (lc (fun _ => noB) 1) = dc (cut64 s 0) := by
  have hl := lc_length (fun _ => noB) 1
  have hs := sc_length s (min s.size 64)
  rw [List.take_zero, List.nil_append, Nat.zero_add]
  apply List.ext_getElem?
  intro j
  by_cases hj : j < 64
  · rw [dc_get _ _ hj, bt_bx, cut64_bx _ _ _ hj, Nat.zero_add]
    by_cases c : j < s.size
    · rw [List.getElem?_append_left (by omega), sc_get _ _ _ (by omega), bt_bx]
    · rw [List.getElem?_append_right (by omega), hs, List.getElem?_drop, lc_get _ _ _ (by omega), noB_bt, bx_none c]
      rfl
  · rw [List.getElem?_eq_none (by rw [List.length_append, hs, List.length_drop, hl]; omega), List.getElem?_eq_none (by rw [dc_length]; omega)]

theorem conv_dc {W : World} {g : Nat} {x : ByteArray} (h : W.heap[g]? = some (.cells (dc x).toArray 5 (0, 0))) (hx : x.size = 64) : (convert 55 9 (.slice (some ⟨g, 0, none⟩) 64 64)).run Try.prog W = .ok (.string x) W := by
  have := run_convert_bytes_arg (P := Try.prog) (w := W) 55 5 Try.underlying55 Try.underlying5 g 0 64 64 ((List.range 64).map fun j => bt x j) (by simp) (fun j hj => by
    rw [Nat.zero_add, blk_cell h (dc_get _ _ hj)]
    simp [List.getD, hj]) 9 Try.underlying9
  rw [str_dc _ hx] at this
  exact this

theorem make64 (u : World) : (Instr.makeSlice 55 (.int .i64 64) (.int .i64 64)).run Try.prog u = .ok (.slice (some ⟨u.heap.size, 0, none⟩) 64 64) (u.alloc (.cells (lc (fun _ => noB) 1).toArray 5)) := make_lc 1 (by omega) u

set_option maxRecDepth 100000 in
theorem sector (s : ByteArray) (w : World) (hs : s.size ≤ maxLen) :
    Calls Try.prog 22 #[.string s] w fun e w' => e = .returned (.string (secB s)) ∧ Below w.heap.size w w' := by
  by_cases c : 100 ≤ s.size
  · have hE : Hid (secB s = s) := if_pos c
    unfold maxLen at hs
    go_enter Try.func22, Try.ntmps22
    go_wp2
    go_ret
    exact ⟨by rw [hE.out]; rfl, Below.refl _ _⟩
  · have hE := hid (secB_small (s := s) (by omega))
    have hm := make64
    have hcp := run_copy_text (w.alloc (.cells (lc (fun _ => noB) 1).toArray 5)) w.heap.size 5 55 9 3 5 0 64 64 Try.underlying55 (by kernel_rfl) _ s (heap_alloc_last w _) (by rw [List.size_toArray, lc_length]; omega)
    simp only at hcp
    rw [pad_cells, World.setRow_alloc_new] at hcp
    have hcv := conv_dc (W := w.alloc (.cells (dc (cut64 s 0)).toArray 5)) (heap_alloc_last w _) (cut64_size s 0)
    generalize (lc (fun _ => noB) 1).toArray = M at hm hcp
    generalize hC : (dc (cut64 s 0)).toArray = C at hcp hcv
    clear hC
    go_enter Try.func22, Try.ntmps22
    go_wp2
    go_ret
    exact ⟨by rw [hE.out]; rfl, (Below.refl _ _).alloc (Nat.le_refl _) _⟩

/-! ### A nil disk -/
set_option maxRecDepth 100000 in
theorem findN (a : Int) (w : World) : Calls Try.prog 37 #[.pointer none, .int .i64 a] w fun e w' => e = .returned (.pointer none) ∧ w = w' := by
  go_enter Try.func37, Try.ntmps37
  go_wp2
  go_ret
  exact ⟨rfl, rfl⟩
set_option maxRecDepth 100000 in
theorem regionAskedN (a : Int) (w : World) : Calls Try.prog 40 #[.pointer none, .int .i64 a] w fun e w' => e = .returned (.tuple #[.pointer none, .int .i64 1]) ∧ w = w' := by
  go_enter Try.func40, Try.ntmps40
  go_wp2
  go_ret2
  exact ⟨rfl, rfl⟩
set_option maxRecDepth 100000 in
theorem sectorAskedN (a b : Int) (w : World) : Calls Try.prog 45 #[.pointer none, .int .i64 a, .int .i64 b] w fun e w' => e = .returned (.tuple #[.pointer none, .int .i64 1]) ∧ w = w' := by
  have C := hid (regionAskedN a w)
  go_enter Try.func45, Try.ntmps45
  go_wp2_with fail
  refine C.out.mono ?_
  rintro e w1 ⟨rfl, rfl⟩
  go_wp2
  go_ret2
  exact ⟨rfl, rfl⟩
set_option maxRecDepth 100000 in
theorem readN (a b : Int) (w : World) : Calls Try.prog 23 #[.pointer none, .int .i64 a, .int .i64 b] w fun e w' => e = .returned (.tuple #[.string ⟨#[]⟩, .int .i64 1]) ∧ w = w' := by
  have C := hid (sectorAskedN a b w)
  go_enter Try.func23, Try.ntmps23
  go_wp2_with fail
  refine C.out.mono ?_
  rintro e w1 ⟨rfl, rfl⟩
  go_wp2
  go_ret2
  exact ⟨rfl, rfl⟩
set_option maxRecDepth 100000 in
theorem writeN (a b : Int) (x : ByteArray) (w : World) : Calls Try.prog 21 #[.pointer none, .int .i64 a, .int .i64 b, .string x] w fun e w' => e = .returned (.int .i64 1) ∧ w = w' := by
  have C := hid (sectorAskedN a b w)
  go_enter Try.func21, Try.ntmps21
  go_wp2_with fail
  refine C.out.mono ?_
  rintro e w1 ⟨rfl, rfl⟩
  go_wp2
  go_ret
  exact ⟨rfl, rfl⟩
set_option maxRecDepth 100000 in
theorem flushN (a : Int) (w : World) : Calls Try.prog 19 #[.pointer none, .int .i64 a] w fun e w' => e = .returned (.int .i64 1) ∧ w = w' := by
  have C := hid (regionAskedN a w)
  go_enter Try.func19, Try.ntmps19
  go_wp2_with fail
  refine C.out.mono ?_
  rintro e w1 ⟨rfl, rfl⟩
  go_wp2
  go_ret
  exact ⟨rfl, rfl⟩
set_option maxRecDepth 100000 in
theorem cutN (a n : Int) (v : Value) (w : World) : Calls Try.prog 24 #[.pointer none, .int .i64 a, .int .i64 n, v] w fun e w' => e = .returned (.tuple #[]) ∧ w = w' := by
  go_enter Try.func24, Try.ntmps24
  go_wp2
  refine bodyPost_ret (results_none rfl _ _ _) rfl ?_
  exact ⟨rfl, rfl⟩
set_option maxRecDepth 100000 in
theorem crashN (v : Value) (w : World) : Calls Try.prog 18 #[.pointer none, v] w fun e w' => e = .returned (.tuple #[]) ∧ w = w' := by
  go_enter Try.func18, Try.ntmps18
  go_wp2
  refine bodyPost_ret (results_none rfl _ _ _) rfl ?_
  exact ⟨rfl, rfl⟩
set_option maxRecDepth 100000 in
theorem onN (w : World) : Calls Try.prog 25 #[.pointer none] w fun e w' => e = .returned (.tuple #[]) ∧ w = w' := by
  go_enter Try.func25, Try.ntmps25
  go_wp2
  refine bodyPost_ret (results_none rfl _ _ _) rfl ?_
  exact ⟨rfl, rfl⟩
set_option maxRecDepth 100000 in
theorem offN (w : World) : Calls Try.prog 26 #[.pointer none] w fun e w' => e = .returned (.bool false) ∧ w = w' := by
  go_enter Try.func26, Try.ntmps26
  go_wp2
  go_ret
  exact ⟨rfl, rfl⟩
set_option maxRecDepth 100000 in
theorem layN (a : Int) (x : ByteArray) (w : World) : Calls Try.prog 20 #[.pointer none, .int .i64 a, .string x] w fun e w' => e = .returned (.tuple #[]) ∧ w = w' := by
  have C := hid (findN a w)
  go_enter Try.func20, Try.ntmps20
  go_wp2_with fail
  refine C.out.mono ?_
  rintro e w1 ⟨rfl, rfl⟩
  go_wp2
  go_end0
  exact ⟨rfl, rfl⟩
set_option maxRecDepth 100000 in
theorem sectorsN (a : Int) (w : World) : Calls Try.prog 15 #[.pointer none, .int .i64 a] w fun e w' => e = .returned (.int .i64 0) ∧ w = w' := by
  have C := hid (findN a w)
  go_enter Try.func15, Try.ntmps15
  go_wp2_with fail
  refine C.out.mono ?_
  rintro e w1 ⟨rfl, rfl⟩
  go_wp2
  go_ret
  exact ⟨rfl, rfl⟩
set_option maxRecDepth 100000 in
theorem imageN (a : Int) (w : World) : Calls Try.prog 17 #[.pointer none, .int .i64 a] w fun e w' => e = .returned (.string ⟨#[]⟩) ∧ w = w' := by
  have C := hid (findN a w)
  go_enter Try.func17, Try.ntmps17
  go_wp2_with fail
  refine C.out.mono ?_
  rintro e w1 ⟨rfl, rfl⟩
  go_wp2
  go_ret
  exact ⟨rfl, rfl⟩

end Go.Proofs.Ytffhnkljmalbiaa.Wd
