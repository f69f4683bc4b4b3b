/-
  The walks of words.Put, of words.clamp, of the document's Put, and of the law WordsPuts: each Put returns the lowest bytes of the number, as many as the width asks for (none to eight), the highest first, and nothing that was in memory has turned; the law returns true. Conditions: none but that each number fits its kind.
-/
import Derived.Test.YtkelipedpjmmaaaDoorRows
import Derived.Test.YtkelipedpjmmaaaDoorQa
import Derived.WalkKit
import Derived.ProofKit
import Derived.OpenShut
import Derived.Laws.IdiomStrings
namespace Go.Proofs.YtkelipedpjmmaaaDoor.Wp
open Go.ChangeShapes Go.WideShapes Go.ChangeAt Go.RowKit Go.Proofs.YtkelipedpjmmaaaDoor.M

theorem info8 : (Tryd.prog.info? 5).map (fun i => (i.zero, i.size, i.bytes)) = some (some (.int .u8 0), 1, 1) := by kernel_rfl

theorem clamp (n lo hi : Int) (w : World) :
    Calls Tryd.prog 82 #[.int .i64 n, .int .i64 lo, .int .i64 hi] w fun e w' => e = .returned (.int .i64 (max lo (min n hi))) ∧ w = w' := by
  by_cases c1 : hi < n
  · by_cases c2 : lo < hi
    · have e : max lo (min n hi) = hi := by omega
      rw [e]
      go_enter Tryd.func82, Tryd.ntmps82
      go_wp2
      go_ret
      exact ⟨rfl, rfl⟩
    · have e : max lo (min n hi) = lo := by omega
      rw [e]
      go_enter Tryd.func82, Tryd.ntmps82
      go_wp2
      go_ret
      exact ⟨rfl, rfl⟩
  · by_cases c2 : lo < n
    · have e : max lo (min n hi) = n := by omega
      rw [e]
      go_enter Tryd.func82, Tryd.ntmps82
      go_wp2
      go_ret
      exact ⟨rfl, rfl⟩
    · have e : max lo (min n hi) = lo := by omega
      rw [e]
      go_enter Tryd.func82, Tryd.ntmps82
      go_wp2
      go_ret
      exact ⟨rfl, rfl⟩

theorem add_at (g j : Nat) : (⟨g, 0, none⟩ : Addr).add j = ⟨g, j, none⟩ := by
  unfold Addr.add
  split
  · rename_i h; rw [h]
  · simp

theorem put (width n : Int) (k : Nat) (w : World) (hk : k ≤ 8) (hw : max 0 (min width 8) = (k : Int)) (h0 : 0 ≤ n) (h1 : n < 18446744073709551616) :
    Calls Tryd.prog 62 #[.int .i64 width, .int .u64 n] w fun e w' => e = .returned (.string (beB k n)) ∧ Below w.heap.size w w' := by
  obtain ⟨i0, hi, hz0, hz1, hz2⟩ := info_parts info8
  have hmk : ∀ u : World, (Instr.makeSlice 42 (.int .i64 (k : Int)) (.int .i64 (k : Int))).run Tryd.prog u =
      .ok (.slice (some ⟨u.heap.size, 0, none⟩) k k) (u.alloc (.cells (madeCells #[.int .u8 0] k) 5)) := fun u => by
    have h := run_make (P := Tryd.prog) u 42 5 i0 (.int .u8 0) Tryd.underlying42 hi hz0 .i64 .i64 (k : Int) (k : Int) (by omega) (Int.le_refl _) (by rw [hz2]; omega) (by omega)
    simpa [hz1, Value.cells] using h
  clear hi hz0 hz1 hz2
  have hown0 : (w.alloc (.cells (madeCells #[.int .u8 0] k) 5)).ownsRow w.heap.size 5 1 (.slice (some ⟨w.heap.size, 0, none⟩) k k) k (cellsAt k 0 n) := by
    have h := World.ownsRow_lit (base := w.heap.size) (e := 5) (size := 1) w (madeCells #[.int .u8 0] k) k (Nat.le_refl _) (by unfold maxLen; omega) (by simp [size_madeCells])
    rwa [made_bytes, ← cellsAt_zero k n] at h
  have HO : Hid ((w.alloc (.cells (madeCells #[.int .u8 0] k) 5)).ownsRow w.heap.size 5 1 (.slice (some ⟨w.heap.size, 0, none⟩) k k) k (cellsAt k 0 n)) := hown0
  clear hown0
  go_enter Tryd.func62, Tryd.ntmps62
  go_wp2_with (first
    | (go_at_call 82; refine (clamp _ _ _ _).mono ?_; rintro e w' ⟨rfl, rfl⟩; rw [hw]))
  go_loopw [1, 12] (fun nv iv wr => ∃ i : Nat, i ≤ k ∧ iv = .int .i64 i ∧ nv = .int .u64 (sh n i) ∧ wr.ownsRow w.heap.size 5 1 (.slice (some ⟨w.heap.size, 0, none⟩) k k) k (cellsAt k i n) ∧ Below w.heap.size w wr) (fun _ i _ => k - (intOf i).toNat)
  case atStart => exact ⟨0, Nat.zero_le _, rfl, rfl, HO.out, (Below.refl _ _).alloc (Nat.le_refl _) _⟩
  case round =>
    obtain ⟨i, hik, rfl, rfl, hown, hbel⟩ := hrel
    have hr := sh_range h0 h1 i
    by_cases hlt : i < k
    · have hc := hown.cellAt (k - 1 - i) (by omega)
      rw [cellsAt_get n hlt] at hc
      have hf := hown.frozenAt (k - 1 - i)
      clear hw hmk
      go_wp2
      go_roundw
      case rel => exact ⟨i + 1, by omega, by go_num, rfl, by rw [← cellsAt_set n hlt]; exact (hown.stored _ _).1, hbel.setCell (Nat.le_refl _) _⟩
      case measure => simp [intOf]; omega
    · have hki : i = k := by omega
      subst hki
      have hcv : (convert 42 9 (.slice (some ⟨w.heap.size, 0, none⟩) i i)).run Tryd.prog wr = .ok (.string (beB i n)) wr := by
        have h := run_convert_bytes_back (P := Tryd.prog) wr 42 9 5 ⟨w.heap.size, 0, none⟩ i (be i n) Tryd.underlying42 Tryd.underlying5 Tryd.underlying9 (fun j hj => by
          have hj' : j < i := by rw [be_length] at hj; exact hj
          have hc := hown.cellAt j (by omega)
          rw [cellsAt_full] at hc
          rw [add_at, hc]
          simp [List.getElem?_eq_getElem hj])
        rw [be_length] at h
        exact h
      clear hw hmk hown
      go_wp2
      go_ret
      exact ⟨rfl, hbel⟩

theorem putRef (width n : Int) (k : Nat) (w : World) (hk : k ≤ 8) (hw : max 0 (min width 8) = (k : Int)) (h0 : 0 ≤ n) (h1 : n < 18446744073709551616) :
    Calls Tryd.prog 84 #[.int .i64 width, .int .u64 n] w fun e w' => e = .returned (.string (beB k n)) ∧ Below w.heap.size w w' := by
  go_enter Tryd.func84, Tryd.ntmps84
  go_wp2
  go_loopw [1, 5, 6] (fun nv sv iv wr => ∃ i : Nat, i ≤ k ∧ iv = .int .i64 i ∧ nv = .int .u64 (sh n i) ∧ sv = .string (beB i n) ∧ Below w.heap.size w wr) (fun _ _ i _ => k - (intOf i).toNat)
  case atStart => exact ⟨0, Nat.zero_le _, rfl, rfl, rfl, Below.refl _ _⟩
  case round =>
    obtain ⟨i, hik, rfl, rfl, rfl, hbel⟩ := hrel
    have hr := sh_range h0 h1 i
    by_cases hlt : i < k
    · have hlw : (i : Int) < width := by omega
      have hl8 : (i : Int) < 8 := by omega
      have hcv : (convert 42 9 (.slice (some ⟨wr.heap.size, 0, none⟩) 1 1)).run Tryd.prog (wr.alloc (.cells #[.int .u8 (sh n i % 256)] 5)) = .ok (.string (oneB (sh n i % 256))) (wr.alloc (.cells #[.int .u8 (sh n i % 256)] 5)) := by
        exact run_convert_bytes_back (P := Tryd.prog) _ 42 9 5 ⟨wr.heap.size, 0, none⟩ 1 [UInt8.ofNat (sh n i % 256).toNat] Tryd.underlying42 Tryd.underlying5 Tryd.underlying9 (fun j hj => by
          have hj' : j = 0 := by simp at hj; omega
          subst hj'
          rw [add_at, World.cell?_alloc_mark]
          simp
          omega)
      have hsz := beB_size i n
      have hs1 := oneB_size (sh n i % 256)
      clear hw
      go_wp2
      go_roundw
      case rel => exact ⟨i + 1, by omega, by go_num, rfl, by rw [one_be], hbel.alloc hbel.size _⟩
      case measure => simp [intOf]; omega
    · have hki : i = k := by omega
      subst hki
      by_cases hlw : (i : Int) < width
      · have hl8 : ¬ (i : Int) < 8 := by omega
        clear hw
        go_wp2
        go_ret
        exact ⟨rfl, hbel⟩
      · clear hw
        go_wp2
        go_ret
        exact ⟨rfl, hbel⟩

/-- How many bytes a width asks for. -/
def kOf (width : Int) : Nat := (max 0 (min width 8)).toNat
theorem kOf_le (width : Int) : kOf width ≤ 8 := by unfold kOf; omega
theorem kOf_eq (width : Int) : max 0 (min width 8) = (kOf width : Int) := by unfold kOf; omega

theorem putAny (width n : Int) (w : World) (h0 : 0 ≤ n) (h1 : n < 18446744073709551616) :
    Calls Tryd.prog 62 #[.int .i64 width, .int .u64 n] w fun e w' => e = .returned (.string (beB (kOf width) n)) ∧ Below w.heap.size w w' :=
  put width n (kOf width) w (kOf_le width) (kOf_eq width) h0 h1

theorem putRefAny (width n : Int) (w : World) (h0 : 0 ≤ n) (h1 : n < 18446744073709551616) :
    Calls Tryd.prog 84 #[.int .i64 width, .int .u64 n] w fun e w' => e = .returned (.string (beB (kOf width) n)) ∧ Below w.heap.size w w' :=
  putRef width n (kOf width) w (kOf_le width) (kOf_eq width) h0 h1

end Go.Proofs.YtkelipedpjmmaaaDoor.Wp
