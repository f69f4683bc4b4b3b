/-
  The walks of a stream's small functions: how many bytes a region has room for, where a half begins, the next head, what the last cell has of data. Nothing that was in memory turns.
-/
import Derived.Test.YtaojoecmbgmhoaaPb
import Derived.Test.YtaojoecmbgmhoaaWa
import Derived.Test.YtaojoecmbgmhoaaDa
import Derived.Lib.MinMax
import Derived.Deep.RegionHeld3
namespace Go.Proofs.Ytaojoecmbgmhoaa.Wst
open Go.ChangeShapes Go.WideShapes Go.ChangeAt Go.RowKit Go.Proofs.Ytaojoecmbgmhoaa.M Go.Proofs.Ytaojoecmbgmhoaa.Wd

set_option maxRecDepth 100000 in
theorem halfSize (n : Nat) (w : World) (h1 : 1 ≤ n) (h2 : n ≤ 4096) :
    Calls Try.prog 30 #[.int .i64 (n : Int)] w fun e w' => e = .returned (.int .i64 (((n - 1) / 2 : Nat) : Int)) ∧ w = w' := by
  have e1 : ((n : Int) - 1).tdiv 2 = (((n - 1) / 2 : Nat) : Int) := by
    rw [show (n : Int) - 1 = ((n - 1 : Nat) : Int) by omega]
    rfl
  go_enter Try.func30, Try.ntmps30
  go_wp2
  go_ret
  exact ⟨rfl, rfl⟩

/-- How many bytes of frames there is room for. -/
def capN (n : Nat) : Int := 55 * (((n - 1) / 2 : Nat) : Int) - 1
set_option maxRecDepth 100000 in
theorem capacity (n : Int) (w : World) :
    Calls Try.prog 44 #[.int .i64 n] w fun e w' => e = .returned (.int .i64 (if n < 3 then 0 else capN (min n 4096).toNat)) ∧ w = w' := by
  by_cases c : n < 3
  · rw [if_pos c]
    go_enter Try.func44, Try.ntmps44
    go_wp2
    go_ret
    exact ⟨rfl, rfl⟩
  · rw [if_neg c]
    obtain ⟨m, hm⟩ : ∃ m : Nat, min n 4096 = (m : Int) := ⟨(min n 4096).toNat, by omega⟩
    have C := hid fun w => halfSize m w (by omega) (by omega)
    have hE : Hid (capN (min n 4096).toNat = (((m - 1) / 2 : Nat) : Int) * 55 - 1) := by
      rw [hm, Int.toNat_natCast]
      show (55 : Int) * _ - 1 = _
      omega
    have hb : (m - 1) / 2 ≤ 2047 := by omega
    generalize (m - 1) / 2 = h at *
    go_enter Try.func44, Try.ntmps44
    go_wp2_with fail
    refine (C.out _).mono ?_
    rintro e w1 ⟨rfl, rfl⟩
    go_wp2
    go_ret
    refine ⟨?_, rfl⟩
    rw [hE.out]
    rfl

set_option maxRecDepth 100000 in
theorem startOf (half n : Nat) (w : World) (h1 : 1 ≤ n) (h2 : n ≤ 4096) (hh : half < 2) :
    Calls Try.prog 33 #[.int .i64 (half : Int), .int .i64 (n : Int)] w fun e w' => e = .returned (.int .i64 ((1 + half * ((n - 1) / 2) : Nat) : Int)) ∧ w = w' := by
  have C := hid fun w => halfSize n w h1 h2
  have hb : (n - 1) / 2 ≤ 2047 := by omega
  generalize (n - 1) / 2 = h at *
  have hX : ∃ X : Int, Hid (((1 + half * h : Nat) : Int) = X) ∧ (1 + (half : Int) * (h : Int) = X) ∧ 0 ≤ X ∧ X ≤ 4096 ∧ (half : Int) * (h : Int) ≤ 2047 ∧ 0 ≤ (half : Int) * (h : Int) := by
    rcases (by omega : half = 0 ∨ half = 1) with rfl | rfl
    · exact ⟨1, by show ((1 + 0 * h : Nat) : Int) = 1; omega, by omega, by omega, by omega, by omega, by omega⟩
    · exact ⟨1 + (h : Int), by show ((1 + 1 * h : Nat) : Int) = 1 + (h : Int); omega, by omega, by omega, by omega, by omega, by omega⟩
  obtain ⟨X, HX, e1, e2, e3, e4, e5⟩ := hX
  go_enter Try.func33, Try.ntmps33
  go_wp2_with fail
  refine (C.out _).mono ?_
  rintro e w1 ⟨rfl, rfl⟩
  go_wp2
  go_ret
  refine ⟨?_, rfl⟩
  rw [HX.out]
  rfl

/-- A head as a value. -/
def hv (g : Int) (half : Nat) : Value := .agg #[.int .i64 g, .int .i64 (half : Int)]
set_option maxRecDepth 100000 in
theorem next (g : Int) (half : Nat) (w : World) (h0 : 0 ≤ g) (h1 : g ≤ 281474976710655) (hh : half < 2) :
    Calls Try.prog 37 #[hv g half] w fun e w' => e = .returned (hv (g + 1) (1 - half)) ∧ Below w.heap.size w w' := by
  unfold hv
  rcases (by omega : half = 0 ∨ half = 1) with rfl | rfl
  all_goals
    go_enter Try.func37, Try.ntmps37
    go_wp2
    exact bodyPost_ret (v := .agg #[.int .i64 (g + 1), .int .i64 _]) (by simp [results, Try.results37, go_sem]) rfl ⟨rfl, ((Below.refl _ _).alloc (Nat.le_refl _) _).alloc (by simp) _⟩

set_option maxRecDepth 100000 in
theorem tailOf (s : ByteArray) (w : World) (hs : s.size ≤ 281474976710656) :
    Calls Try.prog 25 #[.string s] w fun e w' => e = .returned (.string (tl s)) ∧ Below w.heap.size w w' := by
  have C := hid fun w => Wc.clone (tl s) w (by rw [tl_size]; omega)
  go_enter Try.func25, Try.ntmps25
  go_wp2_with fail
  rw [tl_cut]
  refine (C.out _).mono ?_
  rintro e w1 ⟨rfl, b1⟩
  go_wp2
  go_ret
  exact ⟨rfl, b1⟩

end Go.Proofs.Ytaojoecmbgmhoaa.Wst
