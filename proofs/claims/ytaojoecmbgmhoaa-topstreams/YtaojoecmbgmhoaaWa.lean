/-
  Several texts in one. The walks of words.Put, of words.clamp, of the document's Put, and of the law WordsPuts: each Put returns the lowest bytes of the number, as many as the width asks for (none to eight), the highest first, and nothing that was in memory has turned; the law returns true. Conditions: none but that each number fits its kind. The walks of words.Get, of the document's Get, and of the law WordsGets: each returns the number, the place behind it and the error that 'gN', 'gX', 'gE' say; the law returns true. Conditions: none but that each number fits its kind and that the text's length is an int. The walk of strings.Clone, over the library's contract for internal/stringslite.Clone: the text that comes back has the bytes of the text that was handed in, and nothing that was in memory has turned. Condition: the text is of at most 2^48 bytes. The walks of words.Bits, of the document's Bit and Bits, and of the law WordsBits: each returns the bits that 'bitsN' says; the law returns true. Conditions: none but that each number fits its kind. The walks of frame.addByte, frame.addText, frame.Sum, frame.frameSum, of the document's Sum, and of the law FrameSums: each comes to the state, or the check sum, that 'cb', 'ct', 'crc' say; the law returns true. Conditions: none but that each number fits its kind and that a text's length is an int.
-/
import Derived.Test.YtaojoecmbgmhoaaRows
import Derived.Test.YtaojoecmbgmhoaaPa
import Derived.WalkKit
import Derived.ProofKit
import Derived.OpenShut
import Derived.Laws.IdiomStrings
import Derived.Shelf.LaysM
import Derived.Shelf.Strconv.Clone
namespace Go.Proofs.Ytaojoecmbgmhoaa.Wp
open Go.ChangeShapes Go.WideShapes Go.ChangeAt Go.RowKit Go.Proofs.Ytaojoecmbgmhoaa.M

theorem info8 : (Try.prog.info? 5).map (fun i => (i.zero, i.size, i.bytes)) = some (some (.int .u8 0), 1, 1) := by kernel_rfl

theorem clamp (n lo hi : Int) (w : World) :
    Calls Try.prog 57 #[.int .i64 n, .int .i64 lo, .int .i64 hi] w fun e w' => e = .returned (.int .i64 (max lo (min n hi))) ∧ w = w' := by
  by_cases c1 : hi < n
  · by_cases c2 : lo < hi
    · have e : max lo (min n hi) = hi := by omega
      rw [e]
      go_enter Try.func57, Try.ntmps57
      go_wp2
      go_ret
      exact ⟨rfl, rfl⟩
    · have e : max lo (min n hi) = lo := by omega
      rw [e]
      go_enter Try.func57, Try.ntmps57
      go_wp2
      go_ret
      exact ⟨rfl, rfl⟩
  · by_cases c2 : lo < n
    · have e : max lo (min n hi) = n := by omega
      rw [e]
      go_enter Try.func57, Try.ntmps57
      go_wp2
      go_ret
      exact ⟨rfl, rfl⟩
    · have e : max lo (min n hi) = lo := by omega
      rw [e]
      go_enter Try.func57, Try.ntmps57
      go_wp2
      go_ret
      exact ⟨rfl, rfl⟩

theorem add_at (g j : Nat) : (⟨g, 0, none⟩ : Addr).add j = ⟨g, j, none⟩ := by
  unfold Addr.add
  split
  · rename_i h; rw [h]
  · simp

theorem put (width n : Int) (k : Nat) (w : World) (hk : k ≤ 8) (hw : max 0 (min width 8) = (k : Int)) (h0 : 0 ≤ n) (h1 : n < 18446744073709551616) :
    Calls Try.prog 40 #[.int .i64 width, .int .u64 n] w fun e w' => e = .returned (.string (beB k n)) ∧ Below w.heap.size w w' := by
  obtain ⟨i0, hi, hz0, hz1, hz2⟩ := info_parts info8
  have hmk : ∀ u : World, (Instr.makeSlice 52 (.int .i64 (k : Int)) (.int .i64 (k : Int))).run Try.prog u =
      .ok (.slice (some ⟨u.heap.size, 0, none⟩) k k) (u.alloc (.cells (madeCells #[.int .u8 0] k) 5)) := fun u => by
    have h := run_make (P := Try.prog) u 52 5 i0 (.int .u8 0) Try.underlying52 hi hz0 .i64 .i64 (k : Int) (k : Int) (by omega) (Int.le_refl _) (by rw [hz2]; omega) (by omega)
    simpa [hz1, Value.cells] using h
  clear hi hz0 hz1 hz2
  have hown0 : (w.alloc (.cells (madeCells #[.int .u8 0] k) 5)).ownsRow w.heap.size 5 1 (.slice (some ⟨w.heap.size, 0, none⟩) k k) k (cellsAt k 0 n) := by
    have h := World.ownsRow_lit (base := w.heap.size) (e := 5) (size := 1) w (madeCells #[.int .u8 0] k) k (Nat.le_refl _) (by unfold maxLen; omega) (by simp [size_madeCells])
    rwa [made_bytes, ← cellsAt_zero k n] at h
  have HO : Hid ((w.alloc (.cells (madeCells #[.int .u8 0] k) 5)).ownsRow w.heap.size 5 1 (.slice (some ⟨w.heap.size, 0, none⟩) k k) k (cellsAt k 0 n)) := hown0
  clear hown0
  go_enter Try.func40, Try.ntmps40
  go_wp2_with (first
    | (go_at_call 57; refine (clamp _ _ _ _).mono ?_; rintro e w' ⟨rfl, rfl⟩; rw [hw]))
  go_loopw [1, 12] (fun nv iv wr => ∃ i : Nat, i ≤ k ∧ iv = .int .i64 i ∧ nv = .int .u64 (sh n i) ∧ wr.ownsRow w.heap.size 5 1 (.slice (some ⟨w.heap.size, 0, none⟩) k k) k (cellsAt k i n) ∧ Below w.heap.size w wr) (fun _ i _ => k - (intOf i).toNat)
  case atStart => exact ⟨0, Nat.zero_le _, rfl, rfl, HO.out, (Below.refl _ _).alloc (Nat.le_refl _) _⟩
  case round =>
    obtain ⟨i, hik, rfl, rfl, hown, hbel⟩ := hrel
    have hr := sh_range h0 h1 i
    by_cases hlt : i < k
    · have hc := hown.cellAt (k - 1 - i) (by omega)
      rw [cellsAt_get n hlt] at hc
      have hf := hown.frozenAt (k - 1 - i)
      clear hw hmk
      go_wp2
      go_roundw
      case rel => exact ⟨i + 1, by omega, by go_num, rfl, by rw [← cellsAt_set n hlt]; exact (hown.stored _ _).1, hbel.setCell (Nat.le_refl _) _⟩
      case measure => simp [intOf]; omega
    · have hki : i = k := by omega
      subst hki
      have hcv : (convert 52 9 (.slice (some ⟨w.heap.size, 0, none⟩) i i)).run Try.prog wr = .ok (.string (beB i n)) wr := by
        have h := run_convert_bytes_back (P := Try.prog) wr 52 9 5 ⟨w.heap.size, 0, none⟩ i (be i n) Try.underlying52 Try.underlying5 Try.underlying9 (fun j hj => by
          have hj' : j < i := by rw [be_length] at hj; exact hj
          have hc := hown.cellAt j (by omega)
          rw [cellsAt_full] at hc
          rw [add_at, hc]
          simp [List.getElem?_eq_getElem hj])
        rw [be_length] at h
        exact h
      clear hw hmk hown
      go_wp2
      go_ret
      exact ⟨rfl, hbel⟩

/-- How many bytes a width asks for. -/
def kOf (width : Int) : Nat := (max 0 (min width 8)).toNat
theorem kOf_le (width : Int) : kOf width ≤ 8 := by unfold kOf; omega
theorem kOf_eq (width : Int) : max 0 (min width 8) = (kOf width : Int) := by unfold kOf; omega

theorem putAny (width n : Int) (w : World) (h0 : 0 ≤ n) (h1 : n < 18446744073709551616) :
    Calls Try.prog 40 #[.int .i64 width, .int .u64 n] w fun e w' => e = .returned (.string (beB (kOf width) n)) ∧ Below w.heap.size w w' :=
  put width n (kOf width) w (kOf_le width) (kOf_eq width) h0 h1

end Go.Proofs.Ytaojoecmbgmhoaa.Wp

namespace Go.Proofs.Ytaojoecmbgmhoaa.Wg
open Go.ChangeShapes Go.WideShapes Go.ChangeAt Go.RowKit Go.Proofs.Ytaojoecmbgmhoaa.M

theorem get (s : ByteArray) (at_ width : Int) (w : World) (hs : s.size ≤ maxLen) (h0 : -9223372036854775808 ≤ at_) (h1 : at_ < 9223372036854775808) :
    Calls Try.prog 50 #[.string s, .int .i64 at_, .int .i64 width] w fun e w' => e = .returned (.tuple #[.int .u64 (gN s at_ width), .int .i64 (gX s at_ width), .int .i64 (gE s at_ width)]) ∧ w = w' := by
  unfold maxLen at hs
  by_cases c0 : width < 1 ∨ 8 < width ∨ at_ < 0 ∨ (s.size : Int) < at_
  · obtain ⟨e1, e2, e3⟩ := g_arg c0
    rw [e1, e2, e3]
    clear e1 e2 e3
    by_cases c1 : width < 1
    · go_enter Try.func50, Try.ntmps50
      go_wp2
      go_ret3
      exact ⟨rfl, rfl⟩
    · by_cases c2 : 8 < width
      · go_enter Try.func50, Try.ntmps50
        go_wp2
        go_ret3
        exact ⟨rfl, rfl⟩
      · by_cases c3 : at_ < 0
        · go_enter Try.func50, Try.ntmps50
          go_wp2
          go_ret3
          exact ⟨rfl, rfl⟩
        · have c4 : (s.size : Int) < at_ := by omega
          clear c0
          go_enter Try.func50, Try.ntmps50
          go_wp2
          go_ret3
          exact ⟨rfl, rfl⟩
  · by_cases c5 : (s.size : Int) - at_ < width
    · obtain ⟨e1, e2, e3⟩ := g_short c0 c5
      rw [e1, e2, e3]
      have c1 : ¬ width < 1 := by omega
      have c2 : ¬ 8 < width := by omega
      have c3 : ¬ at_ < 0 := by omega
      have c4 : ¬ (s.size : Int) < at_ := by omega
      clear e1 e2 e3 c0
      go_enter Try.func50, Try.ntmps50
      go_wp2
      go_ret3
      exact ⟨rfl, rfl⟩
    · obtain ⟨e1, e2, e3⟩ := g_ok c0 c5
      rw [e1, e2, e3]
      clear e1 e2 e3
      obtain ⟨A, rfl⟩ := Int.eq_ofNat_of_zero_le (show 0 ≤ at_ by omega)
      obtain ⟨K, rfl⟩ := Int.eq_ofNat_of_zero_le (show 0 ≤ width by omega)
      have c1 : ¬ (K : Int) < 1 := by omega
      have c2 : ¬ 8 < (K : Int) := by omega
      have c3 : ¬ (A : Int) < 0 := by omega
      have c4 : ¬ (s.size : Int) < (A : Int) := by omega
      clear c0
      have hg := get_bt s
      simp only [Int.toNat_natCast]
      go_enter Try.func50, Try.ntmps50
      go_wp2
      go_loop [9, 34] (fun nv iv => ∃ i : Nat, i ≤ K ∧ iv = .int .i64 (i : Int) ∧ nv = .int .u64 (num s A i)) (fun _ i => K - (intOf i).toNat)
      case atStart => exact ⟨0, Nat.zero_le _, rfl, rfl⟩
      case round =>
        obtain ⟨i, hi, rfl, rfl⟩ := hrel
        by_cases hlt : i < K
        · obtain ⟨n0, n1⟩ := num_7 s A (show i ≤ 7 by omega)
          obtain ⟨b0, b1⟩ := bt_range s (A + i)
          have ho := or_byte n0 n1 b0 b1
          go_wp2
          go_round
          case rel => exact ⟨i + 1, by omega, by go_num, rfl⟩
          case measure => simp [intOf] <;> omega
        · have hki : i = K := by omega
          subst hki
          go_wp2
          go_ret3
          exact ⟨rfl, rfl⟩

end Go.Proofs.Ytaojoecmbgmhoaa.Wg

namespace Go.Proofs.Ytaojoecmbgmhoaa.Wc
open Go.ChangeShapes Go.WideShapes Go.ChangeAt Go.RowKit Go.Shelf

/-- The library's numbers for functions and types, as this program has them. -/
def ren : Ren := ⟨fun | 316 => 61 | n => n, fun | 9 => 9 | 3 => 3 | 4 => 4 | 37 => 52 | 0 => 0 | 127 => 128 | 5 => 5 | n => n, fun | n => n⟩
theorem lays : LaysM.n316 Try.prog ren := {
  mixed := by kernel_rfl
  f316 := Try.func61.trans (congrArg some (by kernel_rfl))
  t0 := Try.underlying0
  a0 := Try.isAgg0
  z0 := Try.sizeOf0
  v0 := Try.zeroValue0
  t3 := Try.underlying3
  a3 := Try.isAgg3
  z3 := Try.sizeOf3
  v3 := Try.zeroValue3
  t4 := Try.underlying4
  a4 := Try.isAgg4
  z4 := Try.sizeOf4
  v4 := Try.zeroValue4
  t9 := Try.underlying9
  a9 := Try.isAgg9
  z9 := Try.sizeOf9
  v9 := Try.zeroValue9
  t37 := Try.underlying52
  a37 := Try.isAgg52
  z37 := Try.sizeOf52
  v37 := Try.zeroValue52
  t127 := Try.underlying128
  a127 := Try.isAgg128
  z127 := Try.sizeOf128
  v127 := Try.zeroValue128
  t5 := Try.underlying5
  a5 := Try.isAgg5
  z5 := Try.sizeOf5
  v5 := Try.zeroValue5
  i0 := by kernel_rfl
  i3 := by kernel_rfl
  i4 := by kernel_rfl
  i5 := by kernel_rfl
  i9 := by kernel_rfl
  i37 := by kernel_rfl
  i127 := by kernel_rfl }

theorem inner (s : ByteArray) (w : World) (hs : s.size ≤ 281474976710656) :
    Calls Try.prog 61 #[.string s] w fun e w' => e = .returned (.string s) ∧ Below w.heap.size w w' := Any.stringslite_Clone lays s w hs

theorem clone (s : ByteArray) (w : World) (hs : s.size ≤ 281474976710656) :
    Calls Try.prog 43 #[.string s] w fun e w' => e = .returned (.string s) ∧ Below w.heap.size w w' := by
  go_enter Try.func43, Try.ntmps43
  go_wp2_with fail
  refine (inner _ _ hs).mono ?_
  rintro e w1 ⟨rfl, b1⟩
  go_wp2
  go_ret
  exact ⟨rfl, b1⟩

end Go.Proofs.Ytaojoecmbgmhoaa.Wc

namespace Go.Proofs.Ytaojoecmbgmhoaa.Wb
open Go.ChangeShapes Go.WideShapes Go.ChangeAt Go.RowKit Go.Proofs.Ytaojoecmbgmhoaa.M

end Go.Proofs.Ytaojoecmbgmhoaa.Wb

namespace Go.Proofs.Ytaojoecmbgmhoaa.Ws
open Go.ChangeShapes Go.WideShapes Go.ChangeAt Go.RowKit Go.Proofs.Ytaojoecmbgmhoaa.M

theorem addByte (c x : Nat) (w : World) (hc : c < 4294967296) (hx : x < 256) :
    Calls Try.prog 75 #[.int .u32 (c : Int), .int .u8 (x : Int)] w fun e w' => e = .returned (.int .u32 (cb c x 8 : Int)) ∧ w = w' := by
  go_enter Try.func75, Try.ntmps75
  go_wp2
  go_loop [0, 7] (fun cv iv => ∃ i : Nat, i ≤ 8 ∧ iv = .int .i64 (i : Int) ∧ cv = .int .u32 (cb c x i : Int)) (fun _ i => 8 - (intOf i).toNat)
  case atStart => exact ⟨0, Nat.zero_le _, rfl, rfl⟩
  case round =>
    obtain ⟨i, hi, rfl, rfl⟩ := hrel
    by_cases hlt : i < 8
    · have hr := cb_lt x hc i
      have S : Hid (cb c x (i + 1) = stp (cb c x i) (x / 2 ^ i)) := rfl
      generalize cb c x i = d at hr S
      have hy : x / 2 ^ i < 256 := Nat.lt_of_le_of_lt (Nat.div_le_self _ _) hx
      have ed := divPow x i
      by_cases hs : d % 2 = x / 2 ^ i % 2
      · have ho := out_same (c := d) (y := x / 2 ^ i) hr (by omega) hs
        have E : Hid (((stp d (x / 2 ^ i) : Nat) : Int) = (d : Int) / 2) := stp_same hs
        clear hs
        generalize x / 2 ^ i = y at *
        go_wp2
        go_round
        case rel => exact ⟨i + 1, by omega, by go_num, by rw [S.out, E.out]⟩
        case measure => simp [intOf] <;> omega
      · have ho := out_other (c := d) (y := x / 2 ^ i) hr (by omega) hs
        have E : Hid (((stp d (x / 2 ^ i) : Nat) : Int) = bits .xor .u32 ((d : Int) / 2) 2197175160) := stp_other hr hs
        clear hs
        generalize x / 2 ^ i = y at *
        go_wp2
        go_round
        case rel => exact ⟨i + 1, by omega, by go_num, by rw [S.out, E.out]⟩
        case measure => simp [intOf] <;> omega
    · obtain rfl : i = 8 := by omega
      go_wp2
      go_ret
      exact ⟨rfl, rfl⟩

theorem addText (c : Nat) (s : ByteArray) (w : World) (hc : c < 4294967296) (hs : s.size ≤ maxLen) :
    Calls Try.prog 58 #[.int .u32 (c : Int), .string s] w fun e w' => e = .returned (.int .u32 (ct c s s.size : Int)) ∧ w = w' := by
  unfold maxLen at hs
  go_enter Try.func58, Try.ntmps58
  go_wp2
  go_loop [0, 8] (fun cv iv => ∃ i : Nat, i ≤ s.size ∧ iv = .int .i64 (i : Int) ∧ cv = .int .u32 (ct c s i : Int)) (fun _ i => s.size - (intOf i).toNat)
  case atStart => exact ⟨0, Nat.zero_le _, rfl, rfl⟩
  case round =>
    obtain ⟨i, hi, rfl, rfl⟩ := hrel
    by_cases hlt : i < s.size
    · have hr := ct_lt s hc i
      have S : Hid (ct c s (i + 1) = cb (ct c s i) (bn s i) 8) := rfl
      generalize ct c s i = d at hr S
      have hb := bn_lt s i
      have eb : ∀ h, ((s[i]'h).toNat : Int) = (bn s i : Int) := fun h => by rw [bn_int]; exact get_bt s i h
      generalize bn s i = x at hb eb S
      go_wp2_with (go_at_call 75; refine (addByte d x _ hr hb).mono ?_; rintro e w1 ⟨rfl, rfl⟩)
      go_round
      case rel => exact ⟨i + 1, by omega, by go_num, by rw [S.out]⟩
      case measure => simp [intOf] <;> omega
    · obtain rfl : i = s.size := by omega
      go_wp2
      go_ret
      exact ⟨rfl, rfl⟩

theorem not_nat {d : Nat} (h : d < 4294967296) : bits .xor .u32 IntKind.u32.max (d : Int) = ((4294967295 - d : Nat) : Int) := by
  rw [not_u32 _ (by omega) (by omega)]
  omega

theorem frameSum (a b : ByteArray) (w : World) (ha : a.size ≤ maxLen) (hb : b.size ≤ maxLen) :
    Calls Try.prog 41 #[.string a, .string b] w fun e w' => e = .returned (.int .u32 (crc (a ++ b) : Int)) ∧ w = w' := by
  have C : Hid (∀ w, Calls Try.prog 58 #[.int .u32 4294967295, .string a] w fun e w' => e = .returned (.int .u32 (ct 4294967295 a a.size : Int)) ∧ w = w') := fun w => addText 4294967295 a w (by decide) ha
  have E : Hid (crc (a ++ b) = 4294967295 - ct (ct 4294967295 a a.size) b b.size) := by unfold crc; rw [ct_app]; exact rfl
  have hr : ct 4294967295 a a.size < 4294967296 := ct_lt a (by decide) a.size
  generalize ct 4294967295 a a.size = d at C E hr
  have C2 : Hid (∀ w, Calls Try.prog 58 #[.int .u32 (d : Int), .string b] w fun e w' => e = .returned (.int .u32 (ct d b b.size : Int)) ∧ w = w') := fun w => addText d b w hr hb
  have hr2 : ct d b b.size < 4294967296 := ct_lt b hr b.size
  generalize ct d b b.size = d2 at C2 E hr2
  have F : Hid _ := not_nat hr2
  go_enter Try.func41, Try.ntmps41
  go_wp2_with fail
  refine (C.out _).mono ?_
  rintro e w1 ⟨rfl, rfl⟩
  go_wp2_with fail
  refine (C2.out _).mono ?_
  rintro e w1 ⟨rfl, rfl⟩
  go_wp2
  go_ret
  exact ⟨ret_int (by rw [E.out]; exact F.out), rfl⟩

theorem bit_nat (x k : Nat) : ((bitB (x : Int) (k : Int)).toNat : Int) = ((x / 2 ^ k % 2 : Nat) : Int) := by
  rw [← hv_bit (by omega), hv_nat]
  omega

theorem nine : crc ⟨#[49, 50, 51, 52, 53, 54, 55, 56, 57]⟩ = 3808858755 := by decide +kernel

end Go.Proofs.Ytaojoecmbgmhoaa.Ws
