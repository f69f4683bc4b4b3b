/-
  The walk of pack.widthOf, over the library's contract for math/bits.Len64: it returns how many bytes a number has without noughts ahead ('wid'). Nothing in memory has turned. Condition: the number is of 64 bits.
-/
import Derived.Test.YtdmbpejoekeenaaRows
import Derived.Test.YtdmbpejoekeenaaMathW
import Derived.WalkKit
import Derived.ProofKit
import Derived.OpenShut
import Derived.Shelf.Strconv.Itoa0
namespace Go.Proofs.Ytdmbpejoekeenaa.Wz
open Go.ChangeShapes Go.WideShapes Go.ChangeAt Go.RowKit Go.Shelf Go.Proofs.Ytdmbpejoekeenaa.M

/-- The library's numbers for functions and types, as this program has them. -/
def ren : Ren := ⟨fun | 129 => 55 | n => n, fun | 9 => 9 | 3 => 3 | 4 => 4 | 5 => 5 | 46 => 100 | 53 => 79 | n => n, fun | n => n⟩
theorem lays (h : Try.f55 = Body.n129 ren) : Lays.n129 Try.prog ren := {
  mixed := by kernel_rfl
  f129 := Try.func55.trans (congrArg some h)
  t3 := Try.underlying3
  a3 := Try.isAgg3
  z3 := Try.sizeOf3
  v3 := Try.zeroValue3
  t4 := Try.underlying4
  a4 := Try.isAgg4
  z4 := Try.sizeOf4
  v4 := Try.zeroValue4
  t5 := Try.underlying5
  a5 := Try.isAgg5
  z5 := Try.sizeOf5
  v5 := Try.zeroValue5
  t9 := Try.underlying9
  a9 := Try.isAgg9
  z9 := Try.sizeOf9
  v9 := Try.zeroValue9
  t46 := Try.underlying100
  a46 := Try.isAgg100
  z46 := Try.sizeOf100
  v46 := Try.zeroValue100
  t53 := Try.underlying79
  a53 := Try.isAgg79
  z53 := Try.sizeOf79
  v53 := Try.zeroValue79 }

theorem len (x : Int) (w : World) (h0 : 0 ≤ x) (h1 : x < 18446744073709551616) :
    Calls Try.prog 55 #[.int .u64 x] w fun e w' => e = .returned (.int .i64 (Lib.bitLen x.toNat)) ∧ w = w' :=
  (Any.bits_Len64 (lays (by kernel_rfl)) x w h0 (by omega)).mono (fun _ _ h => ⟨h.1, h.2.symm⟩)

theorem width (x : Int) (w : World) (h0 : 0 ≤ x) (h1 : x < 18446744073709551616) :
    Calls Try.prog 45 #[.int .u64 x] w fun e w' => e = .returned (.int .i64 (wid x)) ∧ w = w' := by
  have hl : Lib.bitLen x.toNat ≤ 64 := Lib.bitLen_le x.toNat 64 (Nat.le_refl _) (by omega)
  have e : ((Lib.bitLen x.toNat : Int) + 7) / 8 = (wid x : Int) := by unfold wid; omega
  have E : Hid _ := e
  clear e
  go_enter Try.func45, Try.ntmps45
  go_wp2_with fail
  refine (len x _ h0 h1).mono ?_
  rintro e w1 ⟨rfl, rfl⟩
  generalize Lib.bitLen x.toNat = b at hl E
  go_wp2
  go_ret
  exact ⟨ret_int E.out, rfl⟩

end Go.Proofs.Ytdmbpejoekeenaa.Wz
