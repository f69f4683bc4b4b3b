/-
  The walk of pack.widthOf, over the library's contract for math/bits.Len64: it returns how many bytes a number has without noughts ahead ('wid'). Nothing in memory has turned. Condition: the number is of 64 bits.
-/
import Derived.Test.YtkelipedpjmmaaaGreatDoorRows
import Derived.Test.YtkelipedpjmmaaaGreatDoorQb
import Derived.WalkKit
import Derived.ProofKit
import Derived.OpenShut
import Derived.Shelf.Strconv.Itoa0
namespace Go.Proofs.YtkelipedpjmmaaaGreatDoor.Wz
open Go.ChangeShapes Go.WideShapes Go.ChangeAt Go.RowKit Go.Shelf Go.Proofs.YtkelipedpjmmaaaGreatDoor.M

/-- The library's numbers for functions and types, as this program has them. -/
def ren : Ren := ⟨fun | 129 => 74 | n => n, fun | 9 => 9 | 3 => 3 | 4 => 4 | 5 => 5 | 46 => 119 | 53 => 85 | n => n, fun | n => n⟩
theorem lays (h : Tryz.f74 = Body.n129 ren) : Lays.n129 Tryz.prog ren := {
  mixed := by kernel_rfl
  f129 := Tryz.func74.trans (congrArg some h)
  t3 := Tryz.underlying3
  a3 := Tryz.isAgg3
  z3 := Tryz.sizeOf3
  v3 := Tryz.zeroValue3
  t4 := Tryz.underlying4
  a4 := Tryz.isAgg4
  z4 := Tryz.sizeOf4
  v4 := Tryz.zeroValue4
  t5 := Tryz.underlying5
  a5 := Tryz.isAgg5
  z5 := Tryz.sizeOf5
  v5 := Tryz.zeroValue5
  t9 := Tryz.underlying9
  a9 := Tryz.isAgg9
  z9 := Tryz.sizeOf9
  v9 := Tryz.zeroValue9
  t46 := Tryz.underlying119
  a46 := Tryz.isAgg119
  z46 := Tryz.sizeOf119
  v46 := Tryz.zeroValue119
  t53 := Tryz.underlying85
  a53 := Tryz.isAgg85
  z53 := Tryz.sizeOf85
  v53 := Tryz.zeroValue85 }

theorem len (x : Int) (w : World) (h0 : 0 ≤ x) (h1 : x < 18446744073709551616) :
    Calls Tryz.prog 74 #[.int .u64 x] w fun e w' => e = .returned (.int .i64 (Lib.bitLen x.toNat)) ∧ w = w' :=
  (Any.bits_Len64 (lays (by kernel_rfl)) x w h0 (by omega)).mono (fun _ _ h => ⟨h.1, h.2.symm⟩)

theorem width (x : Int) (w : World) (h0 : 0 ≤ x) (h1 : x < 18446744073709551616) :
    Calls Tryz.prog 53 #[.int .u64 x] w fun e w' => e = .returned (.int .i64 (wid x)) ∧ w = w' := by
  have hl : Lib.bitLen x.toNat ≤ 64 := Lib.bitLen_le x.toNat 64 (Nat.le_refl _) (by omega)
  have e : ((Lib.bitLen x.toNat : Int) + 7) / 8 = (wid x : Int) := by unfold wid; omega
  have E : Hid _ := e
  clear e
  go_enter Tryz.func53, Tryz.ntmps53
  go_wp2_with fail
  refine (len x _ h0 h1).mono ?_
  rintro e w1 ⟨rfl, rfl⟩
  generalize Lib.bitLen x.toNat = b at hl E
  go_wp2
  go_ret
  exact ⟨ret_int E.out, rfl⟩

end Go.Proofs.YtkelipedpjmmaaaGreatDoor.Wz
