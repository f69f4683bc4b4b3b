/-
  The walk of pack.widthOf, over the library's contract for math/bits.Len64: it returns how many bytes a number has without noughts ahead ('wid'). Nothing in memory has turned. Condition: the number is of 64 bits.
-/
import Derived.Test.YtkelipedpjmmaaaDoorRows
import Derived.Test.YtkelipedpjmmaaaDoorQb
import Derived.WalkKit
import Derived.ProofKit
import Derived.OpenShut
import Derived.Shelf.Strconv.Itoa0
namespace Go.Proofs.YtkelipedpjmmaaaDoor.Wz
open Go.ChangeShapes Go.WideShapes Go.ChangeAt Go.RowKit Go.Shelf Go.Proofs.YtkelipedpjmmaaaDoor.M

/-- The library's numbers for functions and types, as this program has them. -/
def ren : Ren := ⟨fun | 129 => 87 | n => n, fun | 9 => 9 | 3 => 3 | 4 => 4 | 5 => 5 | 46 => 132 | 53 => 87 | n => n, fun | n => n⟩
theorem lays (h : Tryd.f87 = Body.n129 ren) : Lays.n129 Tryd.prog ren := {
  mixed := by kernel_rfl
  f129 := Tryd.func87.trans (congrArg some h)
  t3 := Tryd.underlying3
  a3 := Tryd.isAgg3
  z3 := Tryd.sizeOf3
  v3 := Tryd.zeroValue3
  t4 := Tryd.underlying4
  a4 := Tryd.isAgg4
  z4 := Tryd.sizeOf4
  v4 := Tryd.zeroValue4
  t5 := Tryd.underlying5
  a5 := Tryd.isAgg5
  z5 := Tryd.sizeOf5
  v5 := Tryd.zeroValue5
  t9 := Tryd.underlying9
  a9 := Tryd.isAgg9
  z9 := Tryd.sizeOf9
  v9 := Tryd.zeroValue9
  t46 := Tryd.underlying132
  a46 := Tryd.isAgg132
  z46 := Tryd.sizeOf132
  v46 := Tryd.zeroValue132
  t53 := Tryd.underlying87
  a53 := Tryd.isAgg87
  z53 := Tryd.sizeOf87
  v53 := Tryd.zeroValue87 }

theorem len (x : Int) (w : World) (h0 : 0 ≤ x) (h1 : x < 18446744073709551616) :
    Calls Tryd.prog 87 #[.int .u64 x] w fun e w' => e = .returned (.int .i64 (Lib.bitLen x.toNat)) ∧ w = w' :=
  (Any.bits_Len64 (lays (by kernel_rfl)) x w h0 (by omega)).mono (fun _ _ h => ⟨h.1, h.2.symm⟩)

theorem width (x : Int) (w : World) (h0 : 0 ≤ x) (h1 : x < 18446744073709551616) :
    Calls Tryd.prog 69 #[.int .u64 x] w fun e w' => e = .returned (.int .i64 (wid x)) ∧ w = w' := by
  have hl : Lib.bitLen x.toNat ≤ 64 := Lib.bitLen_le x.toNat 64 (Nat.le_refl _) (by omega)
  have e : ((Lib.bitLen x.toNat : Int) + 7) / 8 = (wid x : Int) := by unfold wid; omega
  have E : Hid _ := e
  clear e
  go_enter Tryd.func69, Tryd.ntmps69
  go_wp2_with fail
  refine (len x _ h0 h1).mono ?_
  rintro e w1 ⟨rfl, rfl⟩
  generalize Lib.bitLen x.toNat = b at hl E
  go_wp2
  go_ret
  exact ⟨ret_int E.out, rfl⟩

end Go.Proofs.YtkelipedpjmmaaaDoor.Wz
