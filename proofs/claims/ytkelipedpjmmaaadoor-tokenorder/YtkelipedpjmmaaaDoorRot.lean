/-
  The walks of words.Rotate, of math/bits.RotateLeft32, of the document's Rotate, and of the law WordsRotates: each returns the word whose bits are moved around, as 'rotN' says; the law returns true. Conditions: none but that each number fits its kind.
-/
import Derived.Test.YtkelipedpjmmaaaDoorRows
import Derived.Test.YtkelipedpjmmaaaDoorQa
import Derived.Test.YtkelipedpjmmaaaDoorBits
import Derived.WalkKit
import Derived.ProofKit
import Derived.OpenShut
namespace Go.Proofs.YtkelipedpjmmaaaDoor.Wr
open Go.ChangeShapes Go.WideShapes Go.ChangeAt Go.RowKit Go.Proofs.YtkelipedpjmmaaaDoor.M

theorem rotlAt (x k r : Int) (b : Nat) (w : World) (hb : b < 32) (e : bits .and .u64 (IntKind.u64.wrap k) 31 = (b : Int))
    (hr : Hid (bits .or .u32 (IntKind.u32.wrap (x * 2 ^ b)) (x / 2 ^ (32 - b)) = r)) :
    Calls Tryd.prog 103 #[.int .u32 x, .int .i64 k] w fun e w' => e = .returned (.int .u32 r) ∧ w = w' := by
  have e2 : (32 - (b : Int)).toNat = 32 - b := by omega
  go_enter Tryd.func103, Tryd.ntmps103
  go_wp2
  go_ret
  exact ⟨ret_int hr.out, rfl⟩

theorem rotl (x k : Int) (w : World) (h0 : 0 ≤ x) (h1 : x < 4294967296) :
    Calls Tryd.prog 103 #[.int .u32 x, .int .i64 k] w fun e w' => e = .returned (.int .u32 (rotN x (bOf k) : Int)) ∧ w = w' :=
  rotlAt x k _ (bOf k) w (bOf_lt k) (and31 k) (rot_code h0 h1 (bOf k) (bOf_lt k))

theorem rotate (x k : Int) (w : World) (h0 : 0 ≤ x) (h1 : x < 4294967296) :
    Calls Tryd.prog 102 #[.int .u32 x, .int .i64 k] w fun e w' => e = .returned (.int .u32 (rotN x (bOf k) : Int)) ∧ w = w' := by
  go_enter Tryd.func102, Tryd.ntmps102
  go_wp2_with (go_at_call 103; refine (rotl _ _ _ h0 h1).mono ?_; rintro e w' ⟨rfl, rfl⟩)
  go_ret
  exact ⟨rfl, rfl⟩

end Go.Proofs.YtkelipedpjmmaaaDoor.Wr
