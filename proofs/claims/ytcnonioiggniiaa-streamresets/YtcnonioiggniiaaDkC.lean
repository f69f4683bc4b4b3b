/-
  The walks of the functions that tell which writes are kept: all, none, or those whose bits are set.
-/
import Derived.Test.YtcnonioiggniiaaDkB
namespace Go.Proofs.Ytcnonioiggniiaa.Wd
open Go.ChangeShapes Go.WideShapes Go.ChangeAt Go.RowKit Go.Proofs.Ytcnonioiggniiaa.M

theorem bit_code {x : Int} (h0 : 0 ≤ x) (h1 : x < 18446744073709551616) {a : Nat} : (bits BinOp.and IntKind.u64 (x / 2 ^ a) 1 == 1) = bitB x (a : Int) := by
  obtain ⟨N, rfl⟩ := Int.eq_ofNat_of_zero_le h0
  have e : ((N : Int) / 2 ^ a) = hv (N : Int) a := by
    rw [hv_nat, Int.natCast_ediv, Int.natCast_pow]
    rfl
  have hr := hv_range h0 h1 a
  rw [e, and_one _ hr.1 hr.2, hv_bit h0]
  cases bitB (N : Int) (a : Int) <;> rfl

/-- A function that tells which writes are kept. -/
def FV (w : World) (fv : Value) (kp : Nat → Bool) : Prop :=
  (fv = .func (.func 78) #[] #[] ∧ ∀ m, kp m = true) ∨ (fv = .func (.func 84) #[] #[] ∧ ∀ m, kp m = false) ∨
  ∃ b x, fv = .func (.func 85) #[] #[.pointer (some ⟨b, 0, none⟩)] ∧ w.heap[b]? = some (.cells #[.int .u64 x] 30 (0, 0)) ∧ 0 ≤ x ∧ x < 18446744073709551616 ∧ ∀ m, kp m = bitB x ((m % 64 : Nat) : Int)

theorem kAll (m : Int) (w : World) : Calls Try.prog 78 #[.int .i64 m] w fun e w' => e = .returned (.bool true) ∧ w = w' := by
  go_enter Try.func78, Try.ntmps78
  go_wp2
  go_ret
  exact ⟨rfl, rfl⟩
theorem kNone (m : Int) (w : World) : Calls Try.prog 84 #[.int .i64 m] w fun e w' => e = .returned (.bool false) ∧ w = w' := by
  go_enter Try.func84, Try.ntmps84
  go_wp2
  go_ret
  exact ⟨rfl, rfl⟩
theorem kBits (x : Int) (m b : Nat) (w : World) (h0 : 0 ≤ x) (h1 : x < 18446744073709551616) (hm : m ≤ 1048576) (hb : w.heap[b]? = some (.cells #[.int .u64 x] 30 (0, 0))) : Calls Try.prog 85 #[.int .i64 (m : Int), .pointer (some ⟨b, 0, none⟩)] w fun e w' => e = .returned (.bool (bitB x ((m % 64 : Nat) : Int))) ∧ w = w' := by
  have c1 : w.cell? ⟨b, 0, none⟩ = some (.int .u64 x) := by simp [World.cell?, hb]
  clear hb
  go_enter Try.func85, Try.ntmps85
  go_wp2
  go_ret
  exact ⟨by rw [← bit_code h0 h1]; rfl, rfl⟩

end Go.Proofs.Ytcnonioiggniiaa.Wd
