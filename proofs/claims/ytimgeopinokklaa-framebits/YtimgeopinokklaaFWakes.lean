/-
  The walks of the laws' own wakes, and of the laws FramePuts and FrameGets: each returns true, and nothing that was in memory has turned. Conditions: none but that each number fits its kind and that a text's length is an int.
-/
import Derived.Test.YtimgeopinokklaaRows
import Derived.Test.YtimgeopinokklaaFPut
import Derived.Test.YtimgeopinokklaaFGet
import Derived.WalkKit
import Derived.ProofKit
import Derived.OpenShut
import Derived.WalkSpells
namespace Go.Proofs.Ytimgeopinokklaa.Ww
open Go.ChangeShapes Go.WideShapes Go.ChangeAt Go.RowKit Go.Proofs.Ytimgeopinokklaa.M

theorem oneE : frE ⟨#[97]⟩ = 0 := by decide +kernel
theorem oneFr : frB ⟨#[97]⟩ = ⟨#[0, 1, 224, 107, 43, 108, 97]⟩ := by decide +kernel
theorem oneQ : qE ⟨#[0, 1, 224, 107, 43, 108, 97]⟩ 0 = 0 ∧ qB ⟨#[0, 1, 224, 107, 43, 108, 97]⟩ 0 = ⟨#[97]⟩ ∧ qX ⟨#[0, 1, 224, 107, 43, 108, 97]⟩ 0 = 7 := by decide +kernel

theorem wakes (w : World) :
    Calls Try.prog 13 #[] w fun e w' => e = .returned (.bool true) ∧ Below w.heap.size w w' := by
  have C1 : Hid (∀ w : World, Calls Try.prog 11 #[.string ⟨#[97]⟩] w fun e w' => e = .returned (.tuple #[.string ⟨#[0, 1, 224, 107, 43, 108, 97]⟩, .int .i64 0]) ∧ Below w.heap.size w w') := fun w => by
    have h := Wf.put ⟨#[97]⟩ w (by decide)
    rw [oneE, oneFr] at h
    exact h
  have C2 : Hid (∀ w : World, Calls Try.prog 14 #[.string ⟨#[0, 1, 224, 107, 43, 108, 97]⟩, .int .i64 0] w fun e w' => e = .returned (.tuple #[.string ⟨#[97]⟩, .int .i64 7, .int .i64 0]) ∧ Below w.heap.size w w') := fun w => by
    have h := Wq.get ⟨#[0, 1, 224, 107, 43, 108, 97]⟩ 0 w (by decide) (by decide) (by decide)
    rw [oneQ.1, oneQ.2.1, oneQ.2.2] at h
    exact h
  have C3 : Hid (∀ w, Calls Try.prog 9 #[.string ⟨#[49, 50, 51, 52, 53, 54, 55, 56, 57]⟩] w fun e w' => e = .returned (.int .u32 3808858755) ∧ w = w') := fun w => by
    have h := Ws.sum ⟨#[49, 50, 51, 52, 53, 54, 55, 56, 57]⟩ w (by decide)
    rw [Ws.nine] at h
    exact h
  go_enter Try.func13, Try.ntmps13
  go_wp2_with fail
  refine (C1.out _).mono ?_
  rintro e w1 ⟨rfl, b1⟩
  go_wp2_with fail
  refine (C2.out _).mono ?_
  rintro e w2 ⟨rfl, b2⟩
  go_wp2_with fail
  refine (C3.out _).mono ?_
  rintro e w3 ⟨rfl, rfl⟩
  go_wp2
  go_ret
  exact ⟨rfl, b1.trans (b2.mono b1.size)⟩

theorem puts (a0 : ByteArray) (w0 : a0.size ≤ maxLen) (w : World) :
    Calls Try.prog 4 #[.string a0] w fun e w' => e = .returned (.bool true) ∧ Below w.heap.size w w' := by
  have C1 : Hid _ := fun w => Wf.put a0 w w0
  have C2 : Hid _ := fun w => Wf.putRef a0 w w0
  generalize frB a0 = x at C1 C2
  generalize frE a0 = y at C1 C2
  go_enter Try.func4, Try.ntmps4
  go_wp2_with fail
  refine (C1.out _).mono ?_
  rintro e w1 ⟨rfl, b1⟩
  go_wp2_with fail
  refine (C2.out _).mono ?_
  rintro e w2 ⟨rfl, b2⟩
  go_wp2_with fail
  refine (wakes _).mono ?_
  rintro e w3 ⟨rfl, b3⟩
  go_wp2
  go_ret
  have s1 := b1.size
  have s2 := b2.size
  exact ⟨rfl, b1.trans ((b2.mono (by omega)).trans (b3.mono (by omega)))⟩

theorem gets (a0 : ByteArray) (a1 : Int) (w0 : a0.size ≤ maxLen) (w1 : (Lit.int .i64 a1).wf = true) (w : World) :
    Calls Try.prog 5 #[.string a0, .int .i64 a1] w fun e w' => e = .returned (.bool true) ∧ Below w.heap.size w w' := by
  obtain ⟨h0, h1⟩ := wf_i64 w1
  clear w1
  have C1 : Hid _ := fun w => Wq.get a0 a1 w w0 h0 h1
  have C2 : Hid _ := fun w => Wq.getRef a0 a1 w w0 h0 h1
  generalize qB a0 a1 = x at C1 C2
  generalize qX a0 a1 = y at C1 C2
  generalize qE a0 a1 = z at C1 C2
  go_enter Try.func5, Try.ntmps5
  go_wp2_with fail
  refine (C1.out _).mono ?_
  rintro e w1 ⟨rfl, b1⟩
  go_wp2_with fail
  refine (C2.out _).mono ?_
  rintro e w2 ⟨rfl, b2⟩
  go_wp2_with fail
  refine (wakes _).mono ?_
  rintro e w3 ⟨rfl, b3⟩
  go_wp2
  go_ret
  have s1 := b1.size
  have s2 := b2.size
  exact ⟨rfl, b1.trans ((b2.mono (by omega)).trans (b3.mono (by omega)))⟩

end Go.Proofs.Ytimgeopinokklaa.Ww
