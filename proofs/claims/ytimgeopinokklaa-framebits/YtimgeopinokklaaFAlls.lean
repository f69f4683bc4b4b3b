/-
  The walk of the law FrameAlls: it returns true, and nothing that was in memory has turned. Condition: the text has at most 1048576 bytes.
-/
import Derived.Test.YtimgeopinokklaaRows
import Derived.Test.YtimgeopinokklaaFAll
import Derived.Test.YtimgeopinokklaaFWakes
import Derived.WalkKit
import Derived.ProofKit
import Derived.OpenShut
import Derived.WalkSpells
import Derived.Deep.QuietTactic
import Derived.BigQuiet
import Derived.WalkSmall
namespace Go.Proofs.Ytimgeopinokklaa.Wl
open Go.ChangeShapes Go.WideShapes Go.ChangeAt Go.RowKit Go.Proofs.Ytimgeopinokklaa.M

/-- The texts of a slice lie in memory. -/
def Lies (w : World) (a : Option Addr) (n : Nat) (f : Nat → ByteArray) : Prop :=
  n ≤ 0 ∨ ∃ b off, a = some ⟨b, off, none⟩ ∧ b < w.heap.size ∧ ∀ i, i < n → w.cell? ⟨b, off + i, none⟩ = some (.string (f i))
theorem Lies.below {w w' : World} {a : Option Addr} {n : Nat} {f : Nat → ByteArray} (h : Lies w a n f) (b : Below w.heap.size w w') : Lies w' a n f := by
  rcases h with h | ⟨g, off, h1, h2, h3⟩
  · exact .inl h
  · refine .inr ⟨g, off, h1, Nat.lt_of_lt_of_le h2 b.size, fun i hi => ?_⟩
    rw [← h3 i hi]
    exact b.cell (by exact h2)
theorem own_lies {w : World} {base e k : Nat} {v : Value} {xs : List Value} {f : Nat → ByteArray} (h : w.ownsRow base e 1 v k xs) (hx : ∀ j, j < k → xs[j]? = some (.string (f j))) :
    ∃ a cap, v = .slice a k cap ∧ k ≤ cap ∧ cap ≤ maxLen ∧ Lies w a k f := by
  rcases h.2 with ⟨rfl, rfl⟩ | ⟨g, cap, cur, rfl, hb, hg, hc, hm, hs, ht⟩
  · exact ⟨none, 0, rfl, Nat.le_refl _, by unfold maxLen; omega, .inl (Nat.le_refl _)⟩
  · refine ⟨_, cap, rfl, hc, hm, .inr ⟨g, 0, rfl, (Array.getElem?_eq_some_iff.1 hg).1, fun i hi => ?_⟩⟩
    rw [← hx i hi, Nat.zero_add]
    exact h.cellAt i (by omega)

theorem alls (s : ByteArray) (w : World) (hs : s.size ≤ 1048576) :
    Calls Try.prog 6 #[.string s] w fun e w' => e = .returned (.bool true) ∧ Below w.heap.size w w' := by
  go_enter Try.func6, Try.ntmps6
  go_wp2_with fail
  refine (Wa.all s _ hs).mono ?_
  rintro e w1 ⟨k, v, hF, rfl, own1, b1⟩
  obtain ⟨a, cap, rfl, hc, hm, L1⟩ := own_lies own1 (fun j hj => bds_get hj)
  go_wp2_with fail
  refine (Wa.allRef s _ hs).mono ?_
  rintro e w2 ⟨k', v', hF', rfl, own2, b2⟩
  obtain rfl := fst_one hF hF'
  obtain ⟨a', cap', rfl, hc', hm', L2⟩ := own_lies own2 (fun j hj => bds_get hj)
  have L1' := L1.below b2
  have hk := pl_le hF.1
  clear own1 own2 hF' L1
  go_wp2_with fail
  refine (Ww.wakes _).mono ?_
  rintro e w3 ⟨rfl, b3⟩
  have H1 : Hid (Lies w3 a k (bd s)) := L1'.below b3
  have H2 : Hid (Lies w3 a' k (bd s)) := L2.below b3
  have s1 := b1.size
  have s2 := b2.size
  have B : Hid (Below w.heap.size w w3) := b1.trans ((b2.mono (by omega)).trans (b3.mono (by omega)))
  clear L1' L2 b1 b2 b3 s1 s2 hF
  generalize pl s k = p at *
  unfold maxLen at hm hm'
  go_wp2
  go_loopw [34] (fun iv wr => ∃ i : Nat, i ≤ k ∧ iv = .int .i64 (i : Int) ∧ Below w3.heap.size w3 wr) (fun i _ => k - (intOf i).toNat)
  case atStart => exact ⟨0, Nat.zero_le _, rfl, Below.refl _ _⟩
  case round =>
    obtain ⟨i, hi, rfl, hbel⟩ := hrel
    by_cases hlt : i < k
    · rcases H1.out with h | ⟨g, off, ha, hb, hcell⟩
      · exfalso; omega
      · rcases H2.out with h | ⟨g', off', ha', hb', hcell'⟩
        · exfalso; omega
        · have hci : wr.cell? ⟨g, off + i, none⟩ = some (.string (bd s i)) := by rw [← hcell i hlt]; exact hbel.cell (by exact hb)
          have hci' : wr.cell? ⟨g', off' + i, none⟩ = some (.string (bd s i)) := by rw [← hcell' i hlt]; exact hbel.cell (by exact hb')
          generalize bd s i = x at hci hci'
          clear hcell hcell'
          subst ha ha'
          go_wp2
          go_quiet (fail)
          go_wp2
          go_roundw
          case rel => exact ⟨i + 1, by omega, by go_num, below_drewN hbel _⟩
          case measure => simp [intOf] <;> omega
    · obtain rfl : i = k := by omega
      go_wp2
      go_ret
      exact ⟨rfl, B.out.trans (hbel.mono B.out.size)⟩

end Go.Proofs.Ytimgeopinokklaa.Wl
