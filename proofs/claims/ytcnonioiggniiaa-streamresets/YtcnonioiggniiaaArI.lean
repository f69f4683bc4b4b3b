/-
  The walks of area.Newest, area.Join and of the document's Newest and Join: each returns what 'nw', 'jn' say, and nothing that was in memory has turned. Conditions: the texts lie in memory, their lengths are ints, and there are at most 1048576 of them.
-/
import Derived.Test.YtcnonioiggniiaaArH
import Derived.Test.YtcnonioiggniiaaBldS
namespace Go.Proofs.Ytcnonioiggniiaa.War
open Go.ChangeShapes Go.WideShapes Go.ChangeAt Go.RowKit Go.Proofs.Ytcnonioiggniiaa.M

set_option maxRecDepth 100000 in
set_option maxHeartbeats 2000000 in
theorem newest (p : Option Addr) (n cap : Nat) (y : Nat → ByteArray) (w : World) (hy : ∀ i, i < n → (y i).size ≤ maxLen) (hn : n ≤ 1048576) (hL : Lies w p n y) :
    Calls Try.prog 48 #[.slice p n cap] w fun e w' => e = .returned (.int .i64 (nw y n)) ∧ Below w.heap.size w w' := by
  have HL := hid hL
  clear hL
  have HY := hid hy
  clear hy
  go_enter Try.func48, Try.ntmps48
  go_wp2
  go_loopw [3, 10] (fun gv iv wr => ∃ i : Nat, i ≤ n ∧ iv = .int .i64 (i : Int) ∧ gv = .int .i64 (nw y i) ∧ Below w.heap.size w wr) (fun _ i _ => n - (intOf i).toNat)
  case atStart => exact ⟨0, Nat.zero_le _, rfl, rfl, Below.refl _ _⟩
  case round =>
    obtain ⟨i, hi, rfl, rfl, hbel⟩ := hrel
    have hz := hbel.size
    by_cases hlt : i < n
    · rcases HL.out with h | ⟨b, off, ha, hb, hcell⟩
      · exfalso; omega
      · have hci : wr.cell? ⟨b, off + i, none⟩ = some (.string (y i)) := by rw [← hcell i hlt]; exact hbel.cell (by exact hb)
        have C := hid fun w => parse (y i) w (HY.out i hlt)
        have hG := cG_range (y i)
        have hN := nw_range y i
        clear hcell
        subst ha
        cases hp : pOk (y i) with
        | false =>
          have E := hid (nw_no hp)
          rw [hp] at C
          generalize cG (y i) = G at *
          generalize M.cI (y i) = I at *
          generalize cD (y i) = D at *
          generalize y i = Y at hci C hp
          generalize nw y i = N at *
          unfold cv at C
          clear hp
          go_wp2_with fail
          refine (C.out _).mono ?_
          rintro e w1 ⟨rfl, b1⟩
          have B1 := hid (hbel.trans (b1.mono hz))
          go_wp2
          go_roundw
          case rel => exact ⟨i + 1, by omega, by go_num, by rw [E.out], B1.out.alloc B1.out.size _⟩
          case measure => simp [intOf] <;> omega
        | true =>
          have E := hid (nw_yes hp)
          rw [← (p_yes hp).1] at E
          rw [hp] at C
          generalize cG (y i) = G at *
          generalize M.cI (y i) = I at *
          generalize cD (y i) = D at *
          generalize y i = Y at hci C hp
          generalize nw y i = N at *
          unfold cv at C
          clear hp
          go_wp2_with fail
          refine (C.out _).mono ?_
          rintro e w1 ⟨rfl, b1⟩
          have B1 := hid (hbel.trans (b1.mono hz))
          go_wp2
          go_roundw
          case rel => exact ⟨i + 1, by omega, by go_num, by rw [E.out], B1.out.alloc B1.out.size _⟩
          case measure => simp [intOf] <;> omega
    · obtain rfl : i = n := by omega
      go_wp2
      go_ret
      exact ⟨rfl, hbel⟩

end Go.Proofs.Ytcnonioiggniiaa.War
