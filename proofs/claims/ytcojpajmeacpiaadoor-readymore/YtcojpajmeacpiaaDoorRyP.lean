/-
  The walks of the laws ReadyReady, ReadyBehind: each returns true, and nothing that was in memory has turned. Conditions: the masks and numbers are such as fit their kinds.
-/
import Derived.Test.YtcojpajmeacpiaaDoorRyN
namespace Go.Proofs.YtcojpajmeacpiaaDoor.Wry
open Go.ChangeShapes Go.WideShapes Go.ChangeAt Go.RowKit Go.Shelf Go.Proofs.YtcojpajmeacpiaaDoor.M

/-! ### laws -/
theorem equalN {w : World} {a b : Option Addr} {l k : List Int} {c d n m : Nat} (hl : Is w a l) (hk : Is w b k) (hn : l.length = n) (hm : k.length = m) (hll : n ≤ 9223372036854775807) (hkk : m ≤ 9223372036854775807) :
    Calls Tryd.prog 10 #[.slice a n c, .slice b m d] w fun e w' => e = .returned (.bool (decide (l = k))) ∧ Below w.heap.size w w' := by
  subst hn hm
  exact equal hl hk hll hkk
theorem dec_true {α : Type} [DecidableEq α] (l : List α) : decide (l = l) = true := decide_eq_true rfl

set_option maxRecDepth 100000 in
set_option maxHeartbeats 12800000 in
theorem readys (a : Option Addr) (cap : Nat) (M : List Nat) (D : Nat) (w : World) (hM : MOk M) (_ : M.length ≤ cap) (_ : cap ≤ maxLen) (h : Ms w a M) (hD : D < 4294967296) (hT : Tab w) :
    Calls Tryd.prog 4 #[.slice a M.length cap, .int .u32 (D : Int)] w fun e w' => e = .returned (.bool true) ∧ Below w.heap.size w w' := by
  have hT0 := hT.lt
  have HM := hid h
  have HT := hid hT
  have HW := hid (wakes hT)
  have hbl : (bl D).length ≤ 32 := by
    have := List.length_filter_le (fun i => D.testBit i) (List.range 32)
    rwa [List.length_range] at this
  clear h hT
  go_enter Tryd.func4, Tryd.ntmps4
  go_wp2_with fail
  refine HW.out.mono ?_
  rintro e w1 ⟨rfl, b1⟩
  have B1 := hid b1
  clear b1 HW
  go_wp2_with fail
  refine (ready (HM.out.below B1.out) hM hD (HT.out.below hT0 B1.out)).mono ?_
  rintro e w2 ⟨rfl, b2⟩
  have B2 := hid (B1.out.trans (b2.mono B1.out.size))
  clear b2 B1
  go_wp2_with fail
  refine (readyR (HM.out.below B2.out) hM hD).mono ?_
  rintro e w3 ⟨rfl, b3⟩
  have B3 := hid (B2.out.trans (b3.mono B2.out.size))
  clear b3 B2
  go_wp2_with fail
  refine (list hD (HT.out.below hT0 B3.out)).mono ?_
  rintro e w4 ⟨v, rfl, own, b4⟩
  obtain ⟨a4, c4, rfl, I4⟩ := own_nI own
  have HI4 := hid I4
  have B4 := hid (B3.out.trans (b4.mono B3.out.size))
  clear own I4 b4 B3
  go_wp2_with fail
  refine (listR hD).mono ?_
  rintro e w5 ⟨v, rfl, own, b5⟩
  obtain ⟨a5, c5, rfl, I5⟩ := own_nI own
  have HI5 := hid I5
  have HI4' := hid (HI4.out.below b5)
  have B5 := hid (B4.out.trans (b5.mono B4.out.size))
  clear own I5 b5 B4 HI4
  go_wp2_with fail
  refine (equalN HI4'.out HI5.out (List.length_map _) (List.length_map _) (by omega) (by omega)).mono ?_
  rintro e w6 ⟨rfl, b6⟩
  rw [dec_true]
  have B6 := hid (B5.out.trans (b6.mono B5.out.size))
  clear b6 B5 HI4' HI5
  go_wp2_with fail
  go_ret
  exact ⟨rfl, B6.out⟩

/-- Behind at any number. -/
theorem behindI {w : World} {a : Option Addr} {M : List Nat} {cap : Nat} (n : Int) (h : Ms w a M) (hM : MOk M) (hT : Tab w) :
    Calls Tryd.prog 19 #[.slice a M.length cap, .int .i64 n] w fun e w' => (∃ b : Nat, e = .returned (.int .u32 (b : Int)) ∧ IsB M n b) ∧ Below w.heap.size w w' := by
  by_cases c : n < 0 ∨ (nn M : Int) ≤ n
  · exact behind0 c
  · obtain ⟨k, rfl⟩ := Int.eq_ofNat_of_zero_le (show 0 ≤ n by omega)
    exact behind h hM hT (by omega)
theorem behindRI {w : World} {a : Option Addr} {M : List Nat} {cap : Nat} (n : Int) (h : Ms w a M) (hM : MOk M) :
    Calls Tryd.prog 20 #[.slice a M.length cap, .int .i64 n] w fun e w' => (∃ b : Nat, e = .returned (.int .u32 (b : Int)) ∧ IsB M n b) ∧ Below w.heap.size w w' := by
  by_cases c : n < 0 ∨ (nn M : Int) ≤ n
  · exact behindR0 c
  · obtain ⟨k, rfl⟩ := Int.eq_ofNat_of_zero_le (show 0 ≤ n by omega)
    exact behindR h hM (by omega)

set_option maxRecDepth 100000 in
set_option maxHeartbeats 12800000 in
theorem behinds (a : Option Addr) (cap : Nat) (M : List Nat) (n : Int) (w : World) (hM : MOk M) (_ : M.length ≤ cap) (_ : cap ≤ maxLen) (h : Ms w a M) (_ : -9223372036854775808 ≤ n) (_ : n < 9223372036854775808) (hT : Tab w) :
    Calls Tryd.prog 5 #[.slice a M.length cap, .int .i64 n] w fun e w' => e = .returned (.bool true) ∧ Below w.heap.size w w' := by
  have hT0 := hT.lt
  have HM := hid h
  have HT := hid hT
  have CB := hid (fun (W : World) (b : Below w.heap.size w W) (k : Int) => behindI (cap := cap) k (h.below b) hM (hT.below hT0 b))
  have CR := hid (fun (W : World) (b : Below w.heap.size w W) (k : Int) => behindRI (cap := cap) k (h.below b) hM)
  have HW := hid (fun (W : World) (b : Below w.heap.size w W) => wakes (hT.below hT0 b))
  obtain ⟨m, hm⟩ : ∃ m, Hid (m = min M.length 34) := ⟨_, hid rfl⟩
  have hm2 : min (M.length : Int) 34 = (m : Int) := by have := hm.out; omega
  have hmx : m ≤ 34 := by have := hm.out; omega
  clear h hT
  go_enter Tryd.func5, Tryd.ntmps5
  go_wp2_with fail
  go_loopw [9] (fun iv wr => ∃ i : Nat, i ≤ m ∧ iv = .int .i64 (i : Int) ∧ Below w.heap.size w wr) (fun iv _ => m - (intOf iv).toNat)
  case atStart => exact ⟨0, Nat.zero_le _, rfl, Below.refl _ _⟩
  case round =>
    obtain ⟨i, hi, rfl, hb⟩ := hrel
    by_cases ci : i < m
    · go_wp2_with fail
      refine (CB.out _ hb (i : Int)).mono ?_
      rintro e w1 ⟨⟨x, rfl, hx1⟩, b1⟩
      have B1 := hid (hb.trans (b1.mono hb.size))
      have HX := hid hx1
      clear b1 hx1
      go_wp2_with fail
      refine (CR.out _ B1.out (i : Int)).mono ?_
      rintro e w2 ⟨⟨y, rfl, hy1⟩, b2⟩
      obtain rfl := HX.out.one hy1
      have B2 := hid (B1.out.trans (b2.mono B1.out.size))
      clear b2 hy1 HX B1
      go_wp2_with fail
      go_roundw
      case rel => exact ⟨i + 1, ci, by go_num, B2.out⟩
      case measure => simp [intOf]; omega
    · go_wp2_with fail
      refine (HW.out _ hb).mono ?_
      rintro e w1 ⟨rfl, b1⟩
      have B1 := hid (hb.trans (b1.mono hb.size))
      clear b1
      go_wp2_with fail
      refine (CB.out _ B1.out n).mono ?_
      rintro e w2 ⟨⟨x, rfl, hx1⟩, b2⟩
      have B2 := hid (B1.out.trans (b2.mono B1.out.size))
      have HX := hid hx1
      clear b2 hx1 B1
      go_wp2_with fail
      refine (CR.out _ B2.out n).mono ?_
      rintro e w3 ⟨⟨y, rfl, hy1⟩, b3⟩
      obtain rfl := HX.out.one hy1
      have B3 := hid (B2.out.trans (b3.mono B2.out.size))
      clear b3 hy1 HX B2
      go_wp2_with fail
      go_ret
      exact ⟨rfl, B3.out⟩

end Go.Proofs.YtcojpajmeacpiaaDoor.Wry
