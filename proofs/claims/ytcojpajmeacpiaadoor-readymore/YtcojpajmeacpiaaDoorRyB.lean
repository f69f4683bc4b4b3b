/-
  How masks and lists of numbers lie in memory ('Ms', 'Is'), the table of the library that is read ('Tab'); the contracts of count, all, bits.TrailingZeros32, places, and of the iterator that places gives ('places_stops'): it gives the bits of the number, rising, to any round that leaves as it is what lay below a bound. Nothing is asked but what each fact names.
-/
import Derived.Test.YtcojpajmeacpiaaDoorRyA
import Derived.Test.YtcojpajmeacpiaaDoorRows
import Derived.RangeFuncNested
import Derived.RangeFuncBound
import Derived.RangeFuncCalls
import Derived.RangeFuncLeaves
import Derived.Shelf.Abstract
import Derived.Shelf.RegionOpen
import Derived.WalkKit
import Derived.ProofKit
import Derived.OpenShut
import Derived.WalkSpells
import Derived.OwnWalkIn
import Derived.TacticsInMore
import Derived.LoopNIn
import Derived.LoopIn
import Derived.Lib.MinMax
import Derived.Shelf.Spec.TrailingZeros
import Derived.Deep.QuietTactic
import Derived.BigQuiet
namespace Go.Proofs.YtcojpajmeacpiaaDoor.Wry
open Go.ChangeShapes Go.WideShapes Go.ChangeAt Go.RowKit Go.Shelf Go.Proofs.YtcojpajmeacpiaaDoor.M
attribute [local go_sem] Oper.semAt_some

theorem hid {p : Prop} (h : p) : Hid p := h
theorem ret_b {a b : Bool} (h : a = b) : Ending.returned (.bool a) = .returned (.bool b) := by rw [h]
theorem ret_u {a b : Nat} (h : a = b) : Ending.returned (.int .u32 (a : Int)) = .returned (.int .u32 (b : Int)) := by rw [h]

/-! ### numbers of 32 bits -/
theorem ofInt_u32 (a : Nat) (h : a < 4294967296) : (BitVec.ofInt 32 (a : Int)).toNat = a := by
  rw [BitVec.toNat_ofInt]
  omega
theorem u32_or_nat (a b : Nat) (ha : a < 4294967296) (hb : b < 4294967296) : bits .or .u32 (a : Int) (b : Int) = ((a ||| b : Nat) : Int) := by
  have hx : a ||| b < 2 ^ 32 := Nat.or_lt_two_pow (by omega) (by omega)
  show IntKind.u32.wrap ((BitVec.ofInt 32 (a : Int) ||| BitVec.ofInt 32 (b : Int)).toNat : Int) = _
  rw [BitVec.toNat_or, ofInt_u32 a ha, ofInt_u32 b hb, IntKind.wrap_u32]
  omega
theorem u32_and_nat (a b : Nat) (ha : a < 4294967296) (hb : b < 4294967296) : bits .and .u32 (a : Int) (b : Int) = ((a &&& b : Nat) : Int) := by
  have hx : a &&& b < 2 ^ 32 := Nat.and_lt_two_pow _ (by omega)
  show IntKind.u32.wrap ((BitVec.ofInt 32 (a : Int) &&& BitVec.ofInt 32 (b : Int)).toNat : Int) = _
  rw [BitVec.toNat_and, ofInt_u32 a ha, ofInt_u32 b hb, IntKind.wrap_u32]
  omega
theorem u32_andnot_nat (a b : Nat) (ha : a < 4294967296) (hb : b < 4294967296) : bits .andNot .u32 (a : Int) (b : Int) = ((a &&& (4294967295 - b) : Nat) : Int) := by
  have hx : a &&& (4294967295 - b) < 2 ^ 32 := Nat.and_lt_two_pow _ (by omega)
  show IntKind.u32.wrap ((BitVec.ofInt 32 (a : Int) &&& ~~~ BitVec.ofInt 32 (b : Int)).toNat : Int) = _
  rw [BitVec.toNat_and, BitVec.toNat_not, ofInt_u32 a ha, ofInt_u32 b hb, IntKind.wrap_u32]
  have e : 2 ^ 32 - 1 - b = 4294967295 - b := by omega
  rw [e]
  omega
theorem pow_u32 {i : Nat} (h : i < 32) : (2 : Int) ^ i % 4294967296 = ((2 ^ i : Nat) : Int) := by
  have h2 : 2 ^ i < 2 ^ 32 := Nat.pow_lt_pow_right (by decide) h
  have : ((2 : Int) ^ i) = ((2 ^ i : Nat) : Int) := by simp
  rw [this]
  generalize 2 ^ i = p at *
  omega

/-! ### memory -/
def Ms (w : World) (a : Option Addr) (M : List Nat) : Prop := M = [] ∨ ∃ g o, a = some ⟨g, o, none⟩ ∧ g < w.heap.size ∧ ∀ (i : Nat) x, M[i]? = some x → w.cell? ⟨g, o + i, none⟩ = some (.int .u32 (x : Int))
theorem Ms.below {w w' : World} {a : Option Addr} {M : List Nat} (h : Ms w a M) (b : Below w.heap.size w w') : Ms w' a M := by
  rcases h with h | ⟨g, o, h1, h2, h3⟩
  · exact .inl h
  · exact .inr ⟨g, o, h1, Nat.lt_of_lt_of_le h2 b.size, fun i s hs => (b.cell (p := ⟨g, o + i, none⟩) h2).trans (h3 i s hs)⟩
theorem Ms.take {w : World} {a : Option Addr} {M : List Nat} (h : Ms w a M) (n : Nat) : Ms w a (M.take n) := by
  rcases h with h | ⟨g, o, h1, h2, h3⟩
  · exact .inl (by rw [h]; simp)
  · refine .inr ⟨g, o, h1, h2, fun i s hs => h3 i s ?_⟩
    rw [List.getElem?_take] at hs
    split at hs
    · exact hs
    · cases hs
theorem Ms.at {w : World} {a : Option Addr} {M : List Nat} (h : Ms w a M) {i : Nat} {s : Nat} (hs : M[i]? = some s) : ∃ g o, a = some ⟨g, o, none⟩ ∧ g < w.heap.size ∧ w.cell? ⟨g, o + i, none⟩ = some (.int .u32 (s : Int)) := by
  rcases h with h | ⟨g, o, h1, h2, h3⟩
  · rw [h] at hs; simp at hs
  · exact ⟨g, o, h1, h2, h3 i s hs⟩
def Is (w : World) (a : Option Addr) (l : List Int) : Prop := l = [] ∨ ∃ g o, a = some ⟨g, o, none⟩ ∧ g < w.heap.size ∧ ∀ (i : Nat) x, l[i]? = some x → w.cell? ⟨g, o + i, none⟩ = some (.int .i64 x)
theorem Is.below {w w' : World} {a : Option Addr} {l : List Int} (h : Is w a l) (b : Below w.heap.size w w') : Is w' a l := by
  rcases h with h | ⟨g, o, h1, h2, h3⟩
  · exact .inl h
  · exact .inr ⟨g, o, h1, Nat.lt_of_lt_of_le h2 b.size, fun i s hs => (b.cell (p := ⟨g, o + i, none⟩) h2).trans (h3 i s hs)⟩
theorem Is.at {w : World} {a : Option Addr} {l : List Int} (h : Is w a l) {i : Nat} {s : Int} (hs : l[i]? = some s) : ∃ g o, a = some ⟨g, o, none⟩ ∧ g < w.heap.size ∧ w.cell? ⟨g, o + i, none⟩ = some (.int .i64 s) := by
  rcases h with h | ⟨g, o, h1, h2, h3⟩
  · rw [h] at hs; simp at hs
  · exact ⟨g, o, h1, h2, h3 i s hs⟩
theorem own_is {w : World} {base : Nat} {v : Value} {l : List Int} (h : w.ownsRow base 3 1 v l.length (l.map (Value.int .i64))) : ∃ a cap, v = .slice a l.length cap ∧ l.length ≤ cap ∧ cap ≤ maxLen ∧ Is w a l := by
  rcases h.2 with ⟨rfl, hn⟩ | ⟨g, cap, cur, rfl, hb, hg, hc, hm, hs, ht⟩
  · exact ⟨none, 0, by rw [hn], by omega, by unfold maxLen; omega, .inl (List.length_eq_zero_iff.1 hn)⟩
  · refine ⟨_, cap, rfl, hc, hm, .inr ⟨g, 0, rfl, (Array.getElem?_eq_some_iff.1 hg).1, fun i x hx => ?_⟩⟩
    rw [Nat.zero_add]
    have h2 := h.cellAt i (by have := (List.getElem?_eq_some_iff.1 hx).1; omega)
    rw [h2]
    simp [hx]
theorem own_below {w w' : World} {base e size n : Nat} {v : Value} {xs : List Value} (h : w.ownsRow base e size v n xs) (b : Below w.heap.size w w') : w'.ownsRow base e size v n xs :=
  h.kept (row := none) ⟨b.os, b.tape, b.output, b.size, fun k hk _ => b.block k hk⟩ (by cases v.ownBlock <;> simp)
theorem al (w : World) (o : Obj) : Below w.heap.size w (w.alloc o) := (Below.refl _ _).alloc (Nat.le_refl _) _

/-- The table of the library's TrailingZeros32, as its initialiser lays it. -/
def Tab (w : World) : Prop := TabAt 0 Lib.deBruijn32tab w
theorem Tab.lt {w : World} (h : Tab w) : 0 < w.heap.size := World.block_lt_of_cell? w ⟨0, 0, none⟩ (h 0 (by decide))
theorem Tab.below {n : Nat} {w w' : World} (h : Tab w) (hn : 0 < n) (b : Below n w w') : Tab w' := fun j hj => (b.cell (p := ⟨0, j, none⟩) hn).trans (h j hj)

/-! ### count, all -/
set_option maxRecDepth 100000 in
theorem count (M : List Nat) (a : Option Addr) (cap : Nat) (w : World) : Calls Tryd.prog 25 #[.slice a M.length cap] w fun e w' => e = .returned (.int .i64 (nn M : Int)) ∧ w = w' := by
  have e : min (M.length : Int) 32 = (nn M : Int) := by unfold nn; omega
  go_enter Tryd.func25, Tryd.ntmps25
  go_wp2_with fail
  go_ret
  first
    | exact ⟨by rw [e], rfl⟩
    | exact ⟨rfl, rfl⟩

set_option maxRecDepth 100000 in
theorem all (M : List Nat) (a : Option Addr) (cap : Nat) (w : World) : Calls Tryd.prog 27 #[.slice a M.length cap] w fun e w' => e = .returned (.int .u32 (al_ M : Int)) ∧ w = w' := by
  have C := hid (count M a cap w)
  have hs : Hid (((2 : Int) ^ min (nn M) 32 % 4294967296 - 1) % 4294967296 = (al_ M : Int)) := hid (by
    have h := nn_le M
    rw [Nat.min_eq_left h]
    unfold al_
    generalize nn M = n at *
    by_cases e : n = 32
    · subst e; decide
    · rw [pow_u32 (by omega)]
      have h2 : 2 ^ n < 2 ^ 32 := Nat.pow_lt_pow_right (by decide) (by omega)
      have := Nat.two_pow_pos n
      omega)
  go_enter Tryd.func27, Tryd.ntmps27
  go_wp2_with fail
  refine C.out.mono ?_
  rintro e w1 ⟨rfl, rfl⟩
  go_wp2_with fail
  go_ret
  exact ⟨by rw [← hs.out] <;> rfl, rfl⟩

/-! ### the library's TrailingZeros32 -/
set_option maxHeartbeats 1000000 in
theorem tz_core (x k idx : Nat) (w : World) (hx0 : ((x : Int) == 0) = false)
    (key : bits BinOp.and IntKind.u32 (x : Int) (-(x : Int) % 4294967296) * 125613361 % 4294967296 / 134217728 = (idx : Int))
    (hi : idx < 32) (hk : k < 32) (hcell : w.cell? ⟨0, idx, none⟩ = some (.int .u8 k)) :
    Calls Tryd.prog 33 #[.int .u32 x] w fun e w' => e = .returned (.int .i64 k) ∧ w = w' := by
  go_enter Tryd.func33, Tryd.ntmps33
  go_wp2_with (simp only [key])
  go_ret
  exact ⟨rfl, rfl⟩
theorem tz (x : Nat) (hx : x < 4294967296) (hx0 : x ≠ 0) (w : World) (hT : Tab w) :
    Calls Tryd.prog 33 #[.int .u32 x] w fun e w' => e = .returned (.int .i64 (Lib.ctz 32 x)) ∧ w = w' := by
  obtain ⟨hlow, hk⟩ := Lib.lowest_bit 32 x hx0 hx
  obtain ⟨hi, htab⟩ := Lib.deBruijn32_at _ hk
  have hcell := hT _ hi
  rw [htab] at hcell
  exact tz_core x _ _ w (by simp; omega) (tz32_key x _ hx hx0 hlow) hi hk hcell

/-! ### places -/
set_option maxRecDepth 100000 in
theorem places (x : Nat) (w : World) : Calls Tryd.prog 26 #[.int .u32 x] w fun e w' => e = .returned (.func (.func 32) #[] #[.pointer (some ⟨w.heap.size, 0, none⟩)]) ∧ w' = w.alloc (.cells #[.int .u32 x] 28) := by
  go_enter Tryd.func26, Tryd.ntmps26
  go_wp2_with fail
  go_ret
  exact ⟨rfl, rfl⟩

/-- What the iterator gives: the places of the bits of x. -/
abbrev Pl (x : Nat) := { i : Nat // i ∈ bl x }
def pv {x : Nat} (l : List (Pl x)) : List Nat := l.map (·.1)
theorem pv_snoc {x : Nat} (l : List (Pl x)) (i : Pl x) : pv (l ++ [i]) = pv l ++ [i.1] := by simp [pv]

set_option maxRecDepth 100000 in
set_option maxHeartbeats 2000000 in
theorem places1 (n : Nat) (hn : 1 ≤ n) (l Bn n₀ x : Nat) (hx : x < 4294967296) (h₀ : 0 < n₀) (J Jx : List (Pl x) → World → Prop)
    (hY : ∀ pre (i : Pl x) W, J pre W → pre.length < 32 → YieldAt Fence.wide (n - 1) Tryd.prog l #[.int .i64 (i.1 : Int)] W fun e W' =>
      (e = .returned (.bool true) ∧ J (pre ++ [i]) W' ∧ Below n₀ W W') ∨ (e = .returned (.bool false) ∧ Jx (pre ++ [i]) W'))
    (W : World) (hBn : W.cell? ⟨Bn, 0, none⟩ = some (.int .u32 x)) (hT : Tab W) (h0 : J [] W) :
    CallsIn Fence.wide n Tryd.prog 32 #[.func (.yield l) #[] #[], .pointer (some ⟨Bn, 0, none⟩)] W fun e W' => (∃ v, e = .returned v) ∧
      ((∃ ys, pv ys = bl x ∧ J ys W') ∨ (∃ pre, (∃ t, bl x = pv pre ++ t) ∧ Jx pre W')) := by
  refine callsIn_of_wp Tryd.func32 rfl trivial ?_ rfl
  simp only [Tryd.ntmps32, List.size_toArray, List.length_cons, List.length_nil, Nat.reduceAdd, Nat.reduceSub, Array.replicate_succ, Array.replicate_zero, List.push_toArray, List.append_toArray, List.nil_append, List.cons_append]
  gi_wp2
  gi_loopw [3] (fun p wr => ∃ (pre : List (Pl x)) (s : Nat), s < 4294967296 ∧ p = .int .u32 (s : Int) ∧ Hid (bl x = pv pre ++ bl s) ∧ Hid (Tab wr) ∧ J pre wr) (fun p _ => (intOf p).toNat)
  case atStart => exact ⟨[], x, hx, rfl, hid rfl, hid hT, h0⟩
  case round =>
    obtain ⟨pre, s, hs, rfl, hb, hTr, hJ⟩ := hrel
    by_cases c : s = 0
    · subst c
      gi_wp2
      go_end0
      exact ⟨⟨_, rfl⟩, .inl ⟨pre, by have := hb.out; rw [bl_zero, List.append_nil] at this; exact this.symm, hJ⟩⟩
    · obtain ⟨k1, k2, _, k4, k5⟩ := bl_step hs c
      have hz := hid (tz s hs c wr hTr.out)
      have hb2 : Hid (bl x = pv pre ++ Lib.ctz 32 s :: bl (s &&& (s - 1))) := hid (by rw [← k4]; exact hb.out)
      have hm : Lib.ctz 32 s ∈ bl x := by rw [hb2.out]; simp
      have hl : pre.length < 32 := by
        have h1 : (bl x).length ≤ 32 := by
          have := List.length_filter_le (fun i => x.testBit i) (List.range 32)
          simpa [bl] using this
        have h2 := congrArg List.length hb2.out
        simp [pv] at h2
        omega
      obtain ⟨fn, tmps, assign, body, hy, hR⟩ := hY pre ⟨Lib.ctz 32 s, hm⟩ wr hJ hl
      dsimp only at hy
      have c0 : ((s : Int) == 0) = false := by rw [beq_eq_false_iff_ne]; omega
      have c1 : decide ((s : Int) = 0) = false := decide_eq_false (by omega)
      have hs1 : Hid (bits .and .u32 (s : Int) ((s : Int) - 1) = ((s &&& (s - 1) : Nat) : Int)) := hid (by
        have e : (s : Int) - 1 = ((s - 1 : Nat) : Int) := by omega
        rw [e, u32_and_nat _ _ hs (by omega)])
      generalize hc : Lib.ctz 32 s = q at *
      clear hc k2 k4 hb
      gi_wp2_with (refine ⟨trivial, ?_⟩; gi_at_call 33; refine (callsIn_wide.2 hz.out).mono ?_; rintro e w' ⟨rfl, rfl⟩)
      refine hR.mono ?_
      rintro e W3 (⟨rfl, hJ3, hk3⟩ | ⟨rfl, hJx3⟩)
      · have hT3 : Hid (Tab W3) := hid (hTr.out.below h₀ hk3)
        gi_wp2
        go_roundw
        case rel => exact ⟨pre ++ [⟨q, hm⟩], s &&& (s - 1), by omega, by rw [hs1.out], hid (by rw [pv_snoc, List.append_assoc]; exact hb2.out), hT3, hJ3⟩
        case measure => rw [hs1.out]; simp [intOf]; omega
      · gi_wp2
        refine bodyPost_ret (results_none rfl _ _ _) rfl ?_
        exact ⟨⟨_, rfl⟩, .inr ⟨pre ++ [⟨q, hm⟩], ⟨bl (s &&& (s - 1)), by rw [pv_snoc, List.append_assoc]; exact hb2.out⟩, hJx3⟩⟩

/-- The iterator that places gives. -/
theorem places_stops (n : Nat) (hn : 1 ≤ n) (Bn n₀ x : Nat) (hx : x < 4294967296) (h₀ : 0 < n₀) (w : World) (hBn : Bn < w.heap.size) (hc : w.cell? ⟨Bn, 0, none⟩ = some (.int .u32 x)) (hT : Tab w) :
    SeqStopsK Fence.wide n Tryd.prog 32 #[.pointer (some ⟨Bn, 0, none⟩)] (fun i : Pl x => #[Value.int .i64 (i.1 : Int)]) (Below n₀) (fun ys => pv ys = bl x) (fun pre => ∃ t, bl x = pv pre ++ t) 32 w := fun l J Jx W hW _ _ hY h0 =>
  places1 n hn l Bn n₀ x hx h₀ J Jx hY W ((hW.cell (p := ⟨Bn, 0, none⟩) hBn).trans hc) (hT.below hT.lt hW) h0

end Go.Proofs.YtcojpajmeacpiaaDoor.Wry
