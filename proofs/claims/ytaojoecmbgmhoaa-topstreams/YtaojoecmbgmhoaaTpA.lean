/-
  The walks of TopStreams' helper streams and of its closure arm: streams returns true; arm arms the next loss of power, if there is one. Conditions: the law's memory is as its predicate says.
-/
import Derived.Test.YtaojoecmbgmhoaaTpW
namespace Go.Proofs.Ytaojoecmbgmhoaa.Wtp
open Go.ChangeShapes Go.WideShapes Go.ChangeAt Go.RowKit Go.Proofs.Ytaojoecmbgmhoaa.M Go.Proofs.Ytaojoecmbgmhoaa.Wd Go.Proofs.Ytaojoecmbgmhoaa.Wst

def aT : ByteArray := ⟨#[97]⟩
set_option maxRecDepth 100000 in
set_option maxHeartbeats 800000 in
theorem streams (w : World) : Calls Try.prog 4 #[] w fun e w' => e = .returned (.bool true) ∧ Below w.heap.size w w' := by
  have C0 := hid (newOne (Below.refl w.heap.size w) 9)
  obtain ⟨R0, A0, K0⟩ := rest_new (z := 9) (by omega) (by omega)
  have OPN : Hid (∀ (W : World) D F, One w W D (newD (fun _ => 9) 1) F → Calls Try.prog 9 #[.pointer (some ⟨D, 0, none⟩), .int .i64 0] W fun e w' => ∃ S cap v F' d' s', e = .returned (.tuple #[.pointer (some ⟨S, 0, none⟩), .slice v 0 cap, .int .i64 0]) ∧ Hid (Ss w w' S D s' d' F' ∧ On d' s' 9 ∧ s'.i = 0 ∧ s'.L = [] ∧ s'.g = 1 ∧ d'.k = 1 ∧ d'.ask = none)) := fun W D F o => (open_calm o R0 (by omega) (k1 K0 rfl) A0).mono fun e w' ⟨S, v, F', d', s', q1, q2, q3, q4, q5, q6, q7, q8, q9, _, _, _, own, _⟩ => by
    obtain ⟨a, cap, rfl, _⟩ := War.own_lies (f := nth []) own (fun j hj => absurd hj (Nat.not_lt_zero j))
    have := (On.sw q3).2
    exact ⟨S, cap, a, F', d', s', q1, q2, q3, q4, q5, by omega, q7.trans K0, q9 A0⟩
  have APN : Hid (∀ (W : World) S D F d s, Ss w W S D s d F → On d s 9 → s.i = 0 → s.L = [] → s.g = 1 → d.k = 1 → d.ask = none → Calls Try.prog 12 #[.pointer (some ⟨S, 0, none⟩), .string ⟨#[97]⟩] W fun e w' => e = .returned (.int .i64 0) ∧ Hid (∃ F' d' s', Ss w w' S D s' d' F' ∧ On d' s' 9 ∧ s'.i = 0 ∧ s'.L = [aT] ∧ s'.g = 1 ∧ d'.k = 1 ∧ d'.ask = none)) := fun W S D F d s h o hi hL hg hk ha => by
    have hl := On.leftN o
    rw [hL] at hl
    have hE : s.apE aT = 0 := by
      rw [apE_of o]
      have e1 : frE aT = 0 := by decide
      have e2 : s.left = 219 := hl.trans (by decide)
      rw [if_pos e1, e2]
      decide
    refine (append_calm h o (k1 hk hi) aT (by decide) ha hE).mono fun e w' ⟨q1, _, d', q3, q4, q5, q6, q7⟩ => ?_
    exact ⟨q1, _, d', _, q3, q4, hi, by show s.L ++ [aT] = [aT]; rw [hL]; rfl, hg, q6.trans hk, q7⟩
  have CRS : Hid (∀ (W : World) S D F d s, Ss w W S D s d F → On d s 9 → s.i = 0 → s.L = [aT] → s.g = 1 → d.k = 1 → Calls Try.prog 14 #[.pointer (some ⟨D, 0, none⟩), .slice none 0 0] W fun e w' => e = .returned (.tuple #[]) ∧ Hid (∃ F' d', One w w' D d' F' ∧ M.Rest d' 0 9 [aT] 1 ∧ d'.ask = none ∧ d'.k = 1)) := fun W S D F d s h o hi hL hg hk => by
    refine (crash_none h.o (On.q o (k1 hk hi))).mono fun e w' ⟨q1, q2, _⟩ => ?_
    have r := o.rest.crash []
    rw [hi, hL, hg] at r
    exact ⟨q1, _, _, q2, r.1, r.2, hk⟩
  have OP2 : Hid (∀ (W : World) D F d, One w W D d F → M.Rest d 0 9 [aT] 1 → d.ask = none → d.k = 1 → Calls Try.prog 9 #[.pointer (some ⟨D, 0, none⟩), .int .i64 0] W fun e w' => ∃ S cap b off, e = .returned (.tuple #[.pointer (some ⟨S, 0, none⟩), .slice (some ⟨b, off, none⟩) 1 cap, .int .i64 0]) ∧ w'.cell? ⟨b, off, none⟩ = some (.string ⟨#[97]⟩) ∧ Hid (1 ≤ cap ∧ Below w.heap.size w w')) := fun W D F d o r ha hk => (open_calm o r (by omega) (k1 hk rfl) ha).mono fun e w' ⟨S, v, F', d', s', q1, q2, q3, q4, q5, q6, q7, q8, q9, _, _, _, own, _⟩ => by
    obtain ⟨a, cap, rfl, hc, _, li⟩ := War.own_lies (f := nth [aT]) own (fun j hj => rcv_get hj)
    rcases li with li | ⟨b, off, rfl, _, hcell⟩
    · exact absurd li (by decide)
    · have := hcell 0 (by decide)
      exact ⟨S, cap, b, off, q1, this, hc, q2.o.bel⟩
  clear R0 A0 K0
  go_enter Try.func4, Try.ntmps4
  go_wp2_with fail
  refine C0.out.mono ?_
  rintro e w1 ⟨rfl, ⟨F, o⟩, _⟩
  have O1 := hid (OPN.out w1 _ F o)
  clear o OPN C0
  go_wp2_with fail
  refine O1.out.mono ?_
  rintro e w2 ⟨S, cap, v, F', d', s', rfl, h2⟩
  obtain ⟨a1, a2, a3, a4, a5, a6, a7⟩ := h2.out
  have A1 := hid (APN.out w2 _ _ _ _ _ a1 a2 a3 a4 a5 a6 a7)
  clear a1 a2 a3 a4 a5 a6 a7 h2 O1 APN
  go_wp2_with fail
  refine A1.out.mono ?_
  rintro e w3 ⟨rfl, h3⟩
  obtain ⟨F3, d3, s3, a1, a2, a3, a4, a5, a6, a7⟩ := h3.out
  have CR := hid (CRS.out w3 _ _ _ _ _ a1 a2 a3 a4 a5 a6)
  clear a1 a2 a3 a4 a5 a6 a7 h3 A1 CRS
  go_wp2_with fail
  refine CR.out.mono ?_
  rintro e w5 ⟨rfl, h5⟩
  obtain ⟨F5, d5, a1, a2, a3, a4⟩ := h5.out
  have O2 := hid (OP2.out w5 _ _ _ a1 a2 a3 a4)
  clear a1 a2 a3 a4 h5 CR OP2
  go_wp2_with fail
  refine O2.out.mono ?_
  rintro e w6 ⟨S2, cap2, b, off, rfl, hc, h6⟩
  clear O2
  go_wp2
  go_ret
  exact ⟨rfl, h6.out.2⟩

/-- The losses of power, in the block C. -/
structure Cv (V : World) (C : Nat) (a : Option Addr) (nc cc : Nat) (A : Nat → Wls.Cu) : Prop where
  c : V.heap[C]? = some (.cells #[.slice a nc cc] 23 (0, 0))
  cu : Wls.Cus V a nc A
  h1 : nc ≤ cc
  h2 : cc ≤ maxLen

/-- What arming comes to. -/
def ArP (V : World) (P C D n nn lost : Nat) (d : Dk) (s : Nat → Sm) (L : Nat → List ByteArray) (m : Nat → ByteArray) (SP : Nat → Nat) (sv v : Nat → Value) (w' : World) : Prop :=
  ∃ lost' d' F' G', Tp V w' P C D n nn lost' d' s L m F' G' SP sv v ∧ ((lost' = lost ∧ d' = d) ∨ (lost' = lost + 1 ∧ lost < 8 ∧ ∃ a n K, d' = d.cut a n K))

set_option maxRecDepth 100000 in
set_option maxHeartbeats 800000 in
theorem arm {V w : World} {P C D n nn lost : Nat} {d : Dk} {s : Nat → Sm} {L : Nat → List ByteArray} {m : Nat → ByteArray} {F G : Nat → Prop} {SP : Nat → Nat} {sv v : Nat → Value} (h : Tp V w P C D n nn lost d s L m F G SP sv v) {a : Option Addr} {nc cc : Nat} {A : Nat → Wls.Cu} (cv : Cv V C a nc cc A) (hlost : lost ≤ 8) :
    Calls Try.prog 6 #[.pointer (some ⟨P + 4, 0, none⟩), .pointer (some ⟨C, 0, none⟩), .pointer (some ⟨P, 0, none⟩)] w fun e w' => e = .returned (.tuple #[]) ∧ Hid (ArP V P C D n nn lost d s L m SP sv v w') := by
  have cC : C < V.heap.size := blk_lt cv.c
  have kC := blk_cell (l := [.slice a nc cc]) ((h.o.bel.block C cC).trans cv.c) (i := 0) rfl
  have kL := blk_cell (l := [.int .i64 (lost : Int)]) h.hl (i := 0) rfl
  have kP := blk_cell (l := [.pointer (some ⟨D, 0, none⟩)]) h.p (i := 0) rfl
  have hPl := h.lt
  have hP0 : P < w.heap.size := by omega
  have hnc := cv.h1
  have hcc := cv.h2
  unfold maxLen at hcc
  by_cases c1 : lost < nc
  · by_cases c2 : lost < 8
    · rcases cv.cu.2 with hz | ⟨b, o, rfl, hb, hcell⟩
      · omega
      have ok := cv.cu.1 lost c1
      have hc := hcell lost c1
      have kc0 : w.cell? ⟨b, o + lost * 3, none⟩ = some (.int .i64 (A lost).a) := (h.o.bel.cell (p := ⟨b, o + lost * 3, none⟩) hb).trans (hc 0 _ rfl)
      have kc1 : w.cell? ⟨b, o + lost * 3 + 1, none⟩ = some (.int .i64 (A lost).n) := (h.o.bel.cell (p := ⟨b, o + lost * 3 + 1, none⟩) hb).trans (hc 1 _ rfl)
      have kc2 : w.cell? ⟨b, o + lost * 3 + 2, none⟩ = some (.int .u64 (A lost).k) := (h.o.bel.cell (p := ⟨b, o + lost * 3 + 2, none⟩) hb).trans (hc 2 _ rfl)
      have okn := ok.n
      have okk := ok.k
      have oka := ok.a
      generalize (A lost).a = ca at kc0 oka
      generalize (A lost).n = cn at kc1 okn
      generalize (A lost).k = ck at kc2 okk
      obtain ⟨q, _, q1, q2, q3, q4⟩ := max_mod ca 2 (by decide)
      have q3' : max 0 ca % 2 = (q : Int) := q3
      have q2' : (max 0 ca).tmod 2 = (q : Int) := q2
      have CU : Hid (∀ (W' : World) g, Below w.heap.size w W' → W'.heap[g]? = some (.cells #[.int .u64 ck, .int .u64 ck] 32 (0, 0)) → w.heap.size ≤ g → Calls Try.prog 7 #[.pointer (some ⟨D, 0, none⟩), .int .i64 (q : Int), .int .i64 cn, .slice (some ⟨g, 0, none⟩) 2 2] W' fun e w' => e = .returned (.tuple #[]) ∧ w'.cell? ⟨P + 4, 0, none⟩ = some (.int .i64 (lost : Int)) ∧ w'.frozen? ⟨P + 4, 0, none⟩ = false ∧ Hid (ArP V P C D n nn lost d s L m SP sv v (w'.setCell ⟨P + 4, 0, none⟩ (.int .i64 ((lost + 1 : Nat) : Int))))) := fun W' g bw hg hge => by
        have hh := h.below bw
        refine (one_cut hh.o (q : Int) cn okn.2 (some ⟨g, 0, none⟩) [ck, ck] 2 (fun x hx => ?_) (by show 2 * 8 ≤ 140737488355328; decide) (fun e => by cases e) (fun j hj => ⟨g, 0, rfl, blk_lt hg, fun c => ?_, ?_⟩)).mono fun e w' ⟨e1, e2, e3⟩ => ?_
        · have : x = ck := by simpa using hx
          rw [this]
          exact okk
        · have := one_lt h.o c
          omega
        · rw [Nat.zero_add]
          have hj' : j < 2 := hj
          match j, hj' with
          | 0, _ => exact blk_cell (l := [_, _]) hg rfl
          | 1, _ => exact blk_cell (l := [_, _]) hg rfl
        · have h2 := hh.disk e2 e3
          exact ⟨e1, blk_cell (l := [_]) h2.hl rfl, blk_free h2.hl 0, _, _, _, _, h2.setL (lost + 1), .inr ⟨rfl, c2, _, _, _, rfl⟩⟩
      have hN := (rfl : Hid (True = True))
      clear h cv hcell hc ok q1 q2 q3 q4 hN oka okk okn
      go_enter Try.func6, Try.ntmps6
      go_wp2_with fail
      refine (CU.out _ _ (((Below.refl w.heap.size w).alloc (Nat.le_refl _) _).alloc (by simp) _) (by rw [show w.heap.size + 1 = (w.alloc (.cells #[.int .i64 ca, .int .i64 cn, .int .u64 ck] 34)).heap.size by simp]; exact heap_alloc_last _ _) (by omega)).mono ?_
      rintro e w2 ⟨rfl, k1, k2, E⟩
      clear CU
      go_wp2
      go_end0
      exact ⟨rfl, E⟩
    · have E := hid (show ArP V P C D n nn lost d s L m SP sv v w from ⟨_, _, _, _, h, .inl ⟨rfl, rfl⟩⟩)
      clear h cv
      go_enter Try.func6, Try.ntmps6
      go_wp2
      go_end0
      exact ⟨rfl, E⟩
  · have E := hid (show ArP V P C D n nn lost d s L m SP sv v w from ⟨_, _, _, _, h, .inl ⟨rfl, rfl⟩⟩)
    clear h cv
    go_enter Try.func6, Try.ntmps6
    go_wp2
    go_end0
    exact ⟨rfl, E⟩

end Go.Proofs.Ytaojoecmbgmhoaa.Wtp
