/-
  The walks of the laws' wakes, of a nil stream's calls, and of the law StreamNil: it returns true, and nothing that was in memory has turned. Conditions: none but that the arguments fit their kinds.
-/
import Derived.Test.YthmholgfnjpgbaaGreatSmK
namespace Go.Proofs.YthmholgfnjpgbaaGreat.Wst
open Go.ChangeShapes Go.WideShapes Go.ChangeAt Go.RowKit Go.Proofs.YthmholgfnjpgbaaGreat.M Go.Proofs.YthmholgfnjpgbaaGreat.Wd

theorem open_calm {W w : World} {D : Nat} {d : Dk} {F : Nat → Prop} (o : One W w D d F) {i n : Nat} {L : List ByteArray} {g : Int} (r : M.Rest d i n L g) (hg : g < 281474976710655) (hk : ∀ j, j < d.k → j ≠ i → (d.r j).q = []) (ha : d.ask = none) :
    Calls Tryz.prog 8 #[.pointer (some ⟨D, 0, none⟩), .int .i64 (i : Int)] w fun e w' => OkO W w D d F i n L g e w' :=
  (open_rest o r hg hk).mono fun _ _ h => h.elim id fun ⟨_, _, _, _, _, q, _⟩ => absurd ha q
/-- An Append that has room, while nothing is asked. -/
def CaO (W w : World) (S D : Nat) (s : Sm) (d : Dk) (F : Nat → Prop) (n : Nat) (b : ByteArray) (e : Ending) (w' : World) : Prop :=
  e = .returned (.int .i64 0) ∧ Kept (Fs F S) w w' ∧ ∃ d', Ss W w' S D { s with L := s.L ++ [b] } d' (Gr F w w') ∧ On d' { s with L := s.L ++ [b] } n ∧ (∀ j, j ≠ s.i → d'.r j = d.r j) ∧ d'.k = d.k ∧ d'.ask = none
theorem append_calm {W w : World} {S D : Nat} {s : Sm} {d : Dk} {F : Nat → Prop} {n : Nat} (h : Ss W w S D s d F) (o : On d s n) (hk : ∀ j, j < d.k → j ≠ s.i → (d.r j).q = []) (b : ByteArray) (hb : b.size ≤ maxLen) (ha : d.ask = none) (hE : s.apE b = 0) :
    Calls Tryz.prog 16 #[.pointer (some ⟨S, 0, none⟩), .string b] w fun e w' => CaO W w S D s d F n b e w' :=
  (append_on h o hk b hb).mono fun e w' ⟨k, c⟩ => by
    rcases c with ⟨q, _⟩ | ⟨_, q2, d', q3, q4, q5, q6, q7⟩ | ⟨_, _, q, _⟩
    · exact absurd hE q
    · exact ⟨q2, k, d', q3, q4, q5, q6, q7 ha⟩
    · exact absurd ha q
theorem apE_of {d : Dk} {s : Sm} {n : Nat} (o : On d s n) (b : ByteArray) : s.apE b = if frE b = 0 then if s.left < (b.size : Int) + 6 then 12 else 0 else frE b := by
  unfold Sm.apE
  rw [o.br, if_neg (by decide)]
  by_cases c : frE b = 0
  · rw [if_pos c, if_pos c]
    have : ((fr b).size : Int) = (b.size : Int) + 6 := by rw [fr_size]; omega
    rw [this]
  · rw [if_neg c, if_neg c]
theorem On.leftN {d : Dk} {s : Sm} {n : Nat} (o : On d s n) : s.left = 55 * (((n - 1) / 2 : Nat) : Int) - 1 - ((frs s.L).size : Int) := by
  unfold Sm.left
  rw [o.h]

set_option maxRecDepth 100000 in
theorem openN (a : Int) (w : World) : Calls Tryz.prog 8 #[.pointer none, .int .i64 a] w fun e w' => e = .returned (.tuple #[.pointer none, .slice none 0 0, .int .i64 1]) ∧ w = w' := by
  go_enter Tryz.func8, Tryz.ntmps8
  go_wp2
  go_ret3
  exact ⟨rfl, rfl⟩

set_option maxRecDepth 100000 in
theorem appendN (b : ByteArray) (w : World) : Calls Tryz.prog 16 #[.pointer none, .string b] w fun e w' => e = .returned (.int .i64 1) ∧ w = w' := by
  have C := hid usableN
  go_enter Tryz.func16, Tryz.ntmps16
  go_wp2_with fail
  refine (C.out _).mono ?_
  rintro e w1 ⟨rfl, rfl⟩
  go_wp2
  go_ret
  exact ⟨rfl, rfl⟩

set_option maxRecDepth 100000 in
theorem resetN (p : Option Addr) (n cap : Nat) (w : World) : Calls Tryz.prog 13 #[.pointer none, .slice p n cap] w fun e w' => e = .returned (.int .i64 1) ∧ w = w' := by
  have C := hid usableN
  go_enter Tryz.func13, Tryz.ntmps13
  go_wp2_with fail
  refine (C.out _).mono ?_
  rintro e w1 ⟨rfl, rfl⟩
  go_wp2
  go_ret
  exact ⟨rfl, rfl⟩

def aB : ByteArray := ⟨#[97]⟩
set_option maxRecDepth 100000 in
set_option maxHeartbeats 800000 in
theorem wakes (w : World) : Calls Tryz.prog 10 #[] w fun e w' => e = .returned (.bool true) ∧ Below w.heap.size w w' := by
  have C0 := hid (newOne (Below.refl w.heap.size w) 5)
  have CC : Hid (∀ w, Calls Tryz.prog 30 #[.int .i64 5] w fun e w' => e = .returned (.int .i64 109) ∧ w = w') := fun w => capacity 5 w
  obtain ⟨R0, A0, K0⟩ := rest_new (z := 5) (by omega) (by omega)
  have OPN : Hid (∀ (W : World) D F, One w W D (newD (fun _ => 5) 1) F → Calls Tryz.prog 8 #[.pointer (some ⟨D, 0, none⟩), .int .i64 0] W fun e w' => ∃ S cap v F' d' s', e = .returned (.tuple #[.pointer (some ⟨S, 0, none⟩), .slice v 0 cap, .int .i64 0]) ∧ Hid (Ss w w' S D s' d' F' ∧ On d' s' 5 ∧ s'.i = 0 ∧ s'.L = [] ∧ s'.g = 1 ∧ d'.k = 1 ∧ d'.ask = none)) := fun W D F o => (open_calm o R0 (by omega) (k1 K0 rfl) A0).mono fun e w' ⟨S, v, F', d', s', q1, q2, q3, q4, q5, q6, q7, q8, q9, _, _, _, own, _⟩ => by
    obtain ⟨a, cap, rfl, _⟩ := War.own_lies (f := nth []) own (fun j hj => absurd hj (Nat.not_lt_zero j))
    have := (On.sw q3).2
    exact ⟨S, cap, a, F', d', s', q1, q2, q3, q4, q5, by omega, q7.trans K0, q9 A0⟩
  have APN : Hid (∀ (W : World) S D F d s, Ss w W S D s d F → On d s 5 → s.i = 0 → s.L = [] → s.g = 1 → d.k = 1 → d.ask = none → Calls Tryz.prog 16 #[.pointer (some ⟨S, 0, none⟩), .string ⟨#[97]⟩] W fun e w' => e = .returned (.int .i64 0) ∧ Hid (∃ F' d' s', Ss w w' S D s' d' F' ∧ On d' s' 5 ∧ s'.i = 0 ∧ s'.L = [aB] ∧ s'.g = 1 ∧ d'.k = 1 ∧ d'.ask = none)) := fun W S D F d s h o hi hL hg hk ha => by
    have hl := On.leftN o
    rw [hL] at hl
    have hE : s.apE aB = 0 := by
      rw [apE_of o]
      have e1 : frE aB = 0 := by decide
      have e2 : s.left = 109 := hl.trans (by decide)
      rw [if_pos e1, e2]
      decide
    refine (append_calm h o (k1 hk hi) aB (by decide) ha hE).mono fun e w' ⟨q1, _, d', q3, q4, q5, q6, q7⟩ => ?_
    exact ⟨q1, _, d', _, q3, q4, hi, by show s.L ++ [aB] = [aB]; rw [hL]; rfl, hg, q6.trans hk, q7⟩
  have CRS : Hid (∀ (W : World) S D F d s, Ss w W S D s d F → On d s 5 → s.i = 0 → s.L = [aB] → s.g = 1 → d.k = 1 → Calls Tryz.prog 31 #[.pointer (some ⟨D, 0, none⟩), .slice none 0 0] W fun e w' => e = .returned (.tuple #[]) ∧ Hid (∃ F' d', One w w' D d' F' ∧ M.Rest d' 0 5 [aB] 1 ∧ d'.ask = none ∧ d'.k = 1)) := fun W S D F d s h o hi hL hg hk => by
    refine (crash_none h.o (On.q o (k1 hk hi))).mono fun e w' ⟨q1, q2, _⟩ => ?_
    have r := o.rest.crash []
    rw [hi, hL, hg] at r
    exact ⟨q1, _, _, q2, r.1, r.2, hk⟩
  have OP2 : Hid (∀ (W : World) D F d, One w W D d F → M.Rest d 0 5 [aB] 1 → d.ask = none → d.k = 1 → Calls Tryz.prog 8 #[.pointer (some ⟨D, 0, none⟩), .int .i64 0] W fun e w' => ∃ S cap b off, e = .returned (.tuple #[.pointer (some ⟨S, 0, none⟩), .slice (some ⟨b, off, none⟩) 1 cap, .int .i64 0]) ∧ w'.cell? ⟨b, off, none⟩ = some (.string ⟨#[97]⟩) ∧ Hid (1 ≤ cap ∧ Below w.heap.size w w')) := fun W D F d o r ha hk => (open_calm o r (by omega) (k1 hk rfl) ha).mono fun e w' ⟨S, v, F', d', s', q1, q2, q3, q4, q5, q6, q7, q8, q9, _, _, _, own, _⟩ => by
    obtain ⟨a, cap, rfl, hc, _, li⟩ := War.own_lies (f := nth [aB]) own (fun j hj => rcv_get hj)
    rcases li with li | ⟨b, off, rfl, _, hcell⟩
    · exact absurd li (by decide)
    · have := hcell 0 (by decide)
      exact ⟨S, cap, b, off, q1, this, hc, q2.o.bel⟩
  clear R0 A0 K0
  go_enter Tryz.func10, Tryz.ntmps10
  go_wp2_with fail
  refine C0.out.mono ?_
  rintro e w1 ⟨rfl, ⟨F, o⟩, _⟩
  have O1 := hid (OPN.out w1 _ F o)
  clear o OPN C0
  go_wp2_with fail
  refine O1.out.mono ?_
  rintro e w2 ⟨S, cap, v, F', d', s', rfl, h2⟩
  obtain ⟨a1, a2, a3, a4, a5, a6, a7⟩ := h2.out
  have A1 := hid (APN.out w2 _ _ _ _ _ a1 a2 a3 a4 a5 a6 a7)
  clear a1 a2 a3 a4 a5 a6 a7 h2 O1 APN
  go_wp2_with fail
  refine A1.out.mono ?_
  rintro e w3 ⟨rfl, h3⟩
  obtain ⟨F3, d3, s3, a1, a2, a3, a4, a5, a6, a7⟩ := h3.out
  have G1 := hid (gen a1.st)
  rw [a5] at G1
  have CR := hid (CRS.out w3 _ _ _ _ _ a1 a2 a3 a4 a5 a6)
  clear a1 a2 a3 a4 a5 a6 a7 h3 A1 CRS
  go_wp2_with fail
  refine (CC.out _).mono ?_
  rintro e w4 ⟨rfl, rfl⟩
  go_wp2_with fail
  refine G1.out.mono ?_
  rintro e w4 ⟨rfl, rfl⟩
  go_wp2_with fail
  refine CR.out.mono ?_
  rintro e w5 ⟨rfl, h5⟩
  obtain ⟨F5, d5, a1, a2, a3, a4⟩ := h5.out
  have O2 := hid (OP2.out w5 _ _ _ a1 a2 a3 a4)
  clear a1 a2 a3 a4 h5 CR G1 OP2 CC
  go_wp2_with fail
  refine O2.out.mono ?_
  rintro e w6 ⟨S2, cap2, b, off, rfl, hc, h6⟩
  clear O2
  go_wp2
  go_ret
  exact ⟨rfl, h6.out.2⟩

end Go.Proofs.YthmholgfnjpgbaaGreat.Wst
