/-
  The walk of the law StreamLasts: wherever the power fails, again and again, the records that were told are there, and perhaps the one that wasn't told; the law returns true, and nothing that was in memory has turned. Conditions: none but that the arguments lie in memory as such do.
-/
import Derived.Test.YtefbdmijbcplmaaLwD
import Derived.Test.YtefbdmijbcplmaaLsV
namespace Go.Proofs.Ytefbdmijbcplmaa.Wst
open Go.ChangeShapes Go.WideShapes Go.ChangeAt Go.RowKit Go.Proofs.Ytefbdmijbcplmaa.M Go.Proofs.Ytefbdmijbcplmaa.Wd

/-- What there is, by what was told and what may be. -/
def May (L T : List ByteArray) (mb : ByteArray) : Prop := L = T ∨ (¬ mb.size = 0 ∧ L = T ++ [mb])

/-- At the head of a round: the power is on, nothing is asked. -/
def Hd (W wr : World) (D N : Nat) (n : Nat) (i : Nat) (told : Value) (mb : ByteArray) : Prop :=
  ∃ T L F d g, One W wr D d F ∧ M.Rest d 0 N L g ∧ d.ask = none ∧ d.k = 1 ∧ g ≤ (n : Int) ∧ May L T mb ∧ Rw W wr F told T ∧ T.length ≤ 40 ∧ T.length + (if mb.size = 0 then 0 else 1) ≤ i
/-- Ahead of the Open: perhaps a loss of power is asked for. -/
def Hc (W wr : World) (D N : Nat) (n i kl : Nat) (told : Value) (mb : ByteArray) : Prop :=
  ∃ T L F d g, One W wr D d F ∧ M.Rest d 0 N L g ∧ (kl ≤ n → d.ask = none) ∧ d.k = 1 ∧ g ≤ (n : Int) ∧ May L T mb ∧ Rw W wr F told T ∧ T.length ≤ 40 ∧ T.length + (if mb.size = 0 then 0 else 1) ≤ i
/-- In the inner loop: the stream goes on, with what was told, or the power has failed. -/
def Hi (W wr : World) (S D N : Nat) (n i kl : Nat) (told : Value) (mb : ByteArray) (E : Int) : Prop :=
  (E = 0 ∧ mb.size = 0 ∧ ∃ F d s, Ss W wr S D s d F ∧ On d s N ∧ s.i = 0 ∧ d.k = 1 ∧ (kl ≤ n → d.ask = none) ∧ s.g ≤ (n : Int) + 1 ∧ Rw W wr (Fs F S) told s.L ∧ s.L.length ≤ i ∧ s.L.length ≤ 40) ∨
  (E = 11 ∧ n < kl ∧ ∃ T L F d, One W wr D d F ∧ Down d 0 N L ((n : Int) + 1) ∧ d.k = 1 ∧ May L T mb ∧ Rw W wr F told T ∧ T.length ≤ 40 ∧ T.length + (if mb.size = 0 then 0 else 1) ≤ i)

theorem one_cut1 {W w : World} {D : Nat} {d : Dk} {F : Nat → Prop} (o : One W w D d F) (n kp : Int) (hn : n < 9223372036854775808) (hk : 0 ≤ kp ∧ kp < 18446744073709551616) :
    Calls Try.prog 7 #[.pointer (some ⟨D, 0, none⟩), .int .i64 0, .int .i64 n, .slice (some ⟨w.heap.size, 0, none⟩) 1 1] (w.alloc (.cells #[.int .u64 kp] 28)) fun e w' => e = .returned (.tuple #[]) ∧ One W w' D (d.cut 0 n [kp]) (Gr F (w.alloc (.cells #[.int .u64 kp] 28)) w') ∧ Kept F (w.alloc (.cells #[.int .u64 kp] 28)) w' := by
  have bA : Below w.heap.size w (w.alloc (.cells #[.int .u64 kp] 28)) := (Below.refl _ _).alloc (Nat.le_refl _) _
  exact one_cut (o.below bA) 0 n hn (some ⟨w.heap.size, 0, none⟩) [kp] 1 (fun x hx => by rw [List.mem_singleton.1 hx]; exact hk) (by show 1 * 8 ≤ 140737488355328; omega) (fun e => by cases e) (fun j hj => ⟨w.heap.size, 0, rfl, by simp, fun c => by have := one_lt o c; omega, by
    match j, hj with
    | 0, _ => exact blk_cell (l := [.int .u64 kp]) (heap_alloc_last w _) rfl⟩)

theorem Hd.cut {W w : World} {D N n i kl : Nat} {told : Value} {mb : ByteArray} (h : Hd W w D N n i told mb) (hkl : n < kl) (z kp : Int) (hz : z < 9223372036854775808) (hk : 0 ≤ kp ∧ kp < 18446744073709551616) :
    Calls Try.prog 7 #[.pointer (some ⟨D, 0, none⟩), .int .i64 0, .int .i64 z, .slice (some ⟨w.heap.size, 0, none⟩) 1 1] (w.alloc (.cells #[.int .u64 kp] 28)) fun e w' => e = .returned (.tuple #[]) ∧ Hc W w' D N n i kl told mb ∧ Below W.heap.size W w' := by
  obtain ⟨T, L, F, d, g, a1, a2, a3, a4, a5, a6, a7, a8, a9⟩ := h
  refine (one_cut1 a1 z kp hz hk).mono fun e w' ⟨h1, h2, h3⟩ => ?_
  have bA : Below w.heap.size w (w.alloc (.cells #[.int .u64 kp] 28)) := (Below.refl _ _).alloc (Nat.le_refl _) _
  exact ⟨h1, ⟨T, L, _, _, g, h2, a2.cut 0 z [kp], fun c => by omega, a4, a5, a6, (a7.below bA).kept h3 (gr_old (w' := w')), a8, a9⟩, h2.bel⟩
theorem Hd.none {W w : World} {D N n i kl : Nat} {told : Value} {mb : ByteArray} (h : Hd W w D N n i told mb) : Hc W w D N n i kl told mb := by
  obtain ⟨T, L, F, d, g, a1, a2, a3, a4, a5, a6, a7, a8, a9⟩ := h
  exact ⟨T, L, F, d, g, a1, a2, fun _ => a3, a4, a5, a6, a7, a8, a9⟩

/-- What the Open of a round comes to. -/
def Ho (W : World) (D N n i kl : Nat) (told : Value) (mb : ByteArray) (e : Ending) (w' : World) : Prop :=
  (∃ S a cap l, e = .returned (.tuple #[.pointer (some ⟨S, 0, none⟩), .slice a l cap, .int .i64 0]) ∧ ∃ T F d s, Hid (l = s.L.length ∧ l ≤ 41 ∧ War.Lies w' a s.L.length (nth s.L) ∧ (∀ lb lo, a = some ⟨lb, lo, none⟩ → ¬ told.ownBlock = some lb) ∧ Ss W w' S D s d F ∧ On d s N ∧ s.i = 0 ∧ d.k = 1 ∧ (kl ≤ n → d.ask = none) ∧ s.g ≤ (n : Int) + 1 ∧ May s.L T mb ∧ Rw W w' (Fs F S) told T ∧ T.length ≤ 40 ∧ T.length + (if mb.size = 0 then 0 else 1) ≤ i)) ∨
  (e = .returned (.tuple #[.pointer none, .slice none 0 0, .int .i64 11]) ∧ Hid (n < kl ∧ ∃ T L F d, One W w' D d F ∧ Down d 0 N L ((n : Int) + 1) ∧ d.k = 1 ∧ May L T mb ∧ Rw W w' F told T ∧ T.length ≤ 40 ∧ T.length + (if mb.size = 0 then 0 else 1) ≤ i))
theorem may_len {L T : List ByteArray} {mb : ByteArray} (h : May L T mb) : L.length ≤ T.length + 1 := by
  rcases h with h | ⟨_, h⟩
  · rw [h]; omega
  · rw [h, list_len]
    omega
theorem Hc.opens {W w : World} {D N n i kl : Nat} {told : Value} {mb : ByteArray} (h : Hc W w D N n i kl told mb) (hn : n ≤ 20) :
    Calls Try.prog 8 #[.pointer (some ⟨D, 0, none⟩), .int .i64 0] w fun e w' => Ho W D N n i kl told mb e w' := by
  obtain ⟨T, L, F, d, g, a1, a2, a3, a4, a5, a6, a7, a8, a9⟩ := h
  refine (open_rest a1 a2 (by omega) (k1 a4 rfl)).mono fun e w' h => ?_
  rcases h with ⟨S, v, F', d', s', q1, q2, q3, q4, q5, q6, q7, q8, q9, kp, gr, hS, own, ap⟩ | ⟨d', q1, q2, q3, q4, q5, q6, q7⟩
  · obtain ⟨a, cap, rfl, _, _, li⟩ := War.own_lies own (fun j hj => rcv_get hj)
    have hl := may_len a6
    refine .inl ⟨S, a, cap, L.length, q1, T, F', d', s', ?_⟩
    refine ⟨by rw [q5], by omega, by rw [q5]; exact li, fun lb lo ea et => ?_, q2, q3, q4, q7.trans a4, fun c => q9 (a3 c), by omega, by rw [q5]; exact a6, a7.kept kp (fun b hb => ?_), a8, a9⟩
    · have h1 := (own.lt lb (by rw [ea]; rfl)).1
      have h2 := (a7.own.lt lb et).2
      omega
    rcases hb with hb | hb
    · exact gr_old b (gr b hb)
    · exact .inr (by omega)
  · have hlt : n < kl := by
      rcases Nat.lt_or_ge n kl with c | c
      · exact c
      · exact absurd (a3 c) q5
    obtain ⟨y, h1, h2, h3⟩ := q3.r
    exact .inr ⟨q1, hlt, T, L, _, d', q2, ⟨q3.off, q3.ask, q3.hi, q3.hn, ⟨y, h1, h2, by omega⟩, q3.cap⟩, q4.trans a4, a6, a7.kept q7 (gr_old (w' := w')), a8, a9⟩
/-- The power comes on again: the next round's head. -/
theorem down_on {W w : World} {D N n i : Nat} {told : Value} {mb : ByteArray} {T L : List ByteArray} {F : Nat → Prop} {d : Dk} (o : One W w D d F) (dn : Down d 0 N L ((n : Int) + 1)) (hk : d.k = 1) (hm : May L T mb) (r : Rw W w F told T) (h1 : T.length ≤ 40) (h2 : T.length + (if mb.size = 0 then 0 else 1) ≤ i) :
    Calls Try.prog 11 #[.pointer (some ⟨D, 0, none⟩)] w fun e w' => e = .returned (.tuple #[]) ∧ Hd W w' D N (n + 1) i told mb := by
  refine o.on.mono fun e w' ⟨q1, q2, q3⟩ => ?_
  obtain ⟨r1, r2⟩ := dn.on
  exact ⟨q1, T, L, _, _, _, q2, r1, r2, hk, by omega, hm, r.kept q3 (gr_old (w' := w')), h1, h2⟩

/-- An Append in the inner loop. -/
def Ha (W : World) (S D N n i kl : Nat) (told : Value) (b : ByteArray) (L0 : List ByteArray) (e : Ending) (w' : World) : Prop :=
  ∃ X, e = .returned (.int .i64 X) ∧
  ((¬ X = 0 ∧ ¬ X = 11 ∧ Hid (Hi W w' S D N n (i + 1) kl told ⟨#[]⟩ 0)) ∨
   (X = 0 ∧ Hid (∃ F d s, s.L = L0 ++ [b] ∧ Ss W w' S D s d F ∧ On d s N ∧ s.i = 0 ∧ d.k = 1 ∧ (kl ≤ n → d.ask = none) ∧ s.g ≤ (n : Int) + 1 ∧ Rw W w' (Fs F S) told L0)) ∨
   (X = 11 ∧ Hid (Hi W w' S D N n (i + 1) kl told b 11)))
theorem apE_not {d : Dk} {s : Sm} {N : Nat} (o : On d s N) (b : ByteArray) : ¬ s.apE b = 11 := by
  rw [apE_of o]
  unfold frE
  by_cases c1 : b.size = 0
  · rw [if_pos c1, if_neg (by decide)]; decide
  · rw [if_neg c1]
    by_cases c2 : 4096 < b.size
    · rw [if_pos c2, if_neg (by decide)]; decide
    · rw [if_neg c2, if_pos rfl]
      split <;> decide
theorem inner_append {W w : World} {S D N n i kl : Nat} {told : Value} {F : Nat → Prop} {d : Dk} {s : Sm} (h : Ss W w S D s d F) (o : On d s N) (hi : s.i = 0) (hk : d.k = 1) (ha : kl ≤ n → d.ask = none) (hg : s.g ≤ (n : Int) + 1) (r : Rw W w (Fs F S) told s.L) (h1 : s.L.length ≤ i) (h40 : s.L.length ≤ 40) (b : ByteArray) (hb : b.size ≤ maxLen) :
    Calls Try.prog 10 #[.pointer (some ⟨S, 0, none⟩), .string b] w fun e w' => Ha W S D N n i kl told b s.L e w' := by
  refine (append_on h o (k1 hk hi) b hb).mono fun e w' ⟨kp, c⟩ => ?_
  have r1 := r.kept kp (fs_gr (w' := w'))
  rcases c with ⟨q0, q1, q2⟩ | ⟨q1, q2, d', q3, q4, q5, q6, q7⟩ | ⟨q0, q1, q2, d', s', q3, q4, q5, _⟩
  · exact ⟨_, q1, .inl ⟨q0, apE_not o b, .inl ⟨rfl, rfl, _, d, s, q2, o, hi, hk, ha, hg, r1, by omega, h40⟩⟩⟩
  · exact ⟨_, q2, .inr (.inl ⟨rfl, _, d', _, rfl, q3, q4, hi, q6.trans hk, fun c => q7 (ha c), hg, r1⟩)⟩
  · refine ⟨_, q1, .inr (.inr ⟨rfl, .inr ⟨rfl, ?_, ?_⟩⟩)⟩
    · rcases Nat.lt_or_ge n kl with c | c
      · exact c
      · exact absurd (ha c) q2
    · have hbz : ¬ b.size = 0 := fun e => by
        have hE := apE_of o b
        rw [q0, (fr_none e).1, if_neg (by decide)] at hE
        cases hE
      have hl : s.L.length + (if b.size = 0 then 0 else 1) ≤ i + 1 := by rw [if_neg hbz]; omega
      have rr : Rw W w' (Gr F w w') told s.L := r1.mono fun _ hb => .inl hb
      rw [hi] at q4
      rcases q4 with dn | dn
      · obtain ⟨y, e1, e2, e3⟩ := dn.r
        exact ⟨s.L, s.L, _, d', q3.o, ⟨dn.off, dn.ask, dn.hi, dn.hn, ⟨y, e1, e2, by omega⟩, dn.cap⟩, q5.trans hk, .inl rfl, rr, h40, hl⟩
      · obtain ⟨y, e1, e2, e3⟩ := dn.r
        exact ⟨s.L, s.L ++ [b], _, d', q3.o, ⟨dn.off, dn.ask, dn.hi, dn.hn, ⟨y, e1, e2, by omega⟩, dn.cap⟩, q5.trans hk, .inr ⟨hbz, rfl⟩, rr, h40, hl⟩

theorem Hd.below {W w w' : World} {D N n i : Nat} {told : Value} {mb : ByteArray} (h : Hd W w D N n i told mb) (b : Below w.heap.size w w') : Hd W w' D N n i told mb := by
  obtain ⟨T, L, F, d, g, a1, a2, a3, a4, a5, a6, a7, a8, a9⟩ := h
  exact ⟨T, L, F, d, g, a1.below b, a2, a3, a4, a5, a6, a7.below b, a8, a9⟩
/-- Two rows of the same texts. -/
theorem eq_true {W w : World} {G : Nat → Prop} {v : Value} {L : List ByteArray} (r : Rw W w G v L) (a : Option Addr) (l cap : Nat) (li : War.Lies w a L.length (nth L)) (hl : l = L.length) (h41 : l ≤ 100000) :
    Calls Try.prog 9 #[.slice a l cap, v] w fun e w' => e = .returned (.bool true) ∧ Below w.heap.size w w' := by
  obtain ⟨a', cap', rfl, _, _, li'⟩ := r.lies
  subst hl
  have C := equal_ L L a a' cap cap' w li li' (by omega)
  rw [decide_eq_true rfl] at C
  exact C
/-- The last round's end: the power on, the region at rest. -/
theorem last_on {W w : World} {S D N : Nat} {told : Value} {F : Nat → Prop} {d : Dk} {s : Sm} (h : Ss W w S D s d F) (o : On d s N) (hi : s.i = 0) (hk : d.k = 1) (r : Rw W w (Fs F S) told s.L) :
    Calls Try.prog 11 #[.pointer (some ⟨D, 0, none⟩)] w fun e w' => e = .returned (.tuple #[]) ∧ ∃ F' d', One W w' D d' F' ∧ M.Rest d' 0 N s.L s.g ∧ d'.ask = none ∧ d'.k = 1 ∧ Rw W w' F' told s.L := by
  refine h.o.on.mono fun e w' ⟨q1, q2, q3⟩ => ?_
  have r1 := o.on.rest
  rw [hi] at r1
  exact ⟨q1, _, _, q2, r1, rfl, hk, (r.mono fun _ hb => .inl hb).kept q3 (gr_old (w' := w'))⟩
theorem lies_grown {w w2 : World} {a : Option Addr} {n : Nat} {f : Nat → ByteArray} {o : Obj} {row : Option Nat} (h : War.Lies w a n f) (gr : (w.alloc o).grownBy w2 row) {lb lo : Nat} (hr : ¬ row = some lb) (ha : a = some ⟨lb, lo, none⟩ := by rfl) : War.Lies w2 a n f := by
  rcases h with h | ⟨b, off, h1, h2, h3⟩
  · exact .inl h
  · have e : b = lb := by rw [h1] at ha; injection ha with ha; injection ha
    subst e
    have bA : Below w.heap.size w (w.alloc o) := (Below.refl _ _).alloc (Nat.le_refl _) o
    have hb : w2.heap[b]? = w.heap[b]? := (gr.block b (by simp; omega) (fun c => hr c.symm)).trans (bA.block b h2)
    exact .inr ⟨b, off, h1, blk_lt (hb.trans (Array.getElem?_eq_getElem h2)), fun i hi => (World.cell?_of_block (a := ⟨b, off + i, none⟩) hb).trans (h3 i hi)⟩
theorem empty_eq {b : ByteArray} (h : b.size = 0) : b = ⟨#[]⟩ := ByteArray.ext (Array.eq_empty_of_size_eq_zero h)

set_option maxRecDepth 100000 in
set_option maxHeartbeats 8000000 in
theorem lawLasts (size : Int) (p : Option Addr) (n cap : Nat) (y : Nat → ByteArray) (ls : Option Addr) (m cap2 : Nat) (A : Nat → Wls.Lo) (w : World) (_ : -9223372036854775808 ≤ size) (_ : size < 9223372036854775808) (hy : ∀ i, (y i).size ≤ maxLen) (hc : n ≤ cap) (_ : cap ≤ maxLen) (hL : War.Lies w p n y) (hc2 : m ≤ cap2) (_ : cap2 ≤ maxLen) (hA : Wls.Los w ls m A) :
    Calls Try.prog 3 #[.int .i64 size, .slice p n cap, .slice ls m cap2] w fun e w' => e = .returned (.bool true) ∧ Below w.heap.size w w' := by
  obtain ⟨i0, hi0, hz0, hz1, hz2⟩ := info_parts infoS
  obtain ⟨q, hq40, m1', m2', m3', m4'⟩ := max_mod size 60 (by omega)
  have m3 : max 0 size % 60 = (q : Int) := m3'
  have m2 : (max 0 size).tmod 60 = (q : Int) := m2'
  clear m1' m2' m3' m4'
  have k2 : min (n : Int) 40 = ((min n 40 : Nat) : Int) := by omega
  obtain ⟨kb, hkb⟩ : ∃ k, k = min n 40 := ⟨_, rfl⟩
  have hkb40 : kb ≤ 40 := by omega
  have hkbn : kb ≤ n := by omega
  rw [← hkb] at k2
  have k3 : min (m : Int) 10 = ((min m 10 : Nat) : Int) := by omega
  obtain ⟨kl, hkl⟩ : ∃ k, k = min m 10 := ⟨_, rfl⟩
  have hkl10 : kl ≤ 10 := by omega
  have hklm : kl ≤ m := by omega
  rw [← hkl] at k3
  clear hkb hkl
  obtain ⟨N, hN⟩ : ∃ N : Nat, N = 3 + q := ⟨_, rfl⟩
  have hNq : (3 : Int) + (q : Int) = (N : Int) := by omega
  have hN3 : 3 ≤ N ∧ N ≤ 4096 := by omega
  have C0 := hid (newOne (Below.refl w.heap.size w) (N : Int))
  obtain ⟨R0, A0, K0⟩ := rest_new (z := (N : Int)) (by omega) (by omega)
  rw [Int.toNat_natCast] at R0
  have RR := hid (And.intro R0 (And.intro A0 K0))
  have HL := hid hL
  have HY := hid hy
  have HA := hid hA
  clear hL hy hA R0 A0 K0 hN
  go_enter Try.func3, Try.ntmps3
  go_wp2_with fail
  refine C0.out.mono ?_
  rintro e w1 ⟨rfl, ⟨F, o⟩, _⟩
  obtain ⟨D, hD⟩ : ∃ D, D = w.heap.size + 1 := ⟨_, rfl⟩
  rw [← hD] at o
  rw [← hD]
  have O1 := hid o
  clear o C0 hD
  go_wp2_with fail
  refine (wakes _).mono ?_
  rintro e w2 ⟨rfl, b2⟩
  have ST : Hid (Hd w w2 D N 0 0 (.slice none 0 0) ⟨#[]⟩) := ⟨[], [], F, _, 0, O1.out.below b2, RR.out.1, RR.out.2.1, RR.out.2.2, by omega, .inl rfl, Rw.nil _ _ _, Nat.zero_le _, Nat.le_refl _⟩
  clear O1 RR b2
  go_wp2
  go_loopw [8, 9, 10, 11] (fun tv mv iv nv wr => ∃ (n i : Nat) (mb : ByteArray), nv = .int .i64 (n : Int) ∧ iv = .int .i64 (i : Int) ∧ mv = .string mb ∧ n ≤ kl ∧ i ≤ kb ∧ Hd w wr D N n i tv mb) (fun _ _ _ nv _ => kl + 1 - (intOf nv).toNat)
  case atStart => exact ⟨0, 0, ⟨#[]⟩, rfl, rfl, rfl, Nat.zero_le _, Nat.zero_le _, ST.out⟩
  case round =>
    clear ST
    obtain ⟨r, i, mb, rfl, rfl, rfl, hr, hi, hd⟩ := hrel
    rename World => wo
    by_cases hcut : r < kl
    · rcases HA.out.2 with h | ⟨lb, lo, hls, hlb, hlc⟩
      · exfalso; omega
      have aok := HA.out.1 r (by omega)
      have bel0 : Below w.heap.size w wo := by
        obtain ⟨_, _, _, _, _, o0, _⟩ := hd
        exact o0.bel
      have c0 := hlc r (by omega) 0 (.int .i64 (A r).n) rfl
      have c1 := hlc r (by omega) 1 (.int .u64 (A r).k) rfl
      have d0 : wo.cell? ⟨lb, lo + r * 2, none⟩ = some (.int .i64 (A r).n) := (bel0.cell (by exact hlb)).trans c0
      have d1 : wo.cell? ⟨lb, lo + r * 2 + 1, none⟩ = some (.int .u64 (A r).k) := (bel0.cell (by exact hlb)).trans c1
      have CU : Hid (Calls Try.prog 7 #[.pointer (some ⟨D, 0, none⟩), .int .i64 0, .int .i64 (A r).n, .slice (some ⟨wo.heap.size, 0, none⟩) 1 1] (wo.drew.alloc (.cells #[.int .u64 (A r).k] 28)) fun e w' => e = .returned (.tuple #[]) ∧ Hid (Hc w w' D N r i kl u8 mb) ∧ (w'.cell? ⟨lb, lo + r * 2, none⟩ = some (.int .i64 (A r).n) ∧ w'.cell? ⟨lb, lo + r * 2 + 1, none⟩ = some (.int .u64 (A r).k))) := by
        refine (Hd.cut (hd.below (Below.refl _ _).drew) hcut (A r).n (A r).k aok.n.2 aok.k).mono ?_
        rintro e w' ⟨q1, q2, q3⟩
        exact ⟨q1, q2, (q3.cell (by exact hlb)).trans c0, (q3.cell (by exact hlb)).trans c1⟩
      have kk := And.intro d0 d1
      subst hls
      clear hd hlc aok bel0 c0 c1 d0 d1
      generalize (A r).n = zn at *
      generalize (A r).k = zk at *
      go_wp2_with fail
      go_region_held3 (fun w' => w'.cell? ⟨lb, lo + r * 2, none⟩ = some (.int .i64 zn) ∧ w'.cell? ⟨lb, lo + r * 2 + 1, none⟩ = some (.int .u64 zk))
        (first | exact kk | go_keep)
        ((go_at_call 7; refine CU.out.mono ?_; rintro e w5 ⟨rfl, HC, kk⟩))
      clear CU kk
      have OP := hid (HC.out.opens (by omega))
      clear HC
      go_wp2_with fail
      refine OP.out.mono ?_
      clear OP
      rintro e w6 (⟨S, a, cap6, l, rfl, T, F, d, s, h6⟩ | ⟨rfl, h6⟩)
      · obtain ⟨hl, hl41, li, hap, c1, c2, c3, c4, c5, c6, c7, c8, c9, c10⟩ := h6.out
        have KP := hid (And.intro c1 (And.intro c2 (And.intro c3 (And.intro c4 (And.intro c5 c6)))))
        clear c1 c2 c3 c4 c5 c6 h6
        by_cases hz : mb.size = 0
        · have hLT : s.L = T := c7.elim id fun c => absurd hz c.1
          have em := empty_of hz
          have RT := hid (show Rw w w6 (Fs F S) u8 s.L from by rw [hLT]; exact c8)
          have LEN := hid (show s.L.length ≤ i from by rw [hLT]; rw [if_pos hz] at c10; exact c10)
          have EQ := hid (eq_true RT.out a l cap6 li hl (by omega))
          clear c7 c8 c9 c10 li hLT hl hz hap
          go_wp2_with fail
          refine EQ.out.mono ?_
          rintro e w8 ⟨rfl, b8⟩
          have ST : Hid (Hi w w8 S D N r i kl u8 ⟨#[]⟩ 0) := .inl ⟨rfl, rfl, F, d, s, KP.out.1.below b8, KP.out.2.1, KP.out.2.2.1, KP.out.2.2.2.1, KP.out.2.2.2.2.1, KP.out.2.2.2.2.2, RT.out.below b8, LEN.out, by have := LEN.out; omega⟩
          clear EQ KP RT LEN b8
          go_wp2
          go_loopw [8, 9, 10, 14] (fun tv mv iv ev wr => ∃ (i : Nat) (mb : ByteArray) (E : Int), iv = .int .i64 (i : Int) ∧ mv = .string mb ∧ ev = .int .i64 E ∧ i ≤ kb ∧ Hi w wr S D N r i kl tv mb E) (fun _ _ iv _ _ => kb - (intOf iv).toNat)
          case atStart => exact ⟨i, ⟨#[]⟩, 0, rfl, rfl, rfl, hi, ST.out⟩
          case round =>
            clear ST
            obtain ⟨i, mb, E, rfl, rfl, rfl, hi, hs⟩ := hrel
            rcases hs with ⟨rfl, hz, F, d, s, a1, a2, a3, a4, a5, a6, a7, a8, a9⟩ | ⟨rfl, hrk, T, L, F, d, a1, a2, a3, a4, a5, a6, a7⟩
            · obtain rfl := empty_eq hz
              by_cases hlt : i < kb
              · rcases HL.out with h | ⟨bb, off, ha, hb, hcell⟩
                · exfalso; omega
                · have hci : wr.cell? ⟨bb, off + i, none⟩ = some (.string (y i)) := by rw [← hcell i (by omega)]; exact a1.o.bel.cell (by exact hb)
                  have hys := HY.out i
                  subst ha
                  clear hcell
                  generalize y i = Y at hci hys
                  unfold maxLen at hys
                  have hmin : min (Y.size : Int) 500 = ((min Y.size 500 : Nat) : Int) := by omega
                  have hsl := War.cutL Y (Y.extract 0 (min Y.size 500)) _ _ rfl (Nat.min_le_left _ _) rfl
                  have hB : (Y.extract 0 (min Y.size 500)).size ≤ 500 := by rw [ByteArray.size_extract]; omega
                  generalize Y.extract 0 (min Y.size 500) = B at hsl hB
                  generalize min Y.size 500 = M at hmin hsl
                  have AP := hid fun (W : World) (hW : Below wr.heap.size wr W) => inner_append (a1.below hW) a2 a3 a4 a5 a6 (a7.below hW) a8 a9 B (by unfold maxLen; omega)
                  clear a1 a2 a3 a4 a5 a6 a7 a9
                  generalize s.L = L0 at *
                  go_wp2
                  go_quiet (fail)
                  go_wp2_with fail
                  refine (AP.out _ (below_drewN (Below.refl _ _) _)).mono ?_
                  clear AP
                  rintro e w8 ⟨X, rfl, ⟨x0, x11, h8⟩ | ⟨rfl, h8⟩ | ⟨rfl, h8⟩⟩
                  · have xb0 : (X == 0) = false := by simpa using x0
                    have xb1 : (X == 11) = false := by simpa using x11
                    clear x0 x11
                    go_wp2
                    go_roundw
                    case rel => exact ⟨i + 1, ⟨#[]⟩, 0, by go_num, rfl, rfl, by omega, h8.out⟩
                    case measure => simp [intOf] <;> omega
                  · obtain ⟨F8, d8, s8, e0, e1, e2, e3, e4, e5, e6, e7⟩ := h8.out
                    have hown1 := e7.own
                    have hbase := e1.o.bel.size
                    obtain ⟨l0, hll⟩ : ∃ l0, L0.length = l0 := ⟨_, rfl⟩
                    have HLL := hid hll
                    rw [hll] at hown1 a8
                    have H8 := hid (And.intro e0 (And.intro e1 (And.intro e2 (And.intro e3 (And.intro e4 (And.intro e5 (And.intro e6 e7)))))))
                    clear hll e0 e1 e2 e3 e4 e5 e6 e7 h8
                    go_wp2_with (at_builtin; refine wpList_append_lies _ rfl _ _ 22 rfl w.heap.size 9 i0 (.string ⟨#[]⟩) 1 16 Try.underlying22 hi0 hz0 hz1 hz2 rfl (by decide) _ _ _ rfl (hown1.alloc _) ⟨w8.heap.size, 0, none⟩ 1 1 [.string B] rfl rfl ?c1 ?c2 ?c6 ?c3 ?c4 ?c5 (w8.heap.size + 1) ?c7 ?_)
                    case c1 =>
                      intro j u hj
                      match j, hj with
                      | 0, hj => simp at hj; subst hj; simp [Addr.add]
                    case c2 => intro u hu; simp at hu; subst hu; rfl
                    case c3 => unfold maxLen; omega
                    case c4 => omega
                    case c5 => simp; omega
                    case c6 => omega
                    case c7 => simp
                    · intro g cg w9 own9 gr9 hg9 _
                      obtain ⟨e0, e1, e2, e3, e4, e5, e6, e7⟩ := H8.out
                      obtain ⟨r1, r2, r3⟩ := e7.grown e1.flt (by rw [HLL.out]; exact own9) gr9 hg9
                      have S9 := e1.grown e7 gr9 r2 r3
                      have hl9 : s8.L.length = l0 + 1 := by rw [e0, list_len, HLL.out]
                      have G9 : Hid (Hi w w9 S D N r (i + 1) kl (.slice (some ⟨g, 0, none⟩) (l0 + 1) cg) ⟨#[]⟩ 0) := .inl ⟨rfl, rfl, F8, d8, s8, S9, e2, e3, e4, e5, e6, by rw [e0, ← HLL.out]; exact r1, by omega, by omega⟩
                      clear own9 gr9 hg9 r1 r2 r3 S9 hown1 H8 e0 e1 e2 e3 e4 e5 e6 e7 hl9
                      go_wp2
                      go_roundw
                      case rel => exact ⟨i + 1, ⟨#[]⟩, 0, by go_num, rfl, rfl, by omega, G9.out⟩
                      case measure => simp [intOf] <;> omega
                  · go_wp2
                    go_roundw
                    case rel => exact ⟨i + 1, B, 11, by go_num, rfl, rfl, by omega, h8.out⟩
                    case measure => simp [intOf] <;> omega
              · have ON := hid (last_on a1 a2 a3 a4 a7)
                have hln : s.L.length ≤ 40 := a9
                have hgg : s.g < 281474976710655 := by omega
                clear a1 a2 a3 a4 a5 a6 a7 a8 a9
                generalize s.L = LL at *
                generalize s.g = sg at *
                go_wp2_with fail
                refine ON.out.mono ?_
                rintro e w9 ⟨rfl, F9, d9, o1, o2, o3, o4, o5⟩
                have OC := hid (open_cr o1 o2 hgg o3 o4)
                have R9 := hid o5
                clear o1 o2 o3 o4 o5 ON
                go_wp2_with fail
                refine OC.out.mono ?_
                rintro e w10 ⟨S9, aa, cap9, F10, d10, rfl, h10⟩
                obtain ⟨e1, e2, e3, e4, e5, e6, e7⟩ := h10.out
                have R10 := R9.out.kept e5 e6
                have EQ := hid (eq_true R10 aa LL.length cap9 e7 rfl (by omega))
                have BE := hid e1.bel
                clear e1 e2 e3 e4 e5 e6 e7 R10 R9 h10 OC
                go_wp2_with fail
                refine EQ.out.mono ?_
                rintro e w11 ⟨rfl, b11⟩
                have B11 := hid (BE.out.trans (b11.mono BE.out.size))
                clear b11 EQ BE
                go_wp2
                go_ret
                exact ⟨rfl, B11.out⟩
            · by_cases hlt : i < kb
              · have ON := hid (down_on a1 a2 a3 a4 a5 a6 a7)
                have gb : ¬ (kl : Int) ≤ (r : Int) := by omega
                clear a1 a2 a3 a4 a5 a6 a7
                go_wp2_with fail
                refine ON.out.mono ?_
                rintro e w9 ⟨rfl, h9⟩
                have H9 := hid h9
                clear h9 ON
                go_wp2
                go_roundw
                case rel => exact ⟨r + 1, i, mb, by go_num, rfl, rfl, by omega, hi, H9.out⟩
                case measure => simp [intOf] <;> omega
              · have ON := hid (down_on a1 a2 a3 a4 a5 a6 a7)
                have gb : ¬ (kl : Int) ≤ (r : Int) := by omega
                clear a1 a2 a3 a4 a5 a6 a7
                go_wp2_with fail
                refine ON.out.mono ?_
                rintro e w9 ⟨rfl, h9⟩
                have H9 := hid h9
                clear h9 ON
                go_wp2
                go_roundw
                case rel => exact ⟨r + 1, i, mb, by go_num, rfl, rfl, by omega, hi, H9.out⟩
                case measure => simp [intOf] <;> omega
        · have em := Wf.full_of hz
          rcases c7 with c7 | c7
          · obtain ⟨ta, tc, hta, _, _, _⟩ := c8.lies
            subst hta
            obtain rfl : l = T.length := by rw [hl, c7]
            have RT := hid (show Rw w w6 (Fs F S) (.slice ta T.length tc) s.L from by rw [c7]; exact c8)
            have LEN := hid (show s.L.length ≤ i from by rw [c7]; omega)
            have EQ := hid (eq_true RT.out a T.length cap6 li hl (by omega))
            have lb : ((T.length : Int) == (T.length : Int) + 1) = false := by simpa using (show ¬ (T.length : Int) = (T.length : Int) + 1 by omega)
            clear c7 c8 c9 c10 li hl hz hap
            generalize T.length = t at *
            go_wp2_with fail
            refine EQ.out.mono ?_
            rintro e w8 ⟨rfl, b8⟩
            have ST : Hid (Hi w w8 S D N r i kl (.slice ta t tc) ⟨#[]⟩ 0) := .inl ⟨rfl, rfl, F, d, s, KP.out.1.below b8, KP.out.2.1, KP.out.2.2.1, KP.out.2.2.2.1, KP.out.2.2.2.2.1, KP.out.2.2.2.2.2, RT.out.below b8, LEN.out, by have := LEN.out; omega⟩
            clear EQ KP RT LEN b8
            go_wp2
            go_loopw [8, 9, 10, 14] (fun tv mv iv ev wr => ∃ (i : Nat) (mb : ByteArray) (E : Int), iv = .int .i64 (i : Int) ∧ mv = .string mb ∧ ev = .int .i64 E ∧ i ≤ kb ∧ Hi w wr S D N r i kl tv mb E) (fun _ _ iv _ _ => kb - (intOf iv).toNat)
            case atStart => exact ⟨i, ⟨#[]⟩, 0, rfl, rfl, rfl, hi, ST.out⟩
            case round =>
              clear ST
              obtain ⟨i, mb, E, rfl, rfl, rfl, hi, hs⟩ := hrel
              rcases hs with ⟨rfl, hz, F, d, s, a1, a2, a3, a4, a5, a6, a7, a8, a9⟩ | ⟨rfl, hrk, T, L, F, d, a1, a2, a3, a4, a5, a6, a7⟩
              · obtain rfl := empty_eq hz
                by_cases hlt : i < kb
                · rcases HL.out with h | ⟨bb, off, ha, hb, hcell⟩
                  · exfalso; omega
                  · have hci : wr.cell? ⟨bb, off + i, none⟩ = some (.string (y i)) := by rw [← hcell i (by omega)]; exact a1.o.bel.cell (by exact hb)
                    have hys := HY.out i
                    subst ha
                    clear hcell
                    generalize y i = Y at hci hys
                    unfold maxLen at hys
                    have hmin : min (Y.size : Int) 500 = ((min Y.size 500 : Nat) : Int) := by omega
                    have hsl := War.cutL Y (Y.extract 0 (min Y.size 500)) _ _ rfl (Nat.min_le_left _ _) rfl
                    have hB : (Y.extract 0 (min Y.size 500)).size ≤ 500 := by rw [ByteArray.size_extract]; omega
                    generalize Y.extract 0 (min Y.size 500) = B at hsl hB
                    generalize min Y.size 500 = M at hmin hsl
                    have AP := hid fun (W : World) (hW : Below wr.heap.size wr W) => inner_append (a1.below hW) a2 a3 a4 a5 a6 (a7.below hW) a8 a9 B (by unfold maxLen; omega)
                    clear a1 a2 a3 a4 a5 a6 a7 a9
                    generalize s.L = L0 at *
                    go_wp2
                    go_quiet (fail)
                    go_wp2_with fail
                    refine (AP.out _ (below_drewN (Below.refl _ _) _)).mono ?_
                    clear AP
                    rintro e w8 ⟨X, rfl, ⟨x0, x11, h8⟩ | ⟨rfl, h8⟩ | ⟨rfl, h8⟩⟩
                    · have xb0 : (X == 0) = false := by simpa using x0
                      have xb1 : (X == 11) = false := by simpa using x11
                      clear x0 x11
                      go_wp2
                      go_roundw
                      case rel => exact ⟨i + 1, ⟨#[]⟩, 0, by go_num, rfl, rfl, by omega, h8.out⟩
                      case measure => simp [intOf] <;> omega
                    · obtain ⟨F8, d8, s8, e0, e1, e2, e3, e4, e5, e6, e7⟩ := h8.out
                      have hown1 := e7.own
                      have hbase := e1.o.bel.size
                      obtain ⟨l0, hll⟩ : ∃ l0, L0.length = l0 := ⟨_, rfl⟩
                      have HLL := hid hll
                      rw [hll] at hown1 a8
                      have H8 := hid (And.intro e0 (And.intro e1 (And.intro e2 (And.intro e3 (And.intro e4 (And.intro e5 (And.intro e6 e7)))))))
                      clear hll e0 e1 e2 e3 e4 e5 e6 e7 h8
                      go_wp2_with (at_builtin; refine wpList_append_lies _ rfl _ _ 22 rfl w.heap.size 9 i0 (.string ⟨#[]⟩) 1 16 Try.underlying22 hi0 hz0 hz1 hz2 rfl (by decide) _ _ _ rfl (hown1.alloc _) ⟨w8.heap.size, 0, none⟩ 1 1 [.string B] rfl rfl ?c1 ?c2 ?c6 ?c3 ?c4 ?c5 (w8.heap.size + 1) ?c7 ?_)
                      case c1 =>
                        intro j u hj
                        match j, hj with
                        | 0, hj => simp at hj; subst hj; simp [Addr.add]
                      case c2 => intro u hu; simp at hu; subst hu; rfl
                      case c3 => unfold maxLen; omega
                      case c4 => omega
                      case c5 => simp; omega
                      case c6 => omega
                      case c7 => simp
                      · intro g cg w9 own9 gr9 hg9 _
                        obtain ⟨e0, e1, e2, e3, e4, e5, e6, e7⟩ := H8.out
                        obtain ⟨r1, r2, r3⟩ := e7.grown e1.flt (by rw [HLL.out]; exact own9) gr9 hg9
                        have S9 := e1.grown e7 gr9 r2 r3
                        have hl9 : s8.L.length = l0 + 1 := by rw [e0, list_len, HLL.out]
                        have G9 : Hid (Hi w w9 S D N r (i + 1) kl (.slice (some ⟨g, 0, none⟩) (l0 + 1) cg) ⟨#[]⟩ 0) := .inl ⟨rfl, rfl, F8, d8, s8, S9, e2, e3, e4, e5, e6, by rw [e0, ← HLL.out]; exact r1, by omega, by omega⟩
                        clear own9 gr9 hg9 r1 r2 r3 S9 hown1 H8 e0 e1 e2 e3 e4 e5 e6 e7 hl9
                        go_wp2
                        go_roundw
                        case rel => exact ⟨i + 1, ⟨#[]⟩, 0, by go_num, rfl, rfl, by omega, G9.out⟩
                        case measure => simp [intOf] <;> omega
                    · go_wp2
                      go_roundw
                      case rel => exact ⟨i + 1, B, 11, by go_num, rfl, rfl, by omega, h8.out⟩
                      case measure => simp [intOf] <;> omega
                · have ON := hid (last_on a1 a2 a3 a4 a7)
                  have hln : s.L.length ≤ 40 := a9
                  have hgg : s.g < 281474976710655 := by omega
                  clear a1 a2 a3 a4 a5 a6 a7 a8 a9
                  generalize s.L = LL at *
                  generalize s.g = sg at *
                  go_wp2_with fail
                  refine ON.out.mono ?_
                  rintro e w9 ⟨rfl, F9, d9, o1, o2, o3, o4, o5⟩
                  have OC := hid (open_cr o1 o2 hgg o3 o4)
                  have R9 := hid o5
                  clear o1 o2 o3 o4 o5 ON
                  go_wp2_with fail
                  refine OC.out.mono ?_
                  rintro e w10 ⟨S9, aa, cap9, F10, d10, rfl, h10⟩
                  obtain ⟨e1, e2, e3, e4, e5, e6, e7⟩ := h10.out
                  have R10 := R9.out.kept e5 e6
                  have EQ := hid (eq_true R10 aa LL.length cap9 e7 rfl (by omega))
                  have BE := hid e1.bel
                  clear e1 e2 e3 e4 e5 e6 e7 R10 R9 h10 OC
                  go_wp2_with fail
                  refine EQ.out.mono ?_
                  rintro e w11 ⟨rfl, b11⟩
                  have B11 := hid (BE.out.trans (b11.mono BE.out.size))
                  clear b11 EQ BE
                  go_wp2
                  go_ret
                  exact ⟨rfl, B11.out⟩
              · by_cases hlt : i < kb
                · have ON := hid (down_on a1 a2 a3 a4 a5 a6 a7)
                  have gb : ¬ (kl : Int) ≤ (r : Int) := by omega
                  clear a1 a2 a3 a4 a5 a6 a7
                  go_wp2_with fail
                  refine ON.out.mono ?_
                  rintro e w9 ⟨rfl, h9⟩
                  have H9 := hid h9
                  clear h9 ON
                  go_wp2
                  go_roundw
                  case rel => exact ⟨r + 1, i, mb, by go_num, rfl, rfl, by omega, hi, H9.out⟩
                  case measure => simp [intOf] <;> omega
                · have ON := hid (down_on a1 a2 a3 a4 a5 a6 a7)
                  have gb : ¬ (kl : Int) ≤ (r : Int) := by omega
                  clear a1 a2 a3 a4 a5 a6 a7
                  go_wp2_with fail
                  refine ON.out.mono ?_
                  rintro e w9 ⟨rfl, h9⟩
                  have H9 := hid h9
                  clear h9 ON
                  go_wp2
                  go_roundw
                  case rel => exact ⟨r + 1, i, mb, by go_num, rfl, rfl, by omega, hi, H9.out⟩
                  case measure => simp [intOf] <;> omega
          · obtain ⟨ta, tc, hta, _, _, _⟩ := c8.lies
            subst hta
            have hlen : s.L.length = T.length + 1 := by rw [c7.2, list_len]
            obtain rfl : l = T.length + 1 := by omega
            rcases li with li | ⟨lb1, lo1, ha1, hlb1, hlc1⟩
            · exfalso; omega
            have hel : w6.cell? ⟨lb1, lo1 + T.length, none⟩ = some (.string mb) := by
              have := hlc1 T.length (by omega)
              rw [this]
              have e : nth s.L T.length = mb := by
                rw [nth_get (by omega)]
                simp [c7.2]
              rw [e]
            have li2 := hid (show War.Lies w6 a s.L.length (nth s.L) from .inr ⟨lb1, lo1, ha1, hlb1, hlc1⟩)
            have HAP := hid hap
            subst ha1
            have hown1 := c8.own
            have hbase := KP.out.1.o.bel.size
            have R6 := hid c8
            have HS := hid c7.2
            have ls := list_same mb mb
            rw [decide_eq_true rfl] at ls
            rw [if_neg hz] at c10
            obtain ⟨t, hll⟩ : ∃ t, T.length = t := ⟨_, rfl⟩
            have HLL := hid hll
            rw [hll] at hown1 c9 c10 hel hl41 R6 HAP
            rw [hll]
            have HLN := hid hlen
            clear hll c7 c8 hlc1 hl hz hlen hap
            go_wp2_with (at_builtin; refine wpList_append_lies _ rfl _ _ 22 rfl w.heap.size 9 i0 (.string ⟨#[]⟩) 1 16 Try.underlying22 hi0 hz0 hz1 hz2 rfl (by decide) _ _ _ rfl (hown1.alloc _) ⟨w6.heap.size, 0, none⟩ 1 1 [.string mb] rfl rfl ?c1 ?c2 ?c6 ?c3 ?c4 ?c5 (w6.heap.size + 1) ?c7 ?_)
            case c1 =>
              intro j u hj
              match j, hj with
              | 0, hj => simp at hj; subst hj; simp [Addr.add]
            case c2 => intro u hu; simp at hu; subst hu; rfl
            case c3 => unfold maxLen; omega
            case c4 => omega
            case c5 => simp; omega
            case c6 => omega
            case c7 => simp
            · intro g cg w7 own7 gr7 hg7 _
              obtain ⟨r1, r2, r3⟩ := R6.out.grown KP.out.1.flt (by rw [HLL.out]; exact own7) gr7 hg7
              have S7 := KP.out.1.grown R6.out gr7 r2 r3
              have RT := hid (show Rw w w7 (Fs F S) (.slice (some ⟨g, 0, none⟩) (t + 1) cg) s.L from by rw [HS.out, ← HLL.out]; exact r1)
              have LEN := hid (show s.L.length ≤ i from by rw [HLN.out, HLL.out]; exact c10)
              have LI7 := lies_grown li2.out gr7 (HAP.out lb1 lo1 rfl)
              have KP2 := KP.out.2
              clear KP
              have KP := hid (And.intro S7 KP2)
              have EQ := hid (eq_true RT.out (some ⟨lb1, lo1, none⟩) (t + 1) cap6 LI7 (by rw [HLN.out, HLL.out]) (by omega))
              clear own7 gr7 hg7 r1 r2 r3 S7 hown1 R6 KP2 LI7 li2 HS HAP
              go_wp2_with fail
              refine EQ.out.mono ?_
              rintro e w8 ⟨rfl, b8⟩
              have ST : Hid (Hi w w8 S D N r i kl (.slice (some ⟨g, 0, none⟩) (t + 1) cg) ⟨#[]⟩ 0) := .inl ⟨rfl, rfl, F, d, s, KP.out.1.below b8, KP.out.2.1, KP.out.2.2.1, KP.out.2.2.2.1, KP.out.2.2.2.2.1, KP.out.2.2.2.2.2, RT.out.below b8, LEN.out, by have := LEN.out; omega⟩
              clear EQ KP RT LEN b8
              go_wp2
              go_loopw [8, 9, 10, 14] (fun tv mv iv ev wr => ∃ (i : Nat) (mb : ByteArray) (E : Int), iv = .int .i64 (i : Int) ∧ mv = .string mb ∧ ev = .int .i64 E ∧ i ≤ kb ∧ Hi w wr S D N r i kl tv mb E) (fun _ _ iv _ _ => kb - (intOf iv).toNat)
              case atStart => exact ⟨i, ⟨#[]⟩, 0, rfl, rfl, rfl, hi, ST.out⟩
              case round =>
                clear ST
                obtain ⟨i, mb, E, rfl, rfl, rfl, hi, hs⟩ := hrel
                rcases hs with ⟨rfl, hz, F, d, s, a1, a2, a3, a4, a5, a6, a7, a8, a9⟩ | ⟨rfl, hrk, T, L, F, d, a1, a2, a3, a4, a5, a6, a7⟩
                · obtain rfl := empty_eq hz
                  by_cases hlt : i < kb
                  · rcases HL.out with h | ⟨bb, off, ha, hb, hcell⟩
                    · exfalso; omega
                    · have hci : wr.cell? ⟨bb, off + i, none⟩ = some (.string (y i)) := by rw [← hcell i (by omega)]; exact a1.o.bel.cell (by exact hb)
                      have hys := HY.out i
                      subst ha
                      clear hcell
                      generalize y i = Y at hci hys
                      unfold maxLen at hys
                      have hmin : min (Y.size : Int) 500 = ((min Y.size 500 : Nat) : Int) := by omega
                      have hsl := War.cutL Y (Y.extract 0 (min Y.size 500)) _ _ rfl (Nat.min_le_left _ _) rfl
                      have hB : (Y.extract 0 (min Y.size 500)).size ≤ 500 := by rw [ByteArray.size_extract]; omega
                      generalize Y.extract 0 (min Y.size 500) = B at hsl hB
                      generalize min Y.size 500 = M at hmin hsl
                      have AP := hid fun (W : World) (hW : Below wr.heap.size wr W) => inner_append (a1.below hW) a2 a3 a4 a5 a6 (a7.below hW) a8 a9 B (by unfold maxLen; omega)
                      clear a1 a2 a3 a4 a5 a6 a7 a9
                      generalize s.L = L0 at *
                      go_wp2
                      go_quiet (fail)
                      go_wp2_with fail
                      refine (AP.out _ (below_drewN (Below.refl _ _) _)).mono ?_
                      clear AP
                      rintro e w8 ⟨X, rfl, ⟨x0, x11, h8⟩ | ⟨rfl, h8⟩ | ⟨rfl, h8⟩⟩
                      · have xb0 : (X == 0) = false := by simpa using x0
                        have xb1 : (X == 11) = false := by simpa using x11
                        clear x0 x11
                        go_wp2
                        go_roundw
                        case rel => exact ⟨i + 1, ⟨#[]⟩, 0, by go_num, rfl, rfl, by omega, h8.out⟩
                        case measure => simp [intOf] <;> omega
                      · obtain ⟨F8, d8, s8, e0, e1, e2, e3, e4, e5, e6, e7⟩ := h8.out
                        have hown1 := e7.own
                        have hbase := e1.o.bel.size
                        obtain ⟨l0, hll⟩ : ∃ l0, L0.length = l0 := ⟨_, rfl⟩
                        have HLL := hid hll
                        rw [hll] at hown1 a8
                        have H8 := hid (And.intro e0 (And.intro e1 (And.intro e2 (And.intro e3 (And.intro e4 (And.intro e5 (And.intro e6 e7)))))))
                        clear hll e0 e1 e2 e3 e4 e5 e6 e7 h8
                        go_wp2_with (at_builtin; refine wpList_append_lies _ rfl _ _ 22 rfl w.heap.size 9 i0 (.string ⟨#[]⟩) 1 16 Try.underlying22 hi0 hz0 hz1 hz2 rfl (by decide) _ _ _ rfl (hown1.alloc _) ⟨w8.heap.size, 0, none⟩ 1 1 [.string B] rfl rfl ?c1 ?c2 ?c6 ?c3 ?c4 ?c5 (w8.heap.size + 1) ?c7 ?_)
                        case c1 =>
                          intro j u hj
                          match j, hj with
                          | 0, hj => simp at hj; subst hj; simp [Addr.add]
                        case c2 => intro u hu; simp at hu; subst hu; rfl
                        case c3 => unfold maxLen; omega
                        case c4 => omega
                        case c5 => simp; omega
                        case c6 => omega
                        case c7 => simp
                        · intro g cg w9 own9 gr9 hg9 _
                          obtain ⟨e0, e1, e2, e3, e4, e5, e6, e7⟩ := H8.out
                          obtain ⟨r1, r2, r3⟩ := e7.grown e1.flt (by rw [HLL.out]; exact own9) gr9 hg9
                          have S9 := e1.grown e7 gr9 r2 r3
                          have hl9 : s8.L.length = l0 + 1 := by rw [e0, list_len, HLL.out]
                          have G9 : Hid (Hi w w9 S D N r (i + 1) kl (.slice (some ⟨g, 0, none⟩) (l0 + 1) cg) ⟨#[]⟩ 0) := .inl ⟨rfl, rfl, F8, d8, s8, S9, e2, e3, e4, e5, e6, by rw [e0, ← HLL.out]; exact r1, by omega, by omega⟩
                          clear own9 gr9 hg9 r1 r2 r3 S9 hown1 H8 e0 e1 e2 e3 e4 e5 e6 e7 hl9
                          go_wp2
                          go_roundw
                          case rel => exact ⟨i + 1, ⟨#[]⟩, 0, by go_num, rfl, rfl, by omega, G9.out⟩
                          case measure => simp [intOf] <;> omega
                      · go_wp2
                        go_roundw
                        case rel => exact ⟨i + 1, B, 11, by go_num, rfl, rfl, by omega, h8.out⟩
                        case measure => simp [intOf] <;> omega
                  · have ON := hid (last_on a1 a2 a3 a4 a7)
                    have hln : s.L.length ≤ 40 := a9
                    have hgg : s.g < 281474976710655 := by omega
                    clear a1 a2 a3 a4 a5 a6 a7 a8 a9
                    generalize s.L = LL at *
                    generalize s.g = sg at *
                    go_wp2_with fail
                    refine ON.out.mono ?_
                    rintro e w9 ⟨rfl, F9, d9, o1, o2, o3, o4, o5⟩
                    have OC := hid (open_cr o1 o2 hgg o3 o4)
                    have R9 := hid o5
                    clear o1 o2 o3 o4 o5 ON
                    go_wp2_with fail
                    refine OC.out.mono ?_
                    rintro e w10 ⟨S9, aa, cap9, F10, d10, rfl, h10⟩
                    obtain ⟨e1, e2, e3, e4, e5, e6, e7⟩ := h10.out
                    have R10 := R9.out.kept e5 e6
                    have EQ := hid (eq_true R10 aa LL.length cap9 e7 rfl (by omega))
                    have BE := hid e1.bel
                    clear e1 e2 e3 e4 e5 e6 e7 R10 R9 h10 OC
                    go_wp2_with fail
                    refine EQ.out.mono ?_
                    rintro e w11 ⟨rfl, b11⟩
                    have B11 := hid (BE.out.trans (b11.mono BE.out.size))
                    clear b11 EQ BE
                    go_wp2
                    go_ret
                    exact ⟨rfl, B11.out⟩
                · by_cases hlt : i < kb
                  · have ON := hid (down_on a1 a2 a3 a4 a5 a6 a7)
                    have gb : ¬ (kl : Int) ≤ (r : Int) := by omega
                    clear a1 a2 a3 a4 a5 a6 a7
                    go_wp2_with fail
                    refine ON.out.mono ?_
                    rintro e w9 ⟨rfl, h9⟩
                    have H9 := hid h9
                    clear h9 ON
                    go_wp2
                    go_roundw
                    case rel => exact ⟨r + 1, i, mb, by go_num, rfl, rfl, by omega, hi, H9.out⟩
                    case measure => simp [intOf] <;> omega
                  · have ON := hid (down_on a1 a2 a3 a4 a5 a6 a7)
                    have gb : ¬ (kl : Int) ≤ (r : Int) := by omega
                    clear a1 a2 a3 a4 a5 a6 a7
                    go_wp2_with fail
                    refine ON.out.mono ?_
                    rintro e w9 ⟨rfl, h9⟩
                    have H9 := hid h9
                    clear h9 ON
                    go_wp2
                    go_roundw
                    case rel => exact ⟨r + 1, i, mb, by go_num, rfl, rfl, by omega, hi, H9.out⟩
                    case measure => simp [intOf] <;> omega
      · obtain ⟨hlt, T, L, F, d, a1, a2, a3, a4, a5, a6, a7⟩ := h6.out
        clear h6
        have ON := hid (down_on a1 a2 a3 a4 a5 a6 a7)
        have gb : ¬ (kl : Int) ≤ (r : Int) := by omega
        clear a1 a2 a3 a4 a5 a6 a7
        go_wp2_with fail
        refine ON.out.mono ?_
        rintro e w9 ⟨rfl, h9⟩
        have H9 := hid h9
        clear h9 ON
        go_wp2
        go_roundw
        case rel => exact ⟨r + 1, i, mb, by go_num, rfl, rfl, by omega, hi, H9.out⟩
        case measure => simp [intOf] <;> omega
    · have HC : Hid (Hc w wo D N r i kl u8 mb) := hd.none
      clear hd
      have OP := hid (HC.out.opens (by omega))
      clear HC
      go_wp2_with fail
      refine OP.out.mono ?_
      clear OP
      rintro e w6 (⟨S, a, cap6, l, rfl, T, F, d, s, h6⟩ | ⟨rfl, h6⟩)
      · obtain ⟨hl, hl41, li, hap, c1, c2, c3, c4, c5, c6, c7, c8, c9, c10⟩ := h6.out
        have KP := hid (And.intro c1 (And.intro c2 (And.intro c3 (And.intro c4 (And.intro c5 c6)))))
        clear c1 c2 c3 c4 c5 c6 h6
        by_cases hz : mb.size = 0
        · have hLT : s.L = T := c7.elim id fun c => absurd hz c.1
          have em := empty_of hz
          have RT := hid (show Rw w w6 (Fs F S) u8 s.L from by rw [hLT]; exact c8)
          have LEN := hid (show s.L.length ≤ i from by rw [hLT]; rw [if_pos hz] at c10; exact c10)
          have EQ := hid (eq_true RT.out a l cap6 li hl (by omega))
          clear c7 c8 c9 c10 li hLT hl hz hap
          go_wp2_with fail
          refine EQ.out.mono ?_
          rintro e w8 ⟨rfl, b8⟩
          have ST : Hid (Hi w w8 S D N r i kl u8 ⟨#[]⟩ 0) := .inl ⟨rfl, rfl, F, d, s, KP.out.1.below b8, KP.out.2.1, KP.out.2.2.1, KP.out.2.2.2.1, KP.out.2.2.2.2.1, KP.out.2.2.2.2.2, RT.out.below b8, LEN.out, by have := LEN.out; omega⟩
          clear EQ KP RT LEN b8
          go_wp2
          go_loopw [8, 9, 10, 14] (fun tv mv iv ev wr => ∃ (i : Nat) (mb : ByteArray) (E : Int), iv = .int .i64 (i : Int) ∧ mv = .string mb ∧ ev = .int .i64 E ∧ i ≤ kb ∧ Hi w wr S D N r i kl tv mb E) (fun _ _ iv _ _ => kb - (intOf iv).toNat)
          case atStart => exact ⟨i, ⟨#[]⟩, 0, rfl, rfl, rfl, hi, ST.out⟩
          case round =>
            clear ST
            obtain ⟨i, mb, E, rfl, rfl, rfl, hi, hs⟩ := hrel
            rcases hs with ⟨rfl, hz, F, d, s, a1, a2, a3, a4, a5, a6, a7, a8, a9⟩ | ⟨rfl, hrk, T, L, F, d, a1, a2, a3, a4, a5, a6, a7⟩
            · obtain rfl := empty_eq hz
              by_cases hlt : i < kb
              · rcases HL.out with h | ⟨bb, off, ha, hb, hcell⟩
                · exfalso; omega
                · have hci : wr.cell? ⟨bb, off + i, none⟩ = some (.string (y i)) := by rw [← hcell i (by omega)]; exact a1.o.bel.cell (by exact hb)
                  have hys := HY.out i
                  subst ha
                  clear hcell
                  generalize y i = Y at hci hys
                  unfold maxLen at hys
                  have hmin : min (Y.size : Int) 500 = ((min Y.size 500 : Nat) : Int) := by omega
                  have hsl := War.cutL Y (Y.extract 0 (min Y.size 500)) _ _ rfl (Nat.min_le_left _ _) rfl
                  have hB : (Y.extract 0 (min Y.size 500)).size ≤ 500 := by rw [ByteArray.size_extract]; omega
                  generalize Y.extract 0 (min Y.size 500) = B at hsl hB
                  generalize min Y.size 500 = M at hmin hsl
                  have AP := hid fun (W : World) (hW : Below wr.heap.size wr W) => inner_append (a1.below hW) a2 a3 a4 a5 a6 (a7.below hW) a8 a9 B (by unfold maxLen; omega)
                  clear a1 a2 a3 a4 a5 a6 a7 a9
                  generalize s.L = L0 at *
                  go_wp2
                  go_quiet (fail)
                  go_wp2_with fail
                  refine (AP.out _ (below_drewN (Below.refl _ _) _)).mono ?_
                  clear AP
                  rintro e w8 ⟨X, rfl, ⟨x0, x11, h8⟩ | ⟨rfl, h8⟩ | ⟨rfl, h8⟩⟩
                  · have xb0 : (X == 0) = false := by simpa using x0
                    have xb1 : (X == 11) = false := by simpa using x11
                    clear x0 x11
                    go_wp2
                    go_roundw
                    case rel => exact ⟨i + 1, ⟨#[]⟩, 0, by go_num, rfl, rfl, by omega, h8.out⟩
                    case measure => simp [intOf] <;> omega
                  · obtain ⟨F8, d8, s8, e0, e1, e2, e3, e4, e5, e6, e7⟩ := h8.out
                    have hown1 := e7.own
                    have hbase := e1.o.bel.size
                    obtain ⟨l0, hll⟩ : ∃ l0, L0.length = l0 := ⟨_, rfl⟩
                    have HLL := hid hll
                    rw [hll] at hown1 a8
                    have H8 := hid (And.intro e0 (And.intro e1 (And.intro e2 (And.intro e3 (And.intro e4 (And.intro e5 (And.intro e6 e7)))))))
                    clear hll e0 e1 e2 e3 e4 e5 e6 e7 h8
                    go_wp2_with (at_builtin; refine wpList_append_lies _ rfl _ _ 22 rfl w.heap.size 9 i0 (.string ⟨#[]⟩) 1 16 Try.underlying22 hi0 hz0 hz1 hz2 rfl (by decide) _ _ _ rfl (hown1.alloc _) ⟨w8.heap.size, 0, none⟩ 1 1 [.string B] rfl rfl ?c1 ?c2 ?c6 ?c3 ?c4 ?c5 (w8.heap.size + 1) ?c7 ?_)
                    case c1 =>
                      intro j u hj
                      match j, hj with
                      | 0, hj => simp at hj; subst hj; simp [Addr.add]
                    case c2 => intro u hu; simp at hu; subst hu; rfl
                    case c3 => unfold maxLen; omega
                    case c4 => omega
                    case c5 => simp; omega
                    case c6 => omega
                    case c7 => simp
                    · intro g cg w9 own9 gr9 hg9 _
                      obtain ⟨e0, e1, e2, e3, e4, e5, e6, e7⟩ := H8.out
                      obtain ⟨r1, r2, r3⟩ := e7.grown e1.flt (by rw [HLL.out]; exact own9) gr9 hg9
                      have S9 := e1.grown e7 gr9 r2 r3
                      have hl9 : s8.L.length = l0 + 1 := by rw [e0, list_len, HLL.out]
                      have G9 : Hid (Hi w w9 S D N r (i + 1) kl (.slice (some ⟨g, 0, none⟩) (l0 + 1) cg) ⟨#[]⟩ 0) := .inl ⟨rfl, rfl, F8, d8, s8, S9, e2, e3, e4, e5, e6, by rw [e0, ← HLL.out]; exact r1, by omega, by omega⟩
                      clear own9 gr9 hg9 r1 r2 r3 S9 hown1 H8 e0 e1 e2 e3 e4 e5 e6 e7 hl9
                      go_wp2
                      go_roundw
                      case rel => exact ⟨i + 1, ⟨#[]⟩, 0, by go_num, rfl, rfl, by omega, G9.out⟩
                      case measure => simp [intOf] <;> omega
                  · go_wp2
                    go_roundw
                    case rel => exact ⟨i + 1, B, 11, by go_num, rfl, rfl, by omega, h8.out⟩
                    case measure => simp [intOf] <;> omega
              · have ON := hid (last_on a1 a2 a3 a4 a7)
                have hln : s.L.length ≤ 40 := a9
                have hgg : s.g < 281474976710655 := by omega
                clear a1 a2 a3 a4 a5 a6 a7 a8 a9
                generalize s.L = LL at *
                generalize s.g = sg at *
                go_wp2_with fail
                refine ON.out.mono ?_
                rintro e w9 ⟨rfl, F9, d9, o1, o2, o3, o4, o5⟩
                have OC := hid (open_cr o1 o2 hgg o3 o4)
                have R9 := hid o5
                clear o1 o2 o3 o4 o5 ON
                go_wp2_with fail
                refine OC.out.mono ?_
                rintro e w10 ⟨S9, aa, cap9, F10, d10, rfl, h10⟩
                obtain ⟨e1, e2, e3, e4, e5, e6, e7⟩ := h10.out
                have R10 := R9.out.kept e5 e6
                have EQ := hid (eq_true R10 aa LL.length cap9 e7 rfl (by omega))
                have BE := hid e1.bel
                clear e1 e2 e3 e4 e5 e6 e7 R10 R9 h10 OC
                go_wp2_with fail
                refine EQ.out.mono ?_
                rintro e w11 ⟨rfl, b11⟩
                have B11 := hid (BE.out.trans (b11.mono BE.out.size))
                clear b11 EQ BE
                go_wp2
                go_ret
                exact ⟨rfl, B11.out⟩
            · by_cases hlt : i < kb
              · have ON := hid (down_on a1 a2 a3 a4 a5 a6 a7)
                have gb : ¬ (kl : Int) ≤ (r : Int) := by omega
                clear a1 a2 a3 a4 a5 a6 a7
                go_wp2_with fail
                refine ON.out.mono ?_
                rintro e w9 ⟨rfl, h9⟩
                have H9 := hid h9
                clear h9 ON
                go_wp2
                go_roundw
                case rel => exact ⟨r + 1, i, mb, by go_num, rfl, rfl, by omega, hi, H9.out⟩
                case measure => simp [intOf] <;> omega
              · have ON := hid (down_on a1 a2 a3 a4 a5 a6 a7)
                have gb : ¬ (kl : Int) ≤ (r : Int) := by omega
                clear a1 a2 a3 a4 a5 a6 a7
                go_wp2_with fail
                refine ON.out.mono ?_
                rintro e w9 ⟨rfl, h9⟩
                have H9 := hid h9
                clear h9 ON
                go_wp2
                go_roundw
                case rel => exact ⟨r + 1, i, mb, by go_num, rfl, rfl, by omega, hi, H9.out⟩
                case measure => simp [intOf] <;> omega
        · have em := Wf.full_of hz
          rcases c7 with c7 | c7
          · obtain ⟨ta, tc, hta, _, _, _⟩ := c8.lies
            subst hta
            obtain rfl : l = T.length := by rw [hl, c7]
            have RT := hid (show Rw w w6 (Fs F S) (.slice ta T.length tc) s.L from by rw [c7]; exact c8)
            have LEN := hid (show s.L.length ≤ i from by rw [c7]; omega)
            have EQ := hid (eq_true RT.out a T.length cap6 li hl (by omega))
            have lb : ((T.length : Int) == (T.length : Int) + 1) = false := by simpa using (show ¬ (T.length : Int) = (T.length : Int) + 1 by omega)
            clear c7 c8 c9 c10 li hl hz hap
            generalize T.length = t at *
            go_wp2_with fail
            refine EQ.out.mono ?_
            rintro e w8 ⟨rfl, b8⟩
            have ST : Hid (Hi w w8 S D N r i kl (.slice ta t tc) ⟨#[]⟩ 0) := .inl ⟨rfl, rfl, F, d, s, KP.out.1.below b8, KP.out.2.1, KP.out.2.2.1, KP.out.2.2.2.1, KP.out.2.2.2.2.1, KP.out.2.2.2.2.2, RT.out.below b8, LEN.out, by have := LEN.out; omega⟩
            clear EQ KP RT LEN b8
            go_wp2
            go_loopw [8, 9, 10, 14] (fun tv mv iv ev wr => ∃ (i : Nat) (mb : ByteArray) (E : Int), iv = .int .i64 (i : Int) ∧ mv = .string mb ∧ ev = .int .i64 E ∧ i ≤ kb ∧ Hi w wr S D N r i kl tv mb E) (fun _ _ iv _ _ => kb - (intOf iv).toNat)
            case atStart => exact ⟨i, ⟨#[]⟩, 0, rfl, rfl, rfl, hi, ST.out⟩
            case round =>
              clear ST
              obtain ⟨i, mb, E, rfl, rfl, rfl, hi, hs⟩ := hrel
              rcases hs with ⟨rfl, hz, F, d, s, a1, a2, a3, a4, a5, a6, a7, a8, a9⟩ | ⟨rfl, hrk, T, L, F, d, a1, a2, a3, a4, a5, a6, a7⟩
              · obtain rfl := empty_eq hz
                by_cases hlt : i < kb
                · rcases HL.out with h | ⟨bb, off, ha, hb, hcell⟩
                  · exfalso; omega
                  · have hci : wr.cell? ⟨bb, off + i, none⟩ = some (.string (y i)) := by rw [← hcell i (by omega)]; exact a1.o.bel.cell (by exact hb)
                    have hys := HY.out i
                    subst ha
                    clear hcell
                    generalize y i = Y at hci hys
                    unfold maxLen at hys
                    have hmin : min (Y.size : Int) 500 = ((min Y.size 500 : Nat) : Int) := by omega
                    have hsl := War.cutL Y (Y.extract 0 (min Y.size 500)) _ _ rfl (Nat.min_le_left _ _) rfl
                    have hB : (Y.extract 0 (min Y.size 500)).size ≤ 500 := by rw [ByteArray.size_extract]; omega
                    generalize Y.extract 0 (min Y.size 500) = B at hsl hB
                    generalize min Y.size 500 = M at hmin hsl
                    have AP := hid fun (W : World) (hW : Below wr.heap.size wr W) => inner_append (a1.below hW) a2 a3 a4 a5 a6 (a7.below hW) a8 a9 B (by unfold maxLen; omega)
                    clear a1 a2 a3 a4 a5 a6 a7 a9
                    generalize s.L = L0 at *
                    go_wp2
                    go_quiet (fail)
                    go_wp2_with fail
                    refine (AP.out _ (below_drewN (Below.refl _ _) _)).mono ?_
                    clear AP
                    rintro e w8 ⟨X, rfl, ⟨x0, x11, h8⟩ | ⟨rfl, h8⟩ | ⟨rfl, h8⟩⟩
                    · have xb0 : (X == 0) = false := by simpa using x0
                      have xb1 : (X == 11) = false := by simpa using x11
                      clear x0 x11
                      go_wp2
                      go_roundw
                      case rel => exact ⟨i + 1, ⟨#[]⟩, 0, by go_num, rfl, rfl, by omega, h8.out⟩
                      case measure => simp [intOf] <;> omega
                    · obtain ⟨F8, d8, s8, e0, e1, e2, e3, e4, e5, e6, e7⟩ := h8.out
                      have hown1 := e7.own
                      have hbase := e1.o.bel.size
                      obtain ⟨l0, hll⟩ : ∃ l0, L0.length = l0 := ⟨_, rfl⟩
                      have HLL := hid hll
                      rw [hll] at hown1 a8
                      have H8 := hid (And.intro e0 (And.intro e1 (And.intro e2 (And.intro e3 (And.intro e4 (And.intro e5 (And.intro e6 e7)))))))
                      clear hll e0 e1 e2 e3 e4 e5 e6 e7 h8
                      go_wp2_with (at_builtin; refine wpList_append_lies _ rfl _ _ 22 rfl w.heap.size 9 i0 (.string ⟨#[]⟩) 1 16 Try.underlying22 hi0 hz0 hz1 hz2 rfl (by decide) _ _ _ rfl (hown1.alloc _) ⟨w8.heap.size, 0, none⟩ 1 1 [.string B] rfl rfl ?c1 ?c2 ?c6 ?c3 ?c4 ?c5 (w8.heap.size + 1) ?c7 ?_)
                      case c1 =>
                        intro j u hj
                        match j, hj with
                        | 0, hj => simp at hj; subst hj; simp [Addr.add]
                      case c2 => intro u hu; simp at hu; subst hu; rfl
                      case c3 => unfold maxLen; omega
                      case c4 => omega
                      case c5 => simp; omega
                      case c6 => omega
                      case c7 => simp
                      · intro g cg w9 own9 gr9 hg9 _
                        obtain ⟨e0, e1, e2, e3, e4, e5, e6, e7⟩ := H8.out
                        obtain ⟨r1, r2, r3⟩ := e7.grown e1.flt (by rw [HLL.out]; exact own9) gr9 hg9
                        have S9 := e1.grown e7 gr9 r2 r3
                        have hl9 : s8.L.length = l0 + 1 := by rw [e0, list_len, HLL.out]
                        have G9 : Hid (Hi w w9 S D N r (i + 1) kl (.slice (some ⟨g, 0, none⟩) (l0 + 1) cg) ⟨#[]⟩ 0) := .inl ⟨rfl, rfl, F8, d8, s8, S9, e2, e3, e4, e5, e6, by rw [e0, ← HLL.out]; exact r1, by omega, by omega⟩
                        clear own9 gr9 hg9 r1 r2 r3 S9 hown1 H8 e0 e1 e2 e3 e4 e5 e6 e7 hl9
                        go_wp2
                        go_roundw
                        case rel => exact ⟨i + 1, ⟨#[]⟩, 0, by go_num, rfl, rfl, by omega, G9.out⟩
                        case measure => simp [intOf] <;> omega
                    · go_wp2
                      go_roundw
                      case rel => exact ⟨i + 1, B, 11, by go_num, rfl, rfl, by omega, h8.out⟩
                      case measure => simp [intOf] <;> omega
                · have ON := hid (last_on a1 a2 a3 a4 a7)
                  have hln : s.L.length ≤ 40 := a9
                  have hgg : s.g < 281474976710655 := by omega
                  clear a1 a2 a3 a4 a5 a6 a7 a8 a9
                  generalize s.L = LL at *
                  generalize s.g = sg at *
                  go_wp2_with fail
                  refine ON.out.mono ?_
                  rintro e w9 ⟨rfl, F9, d9, o1, o2, o3, o4, o5⟩
                  have OC := hid (open_cr o1 o2 hgg o3 o4)
                  have R9 := hid o5
                  clear o1 o2 o3 o4 o5 ON
                  go_wp2_with fail
                  refine OC.out.mono ?_
                  rintro e w10 ⟨S9, aa, cap9, F10, d10, rfl, h10⟩
                  obtain ⟨e1, e2, e3, e4, e5, e6, e7⟩ := h10.out
                  have R10 := R9.out.kept e5 e6
                  have EQ := hid (eq_true R10 aa LL.length cap9 e7 rfl (by omega))
                  have BE := hid e1.bel
                  clear e1 e2 e3 e4 e5 e6 e7 R10 R9 h10 OC
                  go_wp2_with fail
                  refine EQ.out.mono ?_
                  rintro e w11 ⟨rfl, b11⟩
                  have B11 := hid (BE.out.trans (b11.mono BE.out.size))
                  clear b11 EQ BE
                  go_wp2
                  go_ret
                  exact ⟨rfl, B11.out⟩
              · by_cases hlt : i < kb
                · have ON := hid (down_on a1 a2 a3 a4 a5 a6 a7)
                  have gb : ¬ (kl : Int) ≤ (r : Int) := by omega
                  clear a1 a2 a3 a4 a5 a6 a7
                  go_wp2_with fail
                  refine ON.out.mono ?_
                  rintro e w9 ⟨rfl, h9⟩
                  have H9 := hid h9
                  clear h9 ON
                  go_wp2
                  go_roundw
                  case rel => exact ⟨r + 1, i, mb, by go_num, rfl, rfl, by omega, hi, H9.out⟩
                  case measure => simp [intOf] <;> omega
                · have ON := hid (down_on a1 a2 a3 a4 a5 a6 a7)
                  have gb : ¬ (kl : Int) ≤ (r : Int) := by omega
                  clear a1 a2 a3 a4 a5 a6 a7
                  go_wp2_with fail
                  refine ON.out.mono ?_
                  rintro e w9 ⟨rfl, h9⟩
                  have H9 := hid h9
                  clear h9 ON
                  go_wp2
                  go_roundw
                  case rel => exact ⟨r + 1, i, mb, by go_num, rfl, rfl, by omega, hi, H9.out⟩
                  case measure => simp [intOf] <;> omega
          · obtain ⟨ta, tc, hta, _, _, _⟩ := c8.lies
            subst hta
            have hlen : s.L.length = T.length + 1 := by rw [c7.2, list_len]
            obtain rfl : l = T.length + 1 := by omega
            rcases li with li | ⟨lb1, lo1, ha1, hlb1, hlc1⟩
            · exfalso; omega
            have hel : w6.cell? ⟨lb1, lo1 + T.length, none⟩ = some (.string mb) := by
              have := hlc1 T.length (by omega)
              rw [this]
              have e : nth s.L T.length = mb := by
                rw [nth_get (by omega)]
                simp [c7.2]
              rw [e]
            have li2 := hid (show War.Lies w6 a s.L.length (nth s.L) from .inr ⟨lb1, lo1, ha1, hlb1, hlc1⟩)
            have HAP := hid hap
            subst ha1
            have hown1 := c8.own
            have hbase := KP.out.1.o.bel.size
            have R6 := hid c8
            have HS := hid c7.2
            have ls := list_same mb mb
            rw [decide_eq_true rfl] at ls
            rw [if_neg hz] at c10
            obtain ⟨t, hll⟩ : ∃ t, T.length = t := ⟨_, rfl⟩
            have HLL := hid hll
            rw [hll] at hown1 c9 c10 hel hl41 R6 HAP
            rw [hll]
            have HLN := hid hlen
            clear hll c7 c8 hlc1 hl hz hlen hap
            go_wp2_with (at_builtin; refine wpList_append_lies _ rfl _ _ 22 rfl w.heap.size 9 i0 (.string ⟨#[]⟩) 1 16 Try.underlying22 hi0 hz0 hz1 hz2 rfl (by decide) _ _ _ rfl (hown1.alloc _) ⟨w6.heap.size, 0, none⟩ 1 1 [.string mb] rfl rfl ?c1 ?c2 ?c6 ?c3 ?c4 ?c5 (w6.heap.size + 1) ?c7 ?_)
            case c1 =>
              intro j u hj
              match j, hj with
              | 0, hj => simp at hj; subst hj; simp [Addr.add]
            case c2 => intro u hu; simp at hu; subst hu; rfl
            case c3 => unfold maxLen; omega
            case c4 => omega
            case c5 => simp; omega
            case c6 => omega
            case c7 => simp
            · intro g cg w7 own7 gr7 hg7 _
              obtain ⟨r1, r2, r3⟩ := R6.out.grown KP.out.1.flt (by rw [HLL.out]; exact own7) gr7 hg7
              have S7 := KP.out.1.grown R6.out gr7 r2 r3
              have RT := hid (show Rw w w7 (Fs F S) (.slice (some ⟨g, 0, none⟩) (t + 1) cg) s.L from by rw [HS.out, ← HLL.out]; exact r1)
              have LEN := hid (show s.L.length ≤ i from by rw [HLN.out, HLL.out]; exact c10)
              have LI7 := lies_grown li2.out gr7 (HAP.out lb1 lo1 rfl)
              have KP2 := KP.out.2
              clear KP
              have KP := hid (And.intro S7 KP2)
              have EQ := hid (eq_true RT.out (some ⟨lb1, lo1, none⟩) (t + 1) cap6 LI7 (by rw [HLN.out, HLL.out]) (by omega))
              clear own7 gr7 hg7 r1 r2 r3 S7 hown1 R6 KP2 LI7 li2 HS HAP
              go_wp2_with fail
              refine EQ.out.mono ?_
              rintro e w8 ⟨rfl, b8⟩
              have ST : Hid (Hi w w8 S D N r i kl (.slice (some ⟨g, 0, none⟩) (t + 1) cg) ⟨#[]⟩ 0) := .inl ⟨rfl, rfl, F, d, s, KP.out.1.below b8, KP.out.2.1, KP.out.2.2.1, KP.out.2.2.2.1, KP.out.2.2.2.2.1, KP.out.2.2.2.2.2, RT.out.below b8, LEN.out, by have := LEN.out; omega⟩
              clear EQ KP RT LEN b8
              go_wp2
              go_loopw [8, 9, 10, 14] (fun tv mv iv ev wr => ∃ (i : Nat) (mb : ByteArray) (E : Int), iv = .int .i64 (i : Int) ∧ mv = .string mb ∧ ev = .int .i64 E ∧ i ≤ kb ∧ Hi w wr S D N r i kl tv mb E) (fun _ _ iv _ _ => kb - (intOf iv).toNat)
              case atStart => exact ⟨i, ⟨#[]⟩, 0, rfl, rfl, rfl, hi, ST.out⟩
              case round =>
                clear ST
                obtain ⟨i, mb, E, rfl, rfl, rfl, hi, hs⟩ := hrel
                rcases hs with ⟨rfl, hz, F, d, s, a1, a2, a3, a4, a5, a6, a7, a8, a9⟩ | ⟨rfl, hrk, T, L, F, d, a1, a2, a3, a4, a5, a6, a7⟩
                · obtain rfl := empty_eq hz
                  by_cases hlt : i < kb
                  · rcases HL.out with h | ⟨bb, off, ha, hb, hcell⟩
                    · exfalso; omega
                    · have hci : wr.cell? ⟨bb, off + i, none⟩ = some (.string (y i)) := by rw [← hcell i (by omega)]; exact a1.o.bel.cell (by exact hb)
                      have hys := HY.out i
                      subst ha
                      clear hcell
                      generalize y i = Y at hci hys
                      unfold maxLen at hys
                      have hmin : min (Y.size : Int) 500 = ((min Y.size 500 : Nat) : Int) := by omega
                      have hsl := War.cutL Y (Y.extract 0 (min Y.size 500)) _ _ rfl (Nat.min_le_left _ _) rfl
                      have hB : (Y.extract 0 (min Y.size 500)).size ≤ 500 := by rw [ByteArray.size_extract]; omega
                      generalize Y.extract 0 (min Y.size 500) = B at hsl hB
                      generalize min Y.size 500 = M at hmin hsl
                      have AP := hid fun (W : World) (hW : Below wr.heap.size wr W) => inner_append (a1.below hW) a2 a3 a4 a5 a6 (a7.below hW) a8 a9 B (by unfold maxLen; omega)
                      clear a1 a2 a3 a4 a5 a6 a7 a9
                      generalize s.L = L0 at *
                      go_wp2
                      go_quiet (fail)
                      go_wp2_with fail
                      refine (AP.out _ (below_drewN (Below.refl _ _) _)).mono ?_
                      clear AP
                      rintro e w8 ⟨X, rfl, ⟨x0, x11, h8⟩ | ⟨rfl, h8⟩ | ⟨rfl, h8⟩⟩
                      · have xb0 : (X == 0) = false := by simpa using x0
                        have xb1 : (X == 11) = false := by simpa using x11
                        clear x0 x11
                        go_wp2
                        go_roundw
                        case rel => exact ⟨i + 1, ⟨#[]⟩, 0, by go_num, rfl, rfl, by omega, h8.out⟩
                        case measure => simp [intOf] <;> omega
                      · obtain ⟨F8, d8, s8, e0, e1, e2, e3, e4, e5, e6, e7⟩ := h8.out
                        have hown1 := e7.own
                        have hbase := e1.o.bel.size
                        obtain ⟨l0, hll⟩ : ∃ l0, L0.length = l0 := ⟨_, rfl⟩
                        have HLL := hid hll
                        rw [hll] at hown1 a8
                        have H8 := hid (And.intro e0 (And.intro e1 (And.intro e2 (And.intro e3 (And.intro e4 (And.intro e5 (And.intro e6 e7)))))))
                        clear hll e0 e1 e2 e3 e4 e5 e6 e7 h8
                        go_wp2_with (at_builtin; refine wpList_append_lies _ rfl _ _ 22 rfl w.heap.size 9 i0 (.string ⟨#[]⟩) 1 16 Try.underlying22 hi0 hz0 hz1 hz2 rfl (by decide) _ _ _ rfl (hown1.alloc _) ⟨w8.heap.size, 0, none⟩ 1 1 [.string B] rfl rfl ?c1 ?c2 ?c6 ?c3 ?c4 ?c5 (w8.heap.size + 1) ?c7 ?_)
                        case c1 =>
                          intro j u hj
                          match j, hj with
                          | 0, hj => simp at hj; subst hj; simp [Addr.add]
                        case c2 => intro u hu; simp at hu; subst hu; rfl
                        case c3 => unfold maxLen; omega
                        case c4 => omega
                        case c5 => simp; omega
                        case c6 => omega
                        case c7 => simp
                        · intro g cg w9 own9 gr9 hg9 _
                          obtain ⟨e0, e1, e2, e3, e4, e5, e6, e7⟩ := H8.out
                          obtain ⟨r1, r2, r3⟩ := e7.grown e1.flt (by rw [HLL.out]; exact own9) gr9 hg9
                          have S9 := e1.grown e7 gr9 r2 r3
                          have hl9 : s8.L.length = l0 + 1 := by rw [e0, list_len, HLL.out]
                          have G9 : Hid (Hi w w9 S D N r (i + 1) kl (.slice (some ⟨g, 0, none⟩) (l0 + 1) cg) ⟨#[]⟩ 0) := .inl ⟨rfl, rfl, F8, d8, s8, S9, e2, e3, e4, e5, e6, by rw [e0, ← HLL.out]; exact r1, by omega, by omega⟩
                          clear own9 gr9 hg9 r1 r2 r3 S9 hown1 H8 e0 e1 e2 e3 e4 e5 e6 e7 hl9
                          go_wp2
                          go_roundw
                          case rel => exact ⟨i + 1, ⟨#[]⟩, 0, by go_num, rfl, rfl, by omega, G9.out⟩
                          case measure => simp [intOf] <;> omega
                      · go_wp2
                        go_roundw
                        case rel => exact ⟨i + 1, B, 11, by go_num, rfl, rfl, by omega, h8.out⟩
                        case measure => simp [intOf] <;> omega
                  · have ON := hid (last_on a1 a2 a3 a4 a7)
                    have hln : s.L.length ≤ 40 := a9
                    have hgg : s.g < 281474976710655 := by omega
                    clear a1 a2 a3 a4 a5 a6 a7 a8 a9
                    generalize s.L = LL at *
                    generalize s.g = sg at *
                    go_wp2_with fail
                    refine ON.out.mono ?_
                    rintro e w9 ⟨rfl, F9, d9, o1, o2, o3, o4, o5⟩
                    have OC := hid (open_cr o1 o2 hgg o3 o4)
                    have R9 := hid o5
                    clear o1 o2 o3 o4 o5 ON
                    go_wp2_with fail
                    refine OC.out.mono ?_
                    rintro e w10 ⟨S9, aa, cap9, F10, d10, rfl, h10⟩
                    obtain ⟨e1, e2, e3, e4, e5, e6, e7⟩ := h10.out
                    have R10 := R9.out.kept e5 e6
                    have EQ := hid (eq_true R10 aa LL.length cap9 e7 rfl (by omega))
                    have BE := hid e1.bel
                    clear e1 e2 e3 e4 e5 e6 e7 R10 R9 h10 OC
                    go_wp2_with fail
                    refine EQ.out.mono ?_
                    rintro e w11 ⟨rfl, b11⟩
                    have B11 := hid (BE.out.trans (b11.mono BE.out.size))
                    clear b11 EQ BE
                    go_wp2
                    go_ret
                    exact ⟨rfl, B11.out⟩
                · by_cases hlt : i < kb
                  · have ON := hid (down_on a1 a2 a3 a4 a5 a6 a7)
                    have gb : ¬ (kl : Int) ≤ (r : Int) := by omega
                    clear a1 a2 a3 a4 a5 a6 a7
                    go_wp2_with fail
                    refine ON.out.mono ?_
                    rintro e w9 ⟨rfl, h9⟩
                    have H9 := hid h9
                    clear h9 ON
                    go_wp2
                    go_roundw
                    case rel => exact ⟨r + 1, i, mb, by go_num, rfl, rfl, by omega, hi, H9.out⟩
                    case measure => simp [intOf] <;> omega
                  · have ON := hid (down_on a1 a2 a3 a4 a5 a6 a7)
                    have gb : ¬ (kl : Int) ≤ (r : Int) := by omega
                    clear a1 a2 a3 a4 a5 a6 a7
                    go_wp2_with fail
                    refine ON.out.mono ?_
                    rintro e w9 ⟨rfl, h9⟩
                    have H9 := hid h9
                    clear h9 ON
                    go_wp2
                    go_roundw
                    case rel => exact ⟨r + 1, i, mb, by go_num, rfl, rfl, by omega, hi, H9.out⟩
                    case measure => simp [intOf] <;> omega
      · exact absurd h6.out.1 hcut

end Go.Proofs.Ytefbdmijbcplmaa.Wst
