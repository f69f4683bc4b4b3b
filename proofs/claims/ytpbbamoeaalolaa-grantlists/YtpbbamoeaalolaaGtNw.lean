/-
  The walk of the law GrantNews: a table of any keys is that to which they are added, or has the first error; of a nil table nothing is there: it returns true, and nothing that was in memory has turned. Conditions: none but that the arguments lie in memory as such do.
-/
import Derived.Test.YtpbbamoeaalolaaGtJ
import Derived.Lib.MinMax
namespace Go.Proofs.Ytpbbamoeaalolaa.Wg
open Go.ChangeShapes Go.WideShapes Go.ChangeAt Go.RowKit Go.Proofs.Ytpbbamoeaalolaa.M Go.Maps

theorem adds_snoc : ∀ (l : List Ky) (L : List Ky) (k : Ky), adds L (l ++ [k]) = if (adds L l).1 = 0 then (addE k (adds L l).2, addL k (adds L l).2) else adds L l
  | [], L, k => by
    show adds L [k] = if (0 : Int) = 0 then (addE k L, addL k L) else (0, L)
    rw [if_pos rfl]
    by_cases e : addE k L = 0
    · rw [adds_ok e, e]
      rfl
    · rw [adds_no e, addL_no e]
  | x :: r, L, k => by
    by_cases e : addE x L = 0
    · rw [List.cons_append, adds_ok e, adds_ok e]
      exact adds_snoc r _ k
    · rw [List.cons_append, adds_no e, adds_no e, if_neg e]
theorem kept_grown {w w' : World} {row : Option Nat} (h : w.grownBy w' row) : Kept (fun i => row = some i) w w' := ⟨h.os, h.tape, h.output, h.size, fun k hk hn => h.block k hk (fun e => hn e.symm)⟩
theorem own_kept {w w' : World} {F : Nat → Prop} {base e size n : Nat} {v : Value} {xs : List Value} (h : w.ownsRow base e size v n xs) (k : Kept F w w') (hd : ∀ j, v.ownBlock = some j → ¬ F j) : w'.ownsRow base e size v n xs := by
  refine ⟨h.1, ?_⟩
  rcases h.2 with hn | ⟨g, cap, cur, rfl, hb, hg, rest⟩
  · exact .inl hn
  · exact .inr ⟨g, cap, cur, rfl, hb, (k.block g (blk_lt hg) (hd g rfl)).trans hg, rest⟩
/-- The document's table, the keys gathered, the asked grant. -/
structure Rn (w W : World) (r : Nat) (ask : Ky) (v : Value) (l M : List Ky) : Prop where
  bel : Below w.heap.size w W
  bx : KAt W w.heap.size ask 25
  own : W.ownsRow (w.heap.size + 1) 38 2 v l.length (l.flatMap kC)
  st : ∃ G, RfL W r G M ∧ (∀ i, G i → w.heap.size + 1 ≤ i ∧ i < W.heap.size) ∧ ∀ j, v.ownBlock = some j → ¬ G j
theorem Rn.below {w W W' : World} {r : Nat} {ask : Ky} {v : Value} {l M : List Ky} (h : Rn w W r ask v l M) (b : Below W.heap.size W W') : Rn w W' r ask v l M := by
  obtain ⟨G, h1, h2, h3⟩ := h.st
  exact ⟨h.bel.trans (b.mono h.bel.size), h.bx.below b, own_below h.own b, G, h1.below b, fun i hi => ⟨(h2 i hi).1, Nat.lt_of_lt_of_le (h2 i hi).2 b.size⟩, h3⟩
theorem Rn.app {w W w4 : World} {r : Nat} {ask x : Ky} {v v4 : Value} {l M : List Ky} (h : Rn w W r ask v l M) (o4 : w4.ownsRow (w.heap.size + 1) 38 2 v4 (l.length + 1) (l.flatMap kC ++ kC x)) (g4 : W.grownBy w4 v.ownBlock) (hl : v4.ownBlock = v.ownBlock ∨ v4.ownBlock = some W.heap.size) : Rn w w4 r ask v4 (l ++ [x]) M := by
  obtain ⟨G, h1, h2, h3⟩ := h.st
  have lo := fun k hk => h.own.lt k hk
  have hz := h.bel.size
  refine ⟨h.bel.grown g4 hz fun j hj => by have := (lo j hj).1; omega, (g4.block _ (blk_lt h.bx) (fun e => by have := (lo _ e.symm).1; omega)).trans h.bx, own_more o4, G, h1.kept (kept_grown g4) (fun i hi e => h3 i e hi), fun i hi => ⟨(h2 i hi).1, Nat.lt_of_lt_of_le (h2 i hi).2 g4.size⟩, fun j hj hG => ?_⟩
  rcases hl with hl | hl
  · exact h3 j (hl ▸ hj) hG
  · rw [hl] at hj
    injection hj with e
    have := (h2 j hG).2
    omega
theorem Rn.doc {w W W' : World} {r : Nat} {ask : Ky} {v : Value} {l M M' : List Ky} (h : Rn w W r ask v l M) {G : Nat → Prop} (h2 : ∀ i, G i → w.heap.size + 1 ≤ i ∧ i < W.heap.size) (h3 : ∀ j, v.ownBlock = some j → ¬ G j) (c1 : RfL W' r (Gr G W W') M') (c2 : Kept G W W') : Rn w W' r ask v l M' := by
  have hz := h.bel.size
  have lo := fun k hk => h.own.lt k hk
  refine ⟨h.bel.trans (c2.below hz fun i hi => by have := (h2 i hi).1; omega), (c2.block _ (blk_lt h.bx) (fun e => by have := (h2 _ e).1; omega)).trans h.bx, own_kept h.own c2 h3, Gr G W W', c1, fun i hi => ?_, fun j hj hG => ?_⟩
  · rcases hi with hi | hi
    · exact ⟨(h2 i hi).1, Nat.lt_of_lt_of_le (h2 i hi).2 c2.size⟩
    · have := blk_lt h.bx; omega
  · rcases hG with hG | hG
    · exact h3 j hj hG
    · have := (lo j hj).2; omega
theorem rn_addR {w W : World} {r : Nat} {ask k : Ky} {v : Value} {l M : List Ky} (h : Rn w W r ask v l M) (hk : KOk k) : Calls Try.prog 16 #[.pointer (some ⟨r, 0, none⟩), .agg #[.int .i64 k.1, .string k.2]] W fun e w' => e = .returned (.int .i64 (addE k M)) ∧ Rn w w' r ask v l (addL k M) := by
  obtain ⟨G, h1, h2, h3⟩ := h.st
  refine (addRef h1 hk).mono ?_
  rintro e w' ⟨rfl, q1, q2⟩
  exact ⟨rfl, h.doc h2 h3 q1 q2⟩
theorem rn_new (w : World) (ask : Ky) : Rn w ((w.alloc (.cells #[.int .i64 ask.1, .string ask.2] 25)).alloc (.cells #[.slice none 0 0] 33)) (w.heap.size + 1) ask (.slice none 0 0) [] [] := by
  have e := heap_alloc_new (w.alloc (.cells #[.int .i64 ask.1, .string ask.2] 25)) (.cells #[.slice none 0 0] 33)
  rw [World.size_alloc] at e
  refine ⟨((Below.refl _ _).alloc (Nat.le_refl _) _).alloc (by simp) _, (heap_alloc_old (w.alloc _) _ (by simp)).trans (heap_alloc_new w _), World.ownsRow_nil _ _ _ _, fun i => i = w.heap.size + 1, ⟨tbl_nil, rfl, none, 0, e, Nat.le_refl _, Nat.zero_le _, .inl rfl⟩, fun i hi => by subst hi; exact ⟨Nat.le_refl _, by simp⟩, fun j hj => by cases hj⟩

set_option maxRecDepth 100000 in
set_option maxHeartbeats 1200000 in
theorem news (p : Option Addr) (n cap : Nat) (A : Nat → Ky) (c : Int) (f : ByteArray) (w : World) (hc : n ≤ cap) (_ : cap ≤ maxLen) (hA : Kys w p n A) (_ : KOk (c, f)) :
    Calls Try.prog 5 #[.slice p n cap, .agg #[.int .i64 c, .string f]] w fun e w' => e = .returned (.bool true) ∧ Below w.heap.size w w' := by
  have k1' : min (n : Int) 40 = ((min n 40 : Nat) : Int) := by omega
  obtain ⟨kk, hkk⟩ : ∃ k, k = min n 40 := ⟨_, rfl⟩
  have hkk1 : kk ≤ 40 := by omega
  have hkk2 : kk ≤ n := by omega
  rw [← hkk] at k1'
  clear hkk
  have HA := hid hA
  have WK := hid Wg.wakes
  obtain ⟨i0, hi, hz0, hz1, hz2⟩ := info_parts infoG
  have R0 := hid (rn_new w (c, f))
  clear hA
  go_enter Try.func5, Try.ntmps5
  go_wp2
  go_loopw [5, 7, 21] (fun v t i wr => ∃ (m : Nat) (want : Int) (l M : List Ky), i = .int .i64 m ∧ m ≤ kk ∧ t = .int .i64 want ∧ Hid (adds [] l = (want, M) ∧ l.length = m ∧ ∀ k ∈ l, KOk k) ∧ Hid (Rn w wr (w.heap.size + 1) (c, f) v l M)) (fun _ _ i _ => kk - (intOf i).toNat)
  case atStart => exact ⟨0, 0, [], [], rfl, Nat.zero_le _, rfl, ⟨rfl, rfl, by simp⟩, R0⟩
  case round =>
    clear R0
    obtain ⟨m, want, l, M, rfl, hm, rfl, hL, P⟩ := hrel
    by_cases cm : m < kk
    · obtain ⟨hA1, hA2⟩ := HA.out
      rcases hA2 with hA2 | ⟨b, o, rfl, q3, q4⟩
      · omega
      have kx := hA1 m (by omega)
      have bw := P.out.bel
      have y0 := (bw.cell (p := ⟨b, o + m * 2 + 0, none⟩) q3).trans (q4 m (by omega) 0 _ rfl)
      have y1 := (bw.cell (p := ⟨b, o + m * 2 + 1, none⟩) q3).trans (q4 m (by omega) 1 _ rfl)
      rw [Nat.add_zero] at y0
      clear hA1 q4 HA
      generalize A m = x at kx y0 y1
      have own := P.out.own
      have bz := bw.size
      obtain ⟨l1, l2, l3⟩ := hL.out
      have P3 := hid (P.out.below (((Below.refl wr.heap.size wr).alloc (Nat.le_refl _) (.cells #[.int .i64 x.1, .string x.2] 25)).alloc (by simp) (.cells #[.int .i64 x.1, .string x.2] 38)))
      have hb1 := blk_lt P.out.bx
      clear P bw hL
      by_cases cw : want = 0
      · subst cw
        have hL' : Hid (adds [] (l ++ [x]) = (addE x M, addL x M) ∧ (l ++ [x]).length = m + 1 ∧ ∀ k ∈ l ++ [x], KOk k) := ⟨by rw [adds_snoc, l1, if_pos rfl], by simp [l2], fun k hk => by
          rcases List.mem_append.1 hk with hk | hk
          · exact l3 k hk
          · simp at hk; subst hk; exact kx⟩
        clear l1
        go_wp2_with (first | (go_at_call 16; refine (rn_addR P4.out kx).mono ?_; rintro e w5 ⟨rfl, P5⟩; have P6 := hid P5; clear P5) | (at_builtin; refine wpList_append_own_at _ rfl _ _ 46 rfl (w.heap.size + 1) 38 i0 (.agg #[.int .i64 0, .string ⟨#[]⟩]) 2 24 Try.underlying46 hi hz0 hz1 hz2 rfl (by decide) _ _ _ rfl ((own.alloc _).alloc _) ⟨wr.heap.size + 1, 0, none⟩ 1 1 (kC x) rfl rfl (two_newS (by simp) _ _ _) (kC_one x) (by unfold maxLen; omega) (by omega) (by simp; omega) ?_; intro v4 w4 o4 g4 n4 at4; have P4 := hid (P3.out.app o4 g4 at4); obtain ⟨z0, z1, z2⟩ := (var_kept own g4).c; go_frame))
        go_roundw
        case rel => exact ⟨m + 1, _, l ++ [x], _, by go_num, cm, rfl, hL', P6⟩
        case measure => simp [intOf]; omega
      · have hL' : Hid (adds [] (l ++ [x]) = (want, M) ∧ (l ++ [x]).length = m + 1 ∧ ∀ k ∈ l ++ [x], KOk k) := ⟨by rw [adds_snoc, l1, if_neg cw], by simp [l2], fun k hk => by
          rcases List.mem_append.1 hk with hk | hk
          · exact l3 k hk
          · simp at hk; subst hk; exact kx⟩
        have d1 : decide (want = 0) = false := decide_eq_false cw
        have d2 : (want == 0) = false := by simpa using cw
        clear l1 cw
        go_wp2_with (first | (at_builtin; refine wpList_append_own_at _ rfl _ _ 46 rfl (w.heap.size + 1) 38 i0 (.agg #[.int .i64 0, .string ⟨#[]⟩]) 2 24 Try.underlying46 hi hz0 hz1 hz2 rfl (by decide) _ _ _ rfl ((own.alloc _).alloc _) ⟨wr.heap.size + 1, 0, none⟩ 1 1 (kC x) rfl rfl (two_newS (by simp) _ _ _) (kC_one x) (by unfold maxLen; omega) (by omega) (by simp; omega) ?_; intro v4 w4 o4 g4 n4 at4; have P4 := hid (P3.out.app o4 g4 at4); obtain ⟨z0, z1, z2⟩ := (var_kept own g4).c; go_frame) | go_in)
        go_roundw
        case rel => exact ⟨m + 1, want, l ++ [x], _, by go_num, cm, rfl, hL', P4⟩
        case measure => simp [intOf]; omega
    · obtain ⟨l1, l2, l3⟩ := hL.out
      obtain ⟨a, cap', rfl, q1, q2, q3⟩ := own_lst P.out.own
      have NW := hid (new (w := wr) (a := a) (l := l) (cap := cap') (by omega) l3 (q3.imp id fun ⟨g, e1, _, e3, e4⟩ => ⟨g, e1, e3, e4⟩))
      rw [l1] at NW
      have bw := P.out.bel
      obtain ⟨k0, k1, k2⟩ := P.out.bx.c
      obtain ⟨G, g1, g2, _⟩ := P.out.st
      have AN := hid fun W => addNil (c, f) W
      have DN := hid fun W => dropNil (c, f) W
      have HN := hid fun W => hasNil (c, f) W
      have LN := hid fun W => listNil W
      clear hL l1 l2 l3 q3 HA
      go_wp2_with fail
      refine NW.out.mono ?_
      rintro e w2 ⟨b2, hN⟩
      have KB := fun W (hW : Below wr.heap.size wr W) => And.intro ((hW.cell (p := ⟨w.heap.size, 0, none⟩) k2).trans k0) ((hW.cell (p := ⟨w.heap.size, 1, none⟩) k2).trans k1)
      have KB' := hid KB
      clear KB NW
      rcases hN with ⟨h1, rfl⟩ | ⟨h1, s, rfl, tb⟩
      · have d1 : decide (want = 0) = false := decide_eq_false h1
        have d2 : (want == 0) = false := by simpa using h1
        have d3 : (want != 0) = true := by simpa using h1
        have d4 : decide (want ≠ 0) = true := decide_eq_true h1
        clear h1
        go_wp2_with fail
        refine (WK.out _).mono ?_
        rintro e w3 ⟨rfl, b3⟩
        have b3' := b2.trans (b3.mono b2.size)
        obtain ⟨c0, c1⟩ := KB'.out w3 b3'
        clear b2 b3
        go_wp2_with fail
        refine (AN.out _).mono ?_
        rintro e w4 ⟨rfl, b4⟩
        have b4' := b3'.trans (b4.mono b3'.size)
        obtain ⟨c2, c3⟩ := KB'.out w4 b4'
        clear b3' b4 c0 c1
        go_wp2_with fail
        refine (DN.out _).mono ?_
        rintro e w5 ⟨rfl, b5⟩
        have b5' := b4'.trans (b5.mono b4'.size)
        obtain ⟨c4, c5⟩ := KB'.out w5 b5'
        clear b4' b5 c2 c3
        go_wp2_with fail
        refine (HN.out _).mono ?_
        rintro e w6 ⟨rfl, b6⟩
        have b6' := b5'.trans (b6.mono b5'.size)
        clear b5' b6 c4 c5
        go_wp2_with fail
        refine (LN.out _).mono ?_
        rintro e w7 ⟨rfl, rfl⟩
        have bF := bw.trans (b6'.mono bw.size)
        clear b6' AN DN HN LN WK KB'
        go_wp2
        go_ret
        exact ⟨rfl, bF⟩
      · subst h1
        go_wp2_with fail
        refine (WK.out _).mono ?_
        rintro e w3 ⟨rfl, b3⟩
        have b3' := b2.trans (b3.mono b2.size)
        obtain ⟨c0, c1⟩ := KB'.out w3 b3'
        have t3 := tb.below b3
        clear b2 b3 tb
        go_wp2_with fail
        refine (AN.out _).mono ?_
        rintro e w4 ⟨rfl, b4⟩
        have b4' := b3'.trans (b4.mono b3'.size)
        obtain ⟨c2, c3⟩ := KB'.out w4 b4'
        have t4 := t3.below b4
        clear b3' b4 c0 c1 t3
        go_wp2_with fail
        refine (DN.out _).mono ?_
        rintro e w5 ⟨rfl, b5⟩
        have b5' := b4'.trans (b5.mono b4'.size)
        obtain ⟨c4, c5⟩ := KB'.out w5 b5'
        have t5 := t4.below b5
        clear b4' b5 c2 c3 t4
        go_wp2_with fail
        refine (HN.out _).mono ?_
        rintro e w6 ⟨rfl, b6⟩
        have b6' := b5'.trans (b6.mono b5'.size)
        have t6 := t5.below b6
        clear b5' b6 c4 c5 t5
        go_wp2_with fail
        refine (LN.out _).mono ?_
        rintro e w7 ⟨rfl, rfl⟩
        have bF := hid (bw.trans (b6'.mono bw.size))
        have r6 := g1.below b6'
        obtain ⟨F, t7, _⟩ := t6.tb
        have SM := hid (same t7 r6)
        clear b6' AN DN HN LN WK KB' t6 t7 r6
        go_wp2_with fail
        refine SM.out.mono ?_
        rintro e w8 ⟨rfl, b8⟩
        have bG := hid (bF.out.trans (b8.mono bF.out.size))
        clear SM bF b8
        go_wp2
        go_ret
        exact ⟨rfl, bG.out⟩

end Go.Proofs.Ytpbbamoeaalolaa.Wg
