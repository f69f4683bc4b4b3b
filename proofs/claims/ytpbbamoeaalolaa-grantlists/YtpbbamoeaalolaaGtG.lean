/-
  The contract of the document's Add. Nothing is asked but what each fact names.
-/
import Derived.Test.YtpbbamoeaalolaaGtF
namespace Go.Proofs.Ytpbbamoeaalolaa.Wg
open Go.ChangeShapes Go.WideShapes Go.ChangeAt Go.RowKit Go.Proofs.Ytpbbamoeaalolaa.M Go.Maps

/-- The boxed grant stays, and nothing old turns. -/
structure Sx (w wr : World) (k : Ky) : Prop where
  bw : Below w.heap.size w wr
  kw : KAt wr w.heap.size k 40
theorem Sx.lt {w wr : World} {k : Ky} (h : Sx w wr k) : w.heap.size < wr.heap.size := blk_lt h.kw
theorem Sx.alloc {w wr : World} {k : Ky} (h : Sx w wr k) (o : Obj) : Sx w (wr.alloc o) k := ⟨h.bw.alloc h.bw.size _, (heap_alloc_old wr o h.lt).trans h.kw⟩
theorem Sx.app {w wr w4 : World} {k : Ky} (h : Sx w wr k) {v : Value} {n : Nat} {xs : List Value} {e : Nat} (hg : wr.grownBy w4 v.ownBlock) (own : wr.ownsRow (w.heap.size + 1) e 2 v n xs) : Sx w w4 k :=
  ⟨h.bw.grown hg h.bw.size (fun j hj => by have := (own.lt j hj).1; omega), (hg.block w.heap.size h.lt (fun e => by have := (own.lt _ e.symm).1; omega)).trans h.kw⟩
theorem Sx.below {w wr w4 : World} {k : Ky} (h : Sx w wr k) (b : Below wr.heap.size wr w4) : Sx w w4 k := ⟨h.bw.trans (b.mono h.bw.size), h.kw.below b⟩

/-- What is still to come of a list into which a grant is put. -/
def tc (k : Ky) (p : Bool) (M : List Ky) : List Ky := if p then M else ins k M
theorem tc_in {k x : Ky} {L l : List Ky} {n : Nat} (hx : L[n]? = some x) (h : l ++ tc k true (L.drop n) = ins k L) : (l ++ [x]) ++ tc k true (L.drop (n + 1)) = ins k L := by
  rw [← h, List.append_assoc]
  congr 1
  have hn := (List.getElem?_eq_some_iff.1 hx).1
  show x :: L.drop (n + 1) = L.drop n
  rw [List.drop_eq_getElem_cons hn]
  rw [(List.getElem?_eq_some_iff.1 hx).2]
theorem tc_put {k x : Ky} {L l : List Ky} {n : Nat} (hx : L[n]? = some x) (h : l ++ tc k false (L.drop n) = ins k L) (hk : kLt k x = true) : ((l ++ [k]) ++ [x]) ++ tc k true (L.drop (n + 1)) = ins k L := by
  rw [← h, List.append_assoc, List.append_assoc]
  congr 1
  have hn := (List.getElem?_eq_some_iff.1 hx).1
  show k :: x :: L.drop (n + 1) = ins k (L.drop n)
  rw [List.drop_eq_getElem_cons hn, (List.getElem?_eq_some_iff.1 hx).2]
  unfold ins
  rw [if_pos hk]
theorem tc_on {k x : Ky} {L l : List Ky} {n : Nat} (hx : L[n]? = some x) (h : l ++ tc k false (L.drop n) = ins k L) (hk : kLt k x = false) : (l ++ [x]) ++ tc k false (L.drop (n + 1)) = ins k L := by
  rw [← h, List.append_assoc]
  congr 1
  have hn := (List.getElem?_eq_some_iff.1 hx).1
  show x :: ins k (L.drop (n + 1)) = ins k (L.drop n)
  rw [List.drop_eq_getElem_cons hn, (List.getElem?_eq_some_iff.1 hx).2]
  conv => rhs; unfold ins
  rw [if_neg (by rw [hk]; decide)]

theorem kLt_cases (k x : Ky) : (k.1 < x.1 ∧ kLt k x = true) ∨ (¬ k.1 < x.1 ∧ k.1 = x.1 ∧ Op.bytesLess k.2.toList x.2.toList = true ∧ kLt k x = true) ∨ (¬ k.1 < x.1 ∧ k.1 = x.1 ∧ Op.bytesLess k.2.toList x.2.toList = false ∧ kLt k x = false) ∨ (¬ k.1 < x.1 ∧ ¬ k.1 = x.1 ∧ kLt k x = false) := by
  unfold kLt bLt
  by_cases h1 : k.1 < x.1
  · exact .inl ⟨h1, by simp [h1]⟩
  · by_cases h2 : k.1 = x.1
    · cases h3 : Op.bytesLess k.2.toList x.2.toList
      · exact .inr (.inr (.inl ⟨h1, h2, rfl, by simp [h1]⟩))
      · exact .inr (.inl ⟨h1, h2, rfl, by simp [h2]⟩)
    · exact .inr (.inr (.inr ⟨h1, h2, by simp [h1, h2]⟩))

theorem two_newS {w : World} {B : Nat} (hB : w.heap.size = B) (a b : Value) (T : Nat) : ∀ (j : Nat) (u : Value), [a, b][j]? = some u → (w.alloc (.cells #[a, b] T)).cell? ((⟨B, 0, none⟩ : Addr).add j) = some u := by
  subst hB
  exact two_newR w a b T
/-- A round's own grant, behind an append. -/
theorem var_kept {wr w4 : World} {k x : Ky} {T U e base n : Nat} {v : Value} {xs : List Value} (own : wr.ownsRow base e 2 v n xs) (hg : ((wr.alloc (.cells #[.int .i64 x.1, .string x.2] T)).alloc (.cells #[.int .i64 k.1, .string k.2] U)).grownBy w4 v.ownBlock) : KAt w4 wr.heap.size x T :=
  (hg.block wr.heap.size (by simp; omega) (fun e => by have := (own.lt _ e.symm).2; omega)).trans ((heap_alloc_old (wr.alloc _) _ (by simp)).trans (heap_alloc_new wr _))
theorem own_more {w4 : World} {base e : Nat} {v : Value} {l : List Ky} {x : Ky} (h : w4.ownsRow base e 2 v (l.length + 1) (l.flatMap kC ++ kC x)) : w4.ownsRow base e 2 v (l ++ [x]).length ((l ++ [x]).flatMap kC) := by
  rw [List.flatMap_append, List.length_append]
  simpa using h

set_option maxRecDepth 100000 in
set_option maxHeartbeats 3200000 in
theorem addRef {w : World} {r : Nat} {G : Nat → Prop} {L : List Ky} (h : RfL w r G L) {k : Ky} (hk : KOk k) :
    Calls Try.prog 16 #[.pointer (some ⟨r, 0, none⟩), .agg #[.int .i64 k.1, .string k.2]] w fun e w' => e = .returned (.int .i64 (addE k L)) ∧ RfL w' r (Gr G w w') (addL k L) ∧ Kept G w w' := by
  have hr := h.lt
  have ht := h.t
  have hlen := ht.len
  have kk := KAt.new w k 40
  have hsz : k.2.size ≤ 9223372036854775807 := by have := hk.f; unfold maxLen at this; omega
  have RES := hid fun w' (b : Below w.heap.size w w') => And.intro ((h.below b).mono (G := Gr G w w') fun _ hi => .inl hi) (Kept.of_below (F := G) b)
  by_cases c1 : k.1 < 0 ∨ 8 ≤ k.1
  · have eA := addE_a (L := L) c1
    rw [addL_no (by rw [eA]; decide), eA]
    clear eA kk h
    rcases c1 with c1 | c1
    · go_enter Try.func16, Try.ntmps16
      go_wp2
      go_ret
      exact ⟨rfl, RES.out _ ((Below.refl _ _).alloc (Nat.le_refl _) _)⟩
    · have c0 : ¬ k.1 < 0 := by omega
      have c7 : 7 < k.1 := by omega
      go_enter Try.func16, Try.ntmps16
      go_wp2
      go_ret
      exact ⟨rfl, RES.out _ ((Below.refl _ _).alloc (Nat.le_refl _) _)⟩
  have c2 : 0 ≤ k.1 := by omega
  have c3 : k.1 ≤ 7 := by omega
  have HN := hid fun W => namedRef k.2 W hsz
  by_cases c4 : nmd k.2 = false
  · have eA := addE_b (L := L) c1 c4
    rw [addL_no (by rw [eA]; decide), eA]
    rw [c4] at HN
    clear eA
    go_enter Try.func16, Try.ntmps16
    go_wp2_with fail
    refine (HN.out _).mono ?_
    rintro e w1 ⟨rfl, b1⟩
    have B0 : Below w.heap.size w w1 := ((Below.refl _ _).alloc (Nat.le_refl _) _).trans (b1.mono (by simp))
    clear b1 HN kk h
    go_wp2
    go_ret
    exact ⟨rfl, RES.out _ B0⟩
  have c4' : nmd k.2 = true := by simpa using c4
  rw [c4'] at HN
  have HA := hid fun w1 (b : Below w.heap.size w w1) => hasRef (h.below b) k
  by_cases c5 : k ∈ L
  · have eA := addE_c (L := L) c1 c4' c5
    rw [addL_no (by rw [eA]; decide), eA]
    rw [decide_eq_true c5] at HA
    clear eA
    go_enter Try.func16, Try.ntmps16
    go_wp2_with fail
    refine (HN.out _).mono ?_
    rintro e w1 ⟨rfl, b1⟩
    have B0 : Below w.heap.size w w1 := ((Below.refl _ _).alloc (Nat.le_refl _) _).trans (b1.mono (by simp))
    obtain ⟨k0, k1, k2⟩ := (kk.below b1).c
    clear b1 HN
    go_wp2_with fail
    refine (HA.out _ B0).mono ?_
    rintro e w2 ⟨rfl, b2⟩
    have B2 := B0.trans (b2.mono B0.size)
    clear HA b2 h
    go_wp2
    go_ret
    exact ⟨rfl, RES.out _ B2⟩
  rw [decide_eq_false c5] at HA
  have PUT := hid fun wr (hB : Below w.heap.size w wr) v own (t : Tbl (ins k L)) => RfL.put h hB (v := v) (l := ins k L) own t
  obtain ⟨a, cap, h1, h2, h3, h4⟩ := h.rep
  have q0 := blk_cell (l := [.slice a L.length cap]) h1 (i := 0) rfl
  have f0 := blk_free h1 0
  by_cases c6 : 16 ≤ L.length
  · have eA := addE_d (L := L) c1 c4' c5 c6
    rw [addL_no (by rw [eA]; decide), eA]
    clear eA h h1
    go_enter Try.func16, Try.ntmps16
    go_wp2_with fail
    refine (HN.out _).mono ?_
    rintro e w1 ⟨rfl, b1⟩
    have B0 : Below w.heap.size w w1 := ((Below.refl _ _).alloc (Nat.le_refl _) _).trans (b1.mono (by simp))
    obtain ⟨k0, k1, k2⟩ := (kk.below b1).c
    clear b1 HN
    go_wp2_with fail
    refine (HA.out _ B0).mono ?_
    rintro e w2 ⟨rfl, b2⟩
    have B2 := B0.trans (b2.mono B0.size)
    have g2 := (B2.cell (p := ⟨r, 0, none⟩) hr).trans q0
    clear HA b2 q0
    go_wp2
    go_ret
    exact ⟨rfl, RES.out _ B2⟩
  have eA := addE_e (L := L) c1 c4' c5 c6
  have tA := ht.add k
  rw [addL_yes eA] at tA
  rw [addL_yes eA, eA]
  obtain ⟨i0, hi, hz0, hz1, hz2⟩ := info_parts infoR
  clear h h1 eA RES
  go_enter Try.func16, Try.ntmps16
  go_wp2_with fail
  refine (HN.out _).mono ?_
  rintro e w1 ⟨rfl, b1⟩
  have B0 : Below w.heap.size w w1 := ((Below.refl _ _).alloc (Nat.le_refl _) _).trans (b1.mono (by simp))
  have kk1 := kk.below b1
  obtain ⟨k0, k1, k2⟩ := kk1.c
  clear b1 HN kk
  go_wp2_with fail
  refine (HA.out _ B0).mono ?_
  rintro e w2 ⟨rfl, b2⟩
  have S2 : Sx w w2 k := Sx.below ⟨B0, kk1⟩ b2
  have g2 := (S2.bw.cell (p := ⟨r, 0, none⟩) hr).trans q0
  clear HA b2 B0 kk1 k0 k1 k2
  go_wp2
  go_loopw [7, 8, 9] (fun v p i wr => ∃ (n : Nat) (b : Bool) (l : List Ky), n ≤ L.length ∧ i = .int .i64 n ∧ p = .bool b ∧ Hid (l ++ tc k b (L.drop n) = ins k L ∧ l.length ≤ n + b.toNat) ∧ wr.ownsRow (w.heap.size + 1) 40 2 v l.length (l.flatMap kC) ∧ Sx w wr k) (fun _ _ i _ => L.length - (intOf i).toNat)
  case atStart => exact ⟨0, false, [], Nat.zero_le _, rfl, rfl, ⟨rfl, by simp⟩, World.ownsRow_nil _ _ _ _, S2⟩
  case round =>
    obtain ⟨n, b, l, hn, rfl, rfl, hH, own, sx⟩ := hrel
    have cR := (sx.bw.cell (p := ⟨r, 0, none⟩) hr).trans q0
    have fR := (sx.bw.frozen (p := ⟨r, 0, none⟩) hr).trans f0
    have rl : r < wr.heap.size := Nat.lt_of_lt_of_le hr sx.bw.size
    obtain ⟨kc0, kc1, kl0⟩ := sx.kw.c
    obtain ⟨e1, e2⟩ := hH.out
    by_cases cn : n < L.length
    · rcases h4 with h4 | ⟨g, rfl, _, q3, q4⟩
      · rw [h4] at cn; simp at cn
      obtain ⟨x, hx⟩ : ∃ x, L[n]? = some x := ⟨L[n], List.getElem?_eq_getElem cn⟩
      obtain ⟨x0, x1⟩ := q4.at hx
      have y0 := (sx.bw.cell (p := ⟨g, n * 2, none⟩) q3).trans x0
      have y1 := (sx.bw.cell (p := ⟨g, n * 2 + 1, none⟩) q3).trans x1
      have gl : g < wr.heap.size := Nat.lt_of_lt_of_le q3 sx.bw.size
      have sx1 := fun o => sx.alloc o
      have own1 := fun o => own.alloc o
      clear x0 x1 hH g2 S2 q0 f0
      cases b <;> simp only [Bool.toNat_false, Bool.toNat_true] at e2
      · rcases kLt_cases k x with ⟨a1, a2⟩ | ⟨a1, b2, a3, a4⟩ | ⟨a1, b2, a3, a4⟩ | ⟨a1, b2, a3⟩
        · have E := hid (tc_put hx e1 a2)
          clear hx a2 e1
          go_wp2_with (first | (at_builtin; refine wpList_append_own _ rfl _ _ 31 rfl (w.heap.size + 1) 40 i0 (.agg #[.int .i64 0, .string ⟨#[]⟩]) 2 24 Try.underlying31 hi hz0 hz1 hz2 rfl (by decide) _ _ _ rfl ((own1 _).alloc _) ⟨wr.heap.size + 1, 0, none⟩ 1 1 (kC k) rfl rfl (two_newS (by simp) _ _ _) (kC_one k) (by unfold maxLen; omega) (by omega) (by have := sx.lt; simp; omega) ?_; intro v4 w4 o4 g4 n4; have s4 := Sx.app ((sx1 _).alloc _) g4 ((own1 _).alloc _); have o4' := own_more o4; obtain ⟨z0, z1, z2⟩ := (var_kept own g4).c; have s4l := s4.lt; go_frame) | (at_builtin; refine wpList_append_own _ rfl _ _ 31 rfl (w.heap.size + 1) 40 i0 (.agg #[.int .i64 0, .string ⟨#[]⟩]) 2 24 Try.underlying31 hi hz0 hz1 hz2 rfl (by decide) _ _ _ rfl (o4'.alloc _) ⟨w4.heap.size, 0, none⟩ 1 1 (kC x) rfl rfl (two_newS (by simp) _ _ _) (kC_one x) (by rw [List.length_append, List.length_singleton]; unfold maxLen; omega) (by rw [List.length_append, List.length_singleton]; omega) (by have := s4l; simp; omega) ?_; intro v5 w5 o5 g5 n5; go_frame) | go_in)
          have s5 := Sx.app (s4.alloc _) g5 (o4'.alloc _)
          have o5' : w5.ownsRow (w.heap.size + 1) 40 2 v5 ((l ++ [k]).length + 1) ((l ++ [k]).flatMap kC ++ kC x) := o5
          go_roundw
          case rel => exact ⟨n + 1, true, (l ++ [k]) ++ [x], cn, by go_num, rfl, ⟨E.out, by simp; omega⟩, own_more o5', s5⟩
          case measure => simp [intOf]; omega
        · have E := hid (tc_put hx e1 a4)
          have d2 : decide (k.1 = x.1) = true := decide_eq_true b2
          have d3 : (k.1 == x.1) = true := by simpa using b2
          clear hx a4 e1 b2
          go_wp2_with (first | (at_builtin; refine wpList_append_own _ rfl _ _ 31 rfl (w.heap.size + 1) 40 i0 (.agg #[.int .i64 0, .string ⟨#[]⟩]) 2 24 Try.underlying31 hi hz0 hz1 hz2 rfl (by decide) _ _ _ rfl ((own1 _).alloc _) ⟨wr.heap.size + 1, 0, none⟩ 1 1 (kC k) rfl rfl (two_newS (by simp) _ _ _) (kC_one k) (by unfold maxLen; omega) (by omega) (by have := sx.lt; simp; omega) ?_; intro v4 w4 o4 g4 n4; have s4 := Sx.app ((sx1 _).alloc _) g4 ((own1 _).alloc _); have o4' := own_more o4; obtain ⟨z0, z1, z2⟩ := (var_kept own g4).c; have s4l := s4.lt; go_frame) | (at_builtin; refine wpList_append_own _ rfl _ _ 31 rfl (w.heap.size + 1) 40 i0 (.agg #[.int .i64 0, .string ⟨#[]⟩]) 2 24 Try.underlying31 hi hz0 hz1 hz2 rfl (by decide) _ _ _ rfl (o4'.alloc _) ⟨w4.heap.size, 0, none⟩ 1 1 (kC x) rfl rfl (two_newS (by simp) _ _ _) (kC_one x) (by rw [List.length_append, List.length_singleton]; unfold maxLen; omega) (by rw [List.length_append, List.length_singleton]; omega) (by have := s4l; simp; omega) ?_; intro v5 w5 o5 g5 n5; go_frame) | go_in)
          have s5 := Sx.app (s4.alloc _) g5 (o4'.alloc _)
          have o5' : w5.ownsRow (w.heap.size + 1) 40 2 v5 ((l ++ [k]).length + 1) ((l ++ [k]).flatMap kC ++ kC x) := o5
          go_roundw
          case rel => exact ⟨n + 1, true, (l ++ [k]) ++ [x], cn, by go_num, rfl, ⟨E.out, by simp; omega⟩, own_more o5', s5⟩
          case measure => simp [intOf]; omega
        · have E := hid (tc_on hx e1 a4)
          have d2 : decide (k.1 = x.1) = true := decide_eq_true b2
          have d3 : (k.1 == x.1) = true := by simpa using b2
          clear hx a4 e1 b2
          go_wp2_with (first | (at_builtin; refine wpList_append_own _ rfl _ _ 31 rfl (w.heap.size + 1) 40 i0 (.agg #[.int .i64 0, .string ⟨#[]⟩]) 2 24 Try.underlying31 hi hz0 hz1 hz2 rfl (by decide) _ _ _ rfl ((own1 _).alloc _) ⟨wr.heap.size + 1, 0, none⟩ 1 1 (kC x) rfl rfl (two_newS (by simp) _ _ _) (kC_one x) (by unfold maxLen; omega) (by omega) (by have := sx.lt; simp; omega) ?_; intro v4 w4 o4 g4 n4; go_frame) | go_in)
          have s4 := Sx.app ((sx1 _).alloc _) g4 ((own1 _).alloc _)
          go_roundw
          case rel => exact ⟨n + 1, false, l ++ [x], cn, by go_num, rfl, ⟨E.out, by simp; omega⟩, own_more o4, s4⟩
          case measure => simp [intOf]; omega
        · have E := hid (tc_on hx e1 a3)
          have d2 : decide (k.1 = x.1) = false := decide_eq_false b2
          have d3 : (k.1 == x.1) = false := by simpa using b2
          clear hx a3 e1 b2
          go_wp2_with (first | (at_builtin; refine wpList_append_own _ rfl _ _ 31 rfl (w.heap.size + 1) 40 i0 (.agg #[.int .i64 0, .string ⟨#[]⟩]) 2 24 Try.underlying31 hi hz0 hz1 hz2 rfl (by decide) _ _ _ rfl ((own1 _).alloc _) ⟨wr.heap.size + 1, 0, none⟩ 1 1 (kC x) rfl rfl (two_newS (by simp) _ _ _) (kC_one x) (by unfold maxLen; omega) (by omega) (by have := sx.lt; simp; omega) ?_; intro v4 w4 o4 g4 n4; go_frame) | go_in)
          have s4 := Sx.app ((sx1 _).alloc _) g4 ((own1 _).alloc _)
          go_roundw
          case rel => exact ⟨n + 1, false, l ++ [x], cn, by go_num, rfl, ⟨E.out, by simp; omega⟩, own_more o4, s4⟩
          case measure => simp [intOf]; omega
      · have E := hid (tc_in hx e1)
        clear hx e1
        go_wp2_with (first | (at_builtin; refine wpList_append_own _ rfl _ _ 31 rfl (w.heap.size + 1) 40 i0 (.agg #[.int .i64 0, .string ⟨#[]⟩]) 2 24 Try.underlying31 hi hz0 hz1 hz2 rfl (by decide) _ _ _ rfl ((own1 _).alloc _) ⟨wr.heap.size + 1, 0, none⟩ 1 1 (kC x) rfl rfl (two_newS (by simp) _ _ _) (kC_one x) (by unfold maxLen; omega) (by omega) (by have := sx.lt; simp; omega) ?_; intro v4 w4 o4 g4 n4; go_frame) | go_in)
        have s4 := Sx.app ((sx1 _).alloc _) g4 ((own1 _).alloc _)
        go_roundw
        case rel => exact ⟨n + 1, true, l ++ [x], cn, by go_num, rfl, ⟨E.out, by simp; omega⟩, own_more o4, s4⟩
        case measure => simp [intOf]; omega
    · have eL : L.drop n = [] := List.drop_of_length_le (by omega)
      rw [eL] at e1
      cases b <;> simp only [Bool.toNat_false, Bool.toNat_true] at e2
      · have e3 : l ++ [k] = ins k L := e1
        clear e1 hH
        go_wp2_with (first | (at_builtin; refine wpList_append_own _ rfl _ _ 31 rfl (w.heap.size + 1) 40 i0 (.agg #[.int .i64 0, .string ⟨#[]⟩]) 2 24 Try.underlying31 hi hz0 hz1 hz2 rfl (by decide) _ _ _ rfl (own.alloc _) ⟨wr.heap.size, 0, none⟩ 1 1 (kC k) rfl rfl (two_newS (by simp) _ _ _) (kC_one k) (by unfold maxLen; omega) (by omega) (by have := sx.lt; simp; omega) ?_; intro v4 w4 o4 g4 n4; have s4 := Sx.app (sx.alloc _) g4 (own.alloc _); have o4' := own_more o4; rw [e3] at o4'; have P := hid (PUT.out w4 s4.bw v4 o4' tA); obtain ⟨av, cv, rfl, _⟩ := own_lst o4'; have c4 := (s4.bw.cell (p := ⟨r, 0, none⟩) hr).trans q0; have f4 := (s4.bw.frozen (p := ⟨r, 0, none⟩) hr).trans f0; go_frame) | go_in)
        go_ret
        exact ⟨rfl, P.out⟩
      · have e3 : l = ins k L := by have : l ++ [] = ins k L := e1; simpa using this
        have P := hid (PUT.out wr sx.bw u7 (by rw [← e3]; exact own) tA)
        obtain ⟨av, cv, rfl, _⟩ := own_lst own
        clear e1 hH own PUT e3
        go_wp2
        go_ret
        exact ⟨rfl, P.out⟩

end Go.Proofs.Ytpbbamoeaalolaa.Wg
