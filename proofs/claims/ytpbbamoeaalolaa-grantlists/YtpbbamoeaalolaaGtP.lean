/-
  The contract of a table's Add. Nothing is asked but what each fact names.
-/
import Derived.Test.YtpbbamoeaalolaaGtK
import Derived.Test.YtpbbamoeaalolaaGtN
import Derived.WalkSpells
namespace Go.Proofs.Ytpbbamoeaalolaa.Wg
open Go.ChangeShapes Go.WideShapes Go.ChangeAt Go.RowKit Go.Proofs.Ytpbbamoeaalolaa.M Go.Maps

theorem addE_a {k : Ky} {L : List Ky} (h : k.1 < 0 ∨ 8 ≤ k.1) : addE k L = 2 := if_pos h
theorem addE_b {k : Ky} {L : List Ky} (h : ¬ (k.1 < 0 ∨ 8 ≤ k.1)) (h2 : nmd k.2 = false) : addE k L = 30 := by unfold addE; rw [if_neg h, if_pos h2]
theorem addE_c {k : Ky} {L : List Ky} (h : ¬ (k.1 < 0 ∨ 8 ≤ k.1)) (h2 : nmd k.2 = true) (h3 : k ∈ L) : addE k L = 34 := by unfold addE; rw [if_neg h, if_neg (by rw [h2]; decide), if_pos h3]
theorem addE_d {k : Ky} {L : List Ky} (h : ¬ (k.1 < 0 ∨ 8 ≤ k.1)) (h2 : nmd k.2 = true) (h3 : k ∉ L) (h4 : 16 ≤ L.length) : addE k L = 35 := by unfold addE; rw [if_neg h, if_neg (by rw [h2]; decide), if_neg h3, if_pos h4]
theorem addE_e {k : Ky} {L : List Ky} (h : ¬ (k.1 < 0 ∨ 8 ≤ k.1)) (h2 : nmd k.2 = true) (h3 : k ∉ L) (h4 : ¬ 16 ≤ L.length) : addE k L = 0 := by unfold addE; rw [if_neg h, if_neg (by rw [h2]; decide), if_neg h3, if_neg h4]
theorem addL_no {k : Ky} {L : List Ky} (h : addE k L ≠ 0) : addL k L = L := if_neg h
theorem addL_yes {k : Ky} {L : List Ky} (h : addE k L = 0) : addL k L = ins k L := if_pos h
theorem TbL.gr {w0 w : World} {s : Nat} {F : Nat → Prop} {L : List Ky} (h : TbL w s F L) : TbL w s (Gr F w0 w) L := h.mono fun _ hi => .inl hi

/-- What the last region of Add starts from, and what it comes to. -/
structure Pre (w X : World) (s b : Nat) (F : Nat → Prop) (L : List Ky) (k : Ky) : Prop where
  c : X.heap[s]? = some (Obj.cells #[.map (some b)] 64 (0, 0))
  bx : KAt X w.heap.size k 38
  own : ∃ D, X.ownsMap (H := Unit) Try.prog 38 unitElem b L.length D ∧ Ts D L
  fb : Gr F w X b
  kp : Kept F w X
theorem Pre.put {w X w5 : World} {s b : Nat} {F : Nat → Prop} {L : List Ky} {k : Ky} (p : Pre w X s b F L k) (hF : F s) (t : Tbl L) (hk : KOk k) (he : addE k L = 0) (bb : Below X.heap.size X.drew w5) :
    w5.cell? ⟨s, 0, none⟩ = some (.map (some b)) ∧ w5.cell? ⟨w.heap.size, 0, none⟩ = some (.int .i64 k.1) ∧ w5.cell? ⟨w.heap.size, 1, none⟩ = some (.string k.2) ∧
    ∃ w6, (Instr.mapUpdate 62 (.map (some b)) (.agg #[.int .i64 k.1, .string k.2]) (.agg #[])).run Try.prog w5 = .ok () w6 ∧ Hid (TbL w6 s (Gr F w w6) (addL k L) ∧ Kept F w w6) := by
  obtain ⟨D, hown, hts⟩ := p.own
  obtain ⟨e1, e2, e3, e4⟩ := addE_0.1 he
  have hb := hown.lt
  have hsX : s < X.heap.size := blk_lt p.c
  have B5 : Below X.heap.size X w5 := ⟨bb.os, bb.tape, bb.output, bb.size, bb.block⟩
  have g5 := (bb.block s hsX).trans p.c
  have k5 := (KAt.below p.bx B5).c
  have own5 := own_at (w' := w5) hown (bb.block b hb)
  obtain ⟨w6, hrun, r1, r2⟩ := own5.store lawG Try.underlying62 (by unfold maxLen; omega) (keyOf_mk hk) (unitElem_mk (H := Unit))
  refine ⟨blk_cell (l := [.map (some b)]) g5 rfl, k5.1, k5.2.1, w6, hrun, ?_, ?_⟩
  · have gr := r2.grown
    have hne : s ≠ b := fun e => by
      obtain ⟨es, cl, q, _⟩ := hown
      rw [← e, p.c] at q
      cases q
    have T2 := hts.add (hown.tidy lawG) hk e3 (.agg [])
    have o2 := own_tight r1
    rw [T2.size] at o2
    have z : X.heap.size ≤ w6.heap.size := Nat.le_trans B5.size gr.size
    rw [addL_yes he]
    have ta := t.add k
    rw [addL_yes he] at ta
    refine ⟨ta, .inl hF, .inr ⟨b, _, (gr.block s (Nat.lt_of_lt_of_le hsX B5.size) (fun e => hne (by injection e))).trans g5, ?_, o2, T2⟩⟩
    rcases p.fb with h | h
    · exact .inl h
    · exact .inr ⟨h.1, by omega⟩
  · have gr := r2.grown
    refine p.kp.trans ⟨gr.os.trans B5.os, gr.tape.trans B5.tape, gr.output.trans B5.output, Nat.le_trans B5.size gr.size, fun i hi hn => ?_⟩
    exact (gr.block i (Nat.lt_of_lt_of_le hi B5.size) (fun e => hn (by injection e with e; rw [e]; exact p.fb))).trans (B5.block i hi)

theorem bel_drew (X : World) : Below X.heap.size X.drew X := ⟨rfl, rfl, rfl, Nat.le_refl _, fun _ _ => rfl⟩

set_option maxRecDepth 100000 in
set_option maxHeartbeats 1600000 in
theorem add {w : World} {s : Nat} {F : Nat → Prop} {L : List Ky} (h : TbL w s F L) {k : Ky} (hk : KOk k) :
    Calls Try.prog 15 #[.pointer (some ⟨s, 0, none⟩), .agg #[.int .i64 k.1, .string k.2]] w fun e w' => e = .returned (.int .i64 (addE k L)) ∧ TbL w' s (Gr F w w') (addL k L) ∧ Kept F w w' := by
  have hs := h.lt
  have hK := KAt.new w k 38
  have hsz : k.2.size ≤ 9223372036854775807 := by have := hk.f; unfold maxLen at this; omega
  by_cases c1 : k.1 < 0 ∨ 8 ≤ k.1
  · have eA := addE_a (L := L) c1
    rw [addL_no (by rw [eA]; decide), eA]
    have res : Hid (∀ o, TbL (w.alloc o) s (Gr F w (w.alloc o)) L ∧ Kept F w (w.alloc o)) := fun o => ⟨(h.below ((Below.refl _ _).alloc (Nat.le_refl _) o)).gr, Kept.alloc F w o⟩
    clear h eA hK
    rcases c1 with c1 | c1
    · go_enter Try.func15, Try.ntmps15
      go_wp2
      go_ret
      exact ⟨rfl, res.out _⟩
    · have c0 : ¬ k.1 < 0 := by omega
      go_enter Try.func15, Try.ntmps15
      go_wp2
      go_ret
      exact ⟨rfl, res.out _⟩
  have c2 : 0 ≤ k.1 := by omega
  have c3 : k.1 < 8 := by omega
  have HN := hid fun W => named k.2 W hsz
  by_cases c4 : nmd k.2 = false
  · have eA := addE_b (L := L) c1 c4
    rw [addL_no (by rw [eA]; decide), eA]
    rw [c4] at HN
    clear eA
    go_enter Try.func15, Try.ntmps15
    go_wp2_with fail
    refine (HN.out _).mono ?_
    rintro e w1 ⟨rfl, b1⟩
    have B0 : Below w.heap.size w w1 := ((Below.refl _ _).alloc (Nat.le_refl _) _).trans (b1.mono (by simp))
    clear b1 HN hK
    go_wp2
    go_ret
    exact ⟨rfl, (h.below B0).gr, .of_below B0⟩
  have c4' : nmd k.2 = true := by simpa using c4
  rw [c4'] at HN
  have HA := hid fun w1 (b : Below w.heap.size w w1) => has (h.below b) hk
  by_cases c5 : k ∈ L
  · have eA := addE_c (L := L) c1 c4' c5
    rw [addL_no (by rw [eA]; decide), eA]
    rw [decide_eq_true c5] at HA
    clear eA
    go_enter Try.func15, Try.ntmps15
    go_wp2_with fail
    refine (HN.out _).mono ?_
    rintro e w1 ⟨rfl, b1⟩
    have B0 : Below w.heap.size w w1 := ((Below.refl _ _).alloc (Nat.le_refl _) _).trans (b1.mono (by simp))
    obtain ⟨k0, k1, k2⟩ := (hK.below b1).c
    clear b1 HN
    go_wp2_with fail
    refine (HA.out _ B0).mono ?_
    rintro e w2 ⟨rfl, b2⟩
    have B2 := B0.trans (b2.mono B0.size)
    clear HA b2
    go_wp2
    go_ret
    exact ⟨rfl, (h.below B2).gr, .of_below B2⟩
  rw [decide_eq_false c5] at HA
  by_cases c6 : 16 ≤ L.length
  · have eA := addE_d (L := L) c1 c4' c5 c6
    rw [addL_no (by rw [eA]; decide), eA]
    rcases h.rep with ⟨h1, h2⟩ | ⟨b, D, h1, h2, h3, h4⟩
    · rw [h2] at c6; simp at c6
    have hb := h3.lt
    clear eA
    go_enter Try.func15, Try.ntmps15
    go_wp2_with fail
    refine (HN.out _).mono ?_
    rintro e w1 ⟨rfl, b1⟩
    have B0 : Below w.heap.size w w1 := ((Below.refl _ _).alloc (Nat.le_refl _) _).trans (b1.mono (by simp))
    obtain ⟨k0, k1, k2⟩ := (hK.below b1).c
    clear b1 HN
    go_wp2_with fail
    refine (HA.out _ B0).mono ?_
    rintro e w2 ⟨rfl, b2⟩
    have B2 := B0.trans (b2.mono B0.size)
    have g2 := blk_cell (l := [.map (some b)]) ((B2.block s hs).trans h1) (i := 0) rfl
    have hlen := (own_at (w' := w2) h3 (B2.block b hb)).len Try.underlying62 3
    rw [h4.size] at hlen
    have R2 : Hid (TbL w2 s (Gr F w w2) L ∧ Kept F w w2) := ⟨(h.below B2).gr, .of_below B2⟩
    clear HA b2 B0 B2 h h1 h3 h4 hK
    go_wp2
    go_ret
    exact ⟨rfl, R2.out⟩
  have eA := addE_e (L := L) c1 c4' c5 c6
  rw [eA]
  have HC := hid fun W => clone k W (by have := (nmd_iff.1 c4').2.1; omega)
  have hF := h.fs
  have hT := h.t
  rcases h.rep with ⟨h1, h2⟩ | ⟨b, D, h1, h2, h3, h4⟩
  · have hq : ∀ (w : World), (binOp .eql 62 (.map none) (.map none)).run Try.prog w = .ok (.bool true) w := fun w => run_eql_map_nil w _ _ _ none Try.underlying62
    go_enter Try.func15, Try.ntmps15
    go_wp2_with fail
    refine (HN.out _).mono ?_
    rintro e w1 ⟨rfl, b1⟩
    have z1 := b1.size
    rw [World.size_alloc] at z1
    have B0 : Below w.heap.size w w1 := ((Below.refl _ _).alloc (Nat.le_refl _) _).trans (b1.mono (by simp))
    have hK1 := hK.below b1
    obtain ⟨k0, k1, k2⟩ := hK1.c
    clear b1 HN
    go_wp2_with fail
    refine (HA.out _ B0).mono ?_
    rintro e w2 ⟨rfl, b2⟩
    have z2 := b2.size
    have B2 := B0.trans (b2.mono B0.size)
    have gs := (B2.block s hs).trans h1
    have g2 := blk_cell (l := [.map none]) gs (i := 0) rfl
    have f2 := blk_free gs 0
    have hs2 : s < w2.heap.size := blk_lt gs
    have hmm := @run_makeMap Try.prog
    have zs : (w2.setCell ⟨s, 0, none⟩ (.map (some w2.heap.size))).heap.size = w2.heap.size := by simp
    have P0 : Pre w ((w2.setCell ⟨s, 0, none⟩ (.map (some w2.heap.size))).alloc (.map #[] 0)) s w2.heap.size F L k := by
      have q1 := blk_set (l := [.map none]) gs 0 (.map (some w2.heap.size))
      have hK2 := hK1.below b2
      refine ⟨(heap_alloc_old _ _ (by rw [zs]; exact hs2)).trans q1, ?_, ⟨.map [], ?_, ?_⟩, ?_, ?_⟩
      · exact (heap_alloc_old _ _ (by rw [zs]; exact blk_lt hK2)).trans ((Below.heap_setCell _ _ _ _ (by show w.heap.size ≠ s; omega)).trans hK2)
      · rw [h2]
        have := World.ownsMap_made (H := Unit) (w2.setCell ⟨s, 0, none⟩ (.map (some w2.heap.size))) Try.prog 38 unitElem
        rw [zs] at this
        exact this
      · rw [h2]; exact ts_nil
      · refine .inr ⟨by omega, ?_⟩
        simp
      · have k1 := (Kept.of_below (F := F) B2).setCell (p := ⟨s, 0, none⟩) hF (.map (some w2.heap.size))
        have k2 := Kept.alloc (Gr F w (w2.setCell ⟨s, 0, none⟩ (.map (some w2.heap.size)))) (w2.setCell ⟨s, 0, none⟩ (.map (some w2.heap.size))) (.map #[] 0)
        exact k1.trans k2
    have FIN := hid fun w5 bb => P0.put (w5 := w5) hF hT hk eA bb
    have FI0 := FIN.out _ (bel_drew _)
    clear HA b2 B0 B2 h h1 hK hK1
    go_wp2
    generalize ((w2.setCell ⟨s, 0, none⟩ (.map (some w2.heap.size))).alloc (.map #[] 0)) = X at *
    obtain ⟨m0, m1, m2, _, _⟩ := FI0
    go_region_with (go_at_call 24; refine (HC.out _).mono ?_; rintro e w5 ⟨rfl, bb⟩; obtain ⟨n0, n1, n2, w6, hrun, fin⟩ := FIN.out _ bb; clear bb)
    all_goals
      go_wp2
      go_ret
      exact ⟨rfl, fin.out⟩
  · have hb := h3.lt
    have hq : ∀ (w : World), (binOp .eql 62 (.map (some b)) (.map none)).run Try.prog w = .ok (.bool false) w := fun w => run_eql_map_nil w _ _ _ (some b) Try.underlying62
    go_enter Try.func15, Try.ntmps15
    go_wp2_with fail
    refine (HN.out _).mono ?_
    rintro e w1 ⟨rfl, b1⟩
    have z1 := b1.size
    rw [World.size_alloc] at z1
    have B0 : Below w.heap.size w w1 := ((Below.refl _ _).alloc (Nat.le_refl _) _).trans (b1.mono (by simp))
    have hK1 := hK.below b1
    obtain ⟨k0, k1, k2⟩ := hK1.c
    clear b1 HN
    go_wp2_with fail
    refine (HA.out _ B0).mono ?_
    rintro e w2 ⟨rfl, b2⟩
    have z2 := b2.size
    have B2 := B0.trans (b2.mono B0.size)
    have gs := (B2.block s hs).trans h1
    have g2 := blk_cell (l := [.map (some b)]) gs (i := 0) rfl
    have own2 := own_at (w' := w2) h3 (B2.block b hb)
    have hlen := own2.len Try.underlying62 3
    rw [h4.size] at hlen
    have P0 : Pre w w2 s b F L k := ⟨gs, hK1.below b2, ⟨D, own2, h4⟩, .inl h2, .of_below B2⟩
    have FIN := hid fun w5 bb => P0.put (w5 := w5) hF hT hk eA bb
    have FI0 := FIN.out _ (bel_drew _)
    obtain ⟨m0, m1, m2, _, _⟩ := FI0
    clear HA b2 B0 B2 h h1 h3 h4 hK hK1 own2 gs P0
    go_wp2
    go_region_with (go_at_call 24; refine (HC.out _).mono ?_; rintro e w5 ⟨rfl, bb⟩; obtain ⟨n0, n1, n2, w6, hrun, fin⟩ := FIN.out _ bb; clear bb)
    all_goals
      go_wp2
      go_ret
      exact ⟨rfl, fin.out⟩

/-- .. of a nil table. -/
theorem addNil (k : Ky) (w : World) :
    Calls Try.prog 15 #[.pointer none, .agg #[.int .i64 k.1, .string k.2]] w fun e w' => e = .returned (.int .i64 1) ∧ Below w.heap.size w w' := by
  go_enter Try.func15, Try.ntmps15
  go_wp2
  go_ret
  exact ⟨rfl, (Below.refl _ _).alloc (Nat.le_refl _) _⟩

end Go.Proofs.Ytpbbamoeaalolaa.Wg
