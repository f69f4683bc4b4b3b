/-
  The contract of the document's Drop. Nothing is asked but what each fact names.
-/
import Derived.Test.YtpbbamoeaalolaaGtE
namespace Go.Proofs.Ytpbbamoeaalolaa.Wg
open Go.ChangeShapes Go.WideShapes Go.ChangeAt Go.RowKit Go.Proofs.Ytpbbamoeaalolaa.M Go.Maps

theorem infoR : (Try.prog.info? 40).map (fun i => (i.zero, i.size, i.bytes)) = some (some (.agg #[.int .i64 0, .string ⟨#[]⟩]), 2, 24) := by kernel_rfl
theorem two_newR (w : World) (a b : Value) (T : Nat) : ∀ (j : Nat) (u : Value), [a, b][j]? = some u → (w.alloc (.cells #[a, b] T)).cell? ((⟨w.heap.size, 0, none⟩ : Addr).add j) = some u := by
  intro j u hu
  rw [add_none, Nat.zero_add]
  exact blk_cell (l := [a, b]) (heap_alloc_new w _) hu
theorem grown_ofR {w w' : World} (b : Below w.heap.size w w') : w.grownBy w' none := ⟨b.os, b.tape, b.output, b.size, fun k hk _ => b.block k hk⟩
theorem own_belowR {w w' : World} {base e size n : Nat} {v : Value} {xs : List Value} (h : w.ownsRow base e size v n xs) (b : Below w.heap.size w w') : w'.ownsRow base e size v n xs :=
  h.kept (row := none) (grown_ofR b) (by cases v.ownBlock <;> simp)
theorem kC_one (x : Ky) : ∀ u ∈ kC x, u.oneCell' = true := fun u hu => by simp [kC] at hu; rcases hu with rfl | rfl <;> rfl
/-- A row that a call has built, for reading. -/
theorem own_lst {w : World} {base e : Nat} {v : Value} {l : List Ky} (h : w.ownsRow base e 2 v l.length (l.flatMap kC)) :
    ∃ a cap, v = .slice a l.length cap ∧ l.length ≤ cap ∧ cap ≤ maxLen ∧ (l = [] ∨ ∃ g, a = some ⟨g, 0, none⟩ ∧ base ≤ g ∧ g < w.heap.size ∧ Rd kC w g 0 l) := by
  have h' := h
  rcases h'.2 with ⟨rfl, hn⟩ | ⟨g, cap, cur, rfl, hb, hg, hc, hm, _, _⟩
  · rw [hn]
    exact ⟨none, 0, rfl, Nat.le_refl _, Nat.zero_le _, .inl (List.length_eq_zero_iff.1 hn)⟩
  · exact ⟨_, cap, rfl, hc, hm, .inr ⟨g, rfl, hb, blk_lt hg, by simpa using rd_of_holds kC_len (holds_of_own kC_len h)⟩⟩
/-- The list laid into the table's cell. -/
theorem RfL.put {w wr : World} {r : Nat} {G : Nat → Prop} {L l : List Ky} (h : RfL w r G L) (hB : Below w.heap.size w wr) {v : Value} (own : wr.ownsRow (w.heap.size + 1) 40 2 v l.length (l.flatMap kC)) (t : Tbl l) :
    RfL (wr.setCell ⟨r, 0, none⟩ v) r (Gr G w (wr.setCell ⟨r, 0, none⟩ v)) l ∧ Kept G w (wr.setCell ⟨r, 0, none⟩ v) := by
  have hr := h.lt
  obtain ⟨a0, c0, q0, _⟩ := h.rep
  obtain ⟨a, cap, rfl, e1, e2, e3⟩ := own_lst own
  have k1 := (Kept.of_below (F := G) hB).setCell (p := ⟨r, 0, none⟩) h.gr (.slice a l.length cap)
  refine ⟨⟨t, .inl h.gr, a, cap, ?_, e1, e2, ?_⟩, k1⟩
  · exact blk_set (l := [.slice a0 L.length c0]) ((hB.block r hr).trans q0) 0 _
  · rcases e3 with e3 | ⟨g, f1, f2, f3, f4⟩
    · exact .inl e3
    · refine .inr ⟨g, f1, .inr ⟨by omega, by simpa using f3⟩, by simpa using f3, fun i x hx t v hv => ?_⟩
      exact (World.cell?_of_block (w := wr) (Below.heap_setCell _ _ _ _ (by show g ≠ r; omega))).trans (f4 i x hx t v hv)

theorem dropL_take_in {k x : Ky} {L : List Ky} {n : Nat} (hx : L[n]? = some x) (e : x ≠ k) : dropL k (L.take (n + 1)) = dropL k (L.take n) ++ [x] := by
  unfold dropL
  rw [List.take_add_one, hx, List.filter_append]
  simp [e]
theorem dropL_take_out {k x : Ky} {L : List Ky} {n : Nat} (hx : L[n]? = some x) (e : x = k) : dropL k (L.take (n + 1)) = dropL k (L.take n) := by
  unfold dropL
  rw [List.take_add_one, hx, List.filter_append]
  simp [e]

set_option maxRecDepth 100000 in
set_option maxHeartbeats 800000 in
theorem dropRef {w : World} {r : Nat} {G : Nat → Prop} {L : List Ky} (h : RfL w r G L) (k : Ky) :
    Calls Try.prog 14 #[.pointer (some ⟨r, 0, none⟩), .agg #[.int .i64 k.1, .string k.2]] w fun e w' => e = .returned (.int .i64 (dropE k L)) ∧ RfL w' r (Gr G w w') (dropL k L) ∧ Kept G w w' := by
  have hr := h.lt
  have ht := h.t
  have hlen := ht.len
  have HA := hid (fun o => hasRef (h.below ((Below.refl _ _).alloc (Nat.le_refl _) o)) k)
  have kk := KAt.new w k 40
  unfold dropE
  by_cases c : k ∈ L
  · rw [if_pos c]
    rw [decide_eq_true c] at HA
    have PUT := hid fun wr (hB : Below w.heap.size w wr) v own => RfL.put h hB (v := v) (l := dropL k L) own (ht.drop k)
    obtain ⟨a, cap, h1, h2, h3, h4⟩ := h.rep
    have c0 := blk_cell (l := [.slice a L.length cap]) h1 (i := 0) rfl
    have f0 := blk_free h1 0
    have hq := neqK 40 (.inr rfl)
    obtain ⟨i0, hi, hz0, hz1, hz2⟩ := info_parts infoR
    rcases h4 with h4 | ⟨g, rfl, _, q3, q4⟩
    · rw [h4] at c; simp at c
    clear h h1
    go_enter Try.func14, Try.ntmps14
    go_wp2_with fail
    refine (HA.out _).mono ?_
    rintro e w1 ⟨rfl, b1⟩
    have z1 := b1.size
    rw [World.size_alloc] at z1
    have B0 : Below w.heap.size w w1 := ((Below.refl _ _).alloc (Nat.le_refl _) _).trans (b1.mono (by simp))
    have kk1 := kk.below b1
    clear b1 HA kk
    go_wp2
    go_loopw [6, 7] (fun v i wr => ∃ n : Nat, n ≤ L.length ∧ i = .int .i64 n ∧ wr.ownsRow (w.heap.size + 1) 40 2 v (dropL k (L.take n)).length ((dropL k (L.take n)).flatMap kC) ∧ Below w.heap.size w wr ∧ KAt wr w.heap.size k 40) (fun _ i _ => L.length - (intOf i).toNat)
    case atStart => exact ⟨0, Nat.zero_le _, rfl, World.ownsRow_nil _ _ _ _, B0, kk1⟩
    case round =>
      obtain ⟨n, hn, rfl, own, bw, kw⟩ := hrel
      have cR := (bw.cell (p := ⟨r, 0, none⟩) hr).trans c0
      have fR := (bw.frozen (p := ⟨r, 0, none⟩) hr).trans f0
      by_cases cn : n < L.length
      · obtain ⟨x, hx⟩ : ∃ x, L[n]? = some x := ⟨L[n], List.getElem?_eq_getElem cn⟩
        obtain ⟨x0, x1⟩ := q4.at hx
        have y0 := (bw.cell (p := ⟨g, n * 2, none⟩) q3).trans x0
        have y1 := (bw.cell (p := ⟨g, n * 2 + 1, none⟩) q3).trans x1
        obtain ⟨k0, k1, _⟩ := kw.c
        have hqx := fun W => hq W x k
        have hll : (dropL k (L.take n)).length ≤ n := Nat.le_trans (List.length_filter_le _ _) (List.length_take_le _ _)
        by_cases e : x = k
        · have hstep := dropL_take_out hx e
          simp only [decide_eq_true e, Bool.not_true] at hqx
          have own' : Hid (wr.ownsRow (w.heap.size + 1) 40 2 u6 (dropL k (L.take (n + 1))).length ((dropL k (L.take (n + 1))).flatMap kC)) := by rw [hstep]; exact own
          clear hq x0 x1 hx own e hstep
          go_wp2
          go_quiet (fail)
          go_wp2
          go_roundw
          case rel => exact ⟨n + 1, cn, by go_num, own'.out, ⟨bw.os, bw.tape, bw.output, bw.size, bw.block⟩, kw⟩
          case measure => simp [intOf]; omega
        · have hstep := dropL_take_in hx e
          simp only [decide_eq_false e, Bool.not_false] at hqx
          clear hq x0 x1 hx e
          go_wp2
          go_quiet (fail)
          have own1 : (wr.drewN nq).ownsRow (w.heap.size + 1) 40 2 u6 (dropL k (L.take n)).length ((dropL k (L.take n)).flatMap kC) := own
          go_wp2_with (first | (at_builtin; refine wpList_append_own _ rfl _ _ 31 rfl (w.heap.size + 1) 40 i0 (.agg #[.int .i64 0, .string ⟨#[]⟩]) 2 24 Try.underlying31 hi hz0 hz1 hz2 rfl (by decide) _ _ _ rfl (own1.alloc _) ⟨wr.heap.size, 0, none⟩ 1 1 (kC x) rfl rfl (two_newR _ _ _ _) (kC_one x) (by unfold maxLen; omega) (by omega) (by have := bw.size; have := blk_lt kw; simp; omega) ?_; intro v' w4 hown' hg4 hnil4; go_frame) | go_in)
          have zw := bw.size
          have kw4 : KAt w4 w.heap.size k 40 := (hg4.block w.heap.size (by have := blk_lt kw; simp; omega) (fun e => by have := (own1.lt _ e.symm).1; omega)).trans ((heap_alloc_old (wr.drewN nq) _ (blk_lt kw)).trans kw)
          have bw4 : Below w.heap.size w w4 := (Below.alloc (w := wr.drewN nq) ⟨bw.os, bw.tape, bw.output, bw.size, bw.block⟩ bw.size _).grown hg4 (by simp; omega) (fun j hj => by have := (own1.lt j hj).1; omega)
          have own' : Hid (w4.ownsRow (w.heap.size + 1) 40 2 v' (dropL k (L.take (n + 1))).length ((dropL k (L.take (n + 1))).flatMap kC)) := by 
            rw [hstep, List.flatMap_append, List.length_append]
            refine hid ?_
            simpa using hown'
          go_roundw
          case rel => exact ⟨n + 1, cn, by go_num, own'.out, bw4, kw4⟩
          case measure => simp [intOf]; omega
      · have P := hid (PUT.out wr bw u6 (by rw [List.take_of_length_le (by omega)] at own; exact own))
        obtain ⟨a', cap', rfl, _⟩ := own_lst own
        clear PUT own kw
        go_wp2
        go_ret
        exact ⟨rfl, P.out⟩
  · rw [if_neg c, dropL_none c]
    rw [decide_eq_false c] at HA
    go_enter Try.func14, Try.ntmps14
    go_wp2_with fail
    refine (HA.out _).mono ?_
    rintro e w1 ⟨rfl, b1⟩
    have B0 : Below w.heap.size w w1 := ((Below.refl _ _).alloc (Nat.le_refl _) _).trans (b1.mono (by simp))
    clear b1 HA
    go_wp2
    go_ret
    exact ⟨rfl, (h.below B0).mono fun _ hi => .inl hi, .of_below B0⟩

end Go.Proofs.Ytpbbamoeaalolaa.Wg
