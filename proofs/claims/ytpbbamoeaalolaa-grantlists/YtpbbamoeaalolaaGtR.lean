/-
  The contract of Reach: those that can be come to, rising, in a row of the call's own. Condition: at most 2^20 edges.
-/
import Derived.Test.YtpbbamoeaalolaaGtQ
namespace Go.Proofs.Ytpbbamoeaalolaa.Wg
open Go.ChangeShapes Go.WideShapes Go.ChangeAt Go.RowKit Go.Proofs.Ytpbbamoeaalolaa.M Go.Maps

theorem infoI : (Try.prog.info? 3).map (fun i => (i.zero, i.size, i.bytes)) = some (some (.int .i64 0), 1, 8) := by kernel_rfl
/-- What Reach comes to. -/
def ReachP (w w' : World) (es : List Ed) (f : Int) (e : Ending) : Prop :=
  ∃ (R : List Int) (g cap : Nat), IsR es f R ∧ e = .returned (.slice (some ⟨g, 0, none⟩) R.length cap) ∧ RdI w' g R ∧ w.heap.size ≤ g ∧ g < w'.heap.size ∧ R.length ≤ cap ∧ cap ≤ maxLen ∧ Below w.heap.size w w'
/-- What is known of those found. -/
structure Fd (es : List Ed) (f : Int) (F : List Int) : Prop where
  nd : F.Nodup
  con : ∀ x ∈ F, Con es f x
  self : f ∈ F
theorem Fd.more {es : List Ed} {f : Int} {F : List Int} (h : Fd es f F) {x y : Int} (hx : x ∈ F) (a : Adj es x y) (hy : y ∉ F) : Fd es f (F ++ [y]) := by
  refine ⟨?_, fun z hz => ?_, by simp [h.self]⟩
  · rw [List.nodup_append]
    refine ⟨h.nd, by simp, fun a ha b hb => ?_⟩
    simp at hb
    subst hb
    rintro rfl
    exact hy ha
  · rcases List.mem_append.1 hz with hz | hz
    · exact h.con z hz
    · simp at hz; subst hz; exact (h.con x hx).step a
theorem away_len {W V : List Ed} {n : Int} {i : Nat} (h : Away W n V i) : V.length ≤ W.length := by
  rcases Nat.eq_zero_or_pos V.length with h0 | h0
  · omega
  · have := h.1 (V.length - 1) _ (List.getElem?_eq_getElem (by omega))
    have := (List.getElem?_eq_some_iff.1 this).1
    omega
theorem Fd.wf {es : List Ed} {f : Int} {F : List Int} (h : Fd es f F) (hf : I64 f) (hok : ∀ e ∈ es, EOk e) : ∀ x ∈ F, I64 x := fun x hx => by
  have := con_ends (h.con x hx)
  rcases List.mem_cons.1 this with rfl | hm
  · exact hf
  · unfold ends at hm
    obtain ⟨e, he, h'⟩ := List.mem_flatMap.1 hm
    simp at h'
    rcases h' with rfl | rfl
    · exact (hok e he).a
    · exact (hok e he).b

set_option maxRecDepth 100000 in
set_option maxHeartbeats 3200000 in
theorem reach {w : World} {a : Option Addr} {es : List Ed} {cap : Nat} (f : Int) (hf : I64 f) (hok : ∀ e ∈ es, EOk e) (hrd : EdsAt w a es) (hl : es.length ≤ 1048576) :
    Calls Try.prog 21 #[.int .i64 f, .slice a es.length cap] w fun e w' => ReachP w w' es f e := by
  have BW := hid (bothWays (cap := cap) hrd hl)
  have hmm := @run_makeMap Try.prog
  obtain ⟨i0, hi, hz0, hz1, hz2⟩ := info_parts infoI
  go_enter Try.func21, Try.ntmps21
  go_wp2_with fail
  refine BW.out.mono ?_
  rintro e w1 ⟨g, W, cap1, rfl, hp, hpw, rd1, hg0, hg1, hc1, b1⟩
  have hWl : W.length ≤ 2097152 := by have := hp.length_eq; rw [length_tw] at this; omega
  have hUP : ∃ w3, (Instr.mapUpdate 71 (.map (some (w1.heap.size + 1))) (.int .i64 f) (.agg #[])).run Try.prog ((w1.alloc (.cells #[.int .i64 f] 3)).alloc (.map #[] 0)) = .ok () w3 ∧ Hid (Qs w w3 g (w1.heap.size + 1) w1.heap.size W (.slice (some ⟨w1.heap.size, 0, none⟩) 1 1) [f] ((DataW.map []).put (.int .i64 f) (.agg []))) := by
    have u0 := World.ownsMap_made (H := Unit) (w1.alloc (.cells #[.int .i64 f] 3)) Try.prog 3 unitElem
    rw [World.size_alloc] at u0
    obtain ⟨w3, hrun, r1, r2⟩ := u0.update lawI Try.underlying71 (by unfold maxLen; omega) (keyI hf) (unitElem_mk (H := Unit))
    have z3 := r2.size
    simp at z3
    have bw1 : Below w.heap.size w w1 := b1
    refine ⟨w3, hrun, ?_, ?_, hg1, hg0, ?_, ?_, by omega, by omega, fun x hx => ?_⟩
    · exact ((bw1.alloc bw1.size _).alloc (by have := bw1.size; simp; omega) _).grown r2 (by have := bw1.size; simp; omega) (fun j hj => by injection hj with e; have := bw1.size; omega)
    · intro i x hx t u hu
      have eg : w3.heap[g]? = w1.heap[g]? := (r2.block g (by simp; omega) (fun e => by injection e with e; omega)).trans ((heap_alloc_old (w1.alloc _) _ (by simp; omega)).trans (heap_alloc_old w1 _ hg1))
      exact (World.cell?_of_block (w := w1) eg).trans (rd1 i x hx t u hu)
    · have o1 := World.ownsRow_lit (base := w1.heap.size) (e := 3) (size := 1) w1 #[.int .i64 f] 1 (Nat.le_refl _) (by unfold maxLen; omega) rfl
      exact (o1.alloc _).kept r2 (.inr (by simp [Value.ownBlock]))
    · exact r1
    · by_cases e : x = f
      · subst e
        rw [has_put_same ⟨[], rfl⟩ (show WideAt.IsKeyLit (.int .i64 x) from trivial)]
        simp
      · rw [has_put_other (litI_ne e)]
        simp [e, Maps.has]
  obtain ⟨w3, hup, hQ⟩ := hUP
  clear BW hrd
  go_wp2
  clear hup hmm
  go_loopw [6, 8] (fun v i wr => ∃ (n : Nat) (F : List Int) (D : DataW Unit), i = .int .i64 n ∧ n ≤ F.length ∧ Qs w wr g (w1.heap.size + 1) w1.heap.size W v F D ∧ Hid (Fd es f F ∧ ∀ (k : Nat) (x : Int), F[k]? = some x → k < n → ∀ y, Adj es x y → y ∈ F)) (fun _ i _ => 2 * es.length + 2 - (intOf i).toNat)
  case atStart => exact ⟨0, [f], _, rfl, by simp, hQ.out, ⟨by simp, fun x hx => by simp at hx; subst hx; exact .refl, by simp⟩, fun k x _ h => absurd h (Nat.not_lt_zero _)⟩
  case round =>
    rename World => wo
    obtain ⟨n, F, D, rfl, hn, q, hF⟩ := hrel
    have hF1 := hF.out.1
    have hlen := con_len hF1.nd hF1.con
    rcases q.own.2 with ⟨_, h0⟩ | ⟨gF, capF, cur, rfl, hbF, hcF, hnF, hmF, _, _⟩
    · have := List.length_pos_of_mem hF1.self
      omega
    by_cases cn : n < F.length
    · obtain ⟨x, hx⟩ : ∃ x, F[n]? = some x := ⟨F[n], List.getElem?_eq_getElem cn⟩
      have cx : wo.cell? ⟨gF, n, none⟩ = some (.int .i64 x) := by
        rw [q.own.cellAt n (by omega), List.getElem?_map, hx]
        rfl
      have WF := hid (waysFrom (cap := cap1) x q.rd (Nat.lt_of_lt_of_le q.gl q.bB) hpw hWl hc1)
      clear hF1
      go_wp2_with fail
      refine WF.out.mono ?_
      rintro e w4 ⟨V, i, off, cap', rfl, hoff, hV, b4⟩
      have q4 := q.grown b4
      have hVl : V.length ≤ 2097152 := Nat.le_trans (away_len hV) hWl
      clear WF q b4 cx
      go_wp2
      go_loopw [6, 35] (fun v i wr => ∃ (m : Nat) (G : List Int) (D : DataW Unit), i = .int .i64 m ∧ m ≤ V.length ∧ Qs w wr g (w1.heap.size + 1) w1.heap.size W v G D ∧ Hid (Fd es f G ∧ (∀ (k : Nat) (y : Int), F[k]? = some y → G[k]? = some y) ∧ ∀ (k : Nat) (y : Ed), V[k]? = some y → k < m → y.2 ∈ G)) (fun _ i _ => V.length - (intOf i).toNat)
      case atStart => exact ⟨0, F, D, rfl, Nat.zero_le _, q4, hF.out.1, fun _ _ h => h, fun k y _ h => absurd h (Nat.not_lt_zero _)⟩
      case round =>
        rename World => wi
        obtain ⟨m, G, E, rfl, hm, q, hG⟩ := hrel
        by_cases cm : m < V.length
        · obtain ⟨y, hy⟩ : ∃ y, V[m]? = some y := ⟨V[m], List.getElem?_eq_getElem cm⟩
          have hoff' : off = i * 2 := by
            rcases hoff with h | h
            · rw [h] at cm; simp at cm
            · exact h
          subst hoff'
          have hyW := hV.1 m y hy
          have hyV := (hV.2 y).1 (List.mem_of_getElem? hy)
          have hadj : Adj es y.1 y.2 := mem_tw.1 (hp.mem_iff.1 hyV.1)
          have hy64 : I64 y.2 := by
            obtain ⟨e, he, ⟨_, h⟩ | ⟨_, h⟩⟩ := hadj
            · rw [← h]; exact (hok e he).b
            · rw [← h]; exact (hok e he).a
          obtain ⟨x0, x1⟩ := q.rd.atE hyW
          rw [show 0 + (i + m) * 2 = i * 2 + m * 2 by omega] at x0 x1
          have gli : g < wi.heap.size := Nat.lt_of_lt_of_le q.gl q.bB
          obtain ⟨g1, g2, g3⟩ := hG.out
          have hle := con_len g1.nd g1.con
          have qa := fun o o' => q.grown (((Below.refl wi.heap.size wi).alloc (Nat.le_refl _) o).alloc (by simp) o')
          have hmap := q.map
          have hneb := row_ne_map q.own q.map
          have bwi := q.bw.size
          have bBi := q.bB
          by_cases cy : y.2 ∈ G
          · have hh : Maps.has E (.int .i64 y.2) = true := by rw [q.has _ hy64, decide_eq_true cy]
            have hG' : Hid (Fd es f G ∧ (∀ (k : Nat) (y : Int), F[k]? = some y → G[k]? = some y) ∧ ∀ (k : Nat) (y : Ed), V[k]? = some y → k < m + 1 → y.2 ∈ G) := ⟨g1, g2, fun k z hz hk => by
              by_cases e : k = m
              · subst e; rw [hy] at hz; cases hz; exact cy
              · exact g3 k z hz (by omega)⟩
            clear hG hy hyW hyV hadj g1 g2 g3 cy q
            go_wp2_with (first | (at_lookup; refine wpList_lookup_own_unit _ rfl _ _ 71 rfl 3 65 lawI Try.underlying71 (zero0 _) _ _ E rfl (hmap.alloc _) _ _ rfl (keyI hy64) ?_) | go_in)
            go_roundw
            case rel => exact ⟨m + 1, G, E, by go_num, cm, qa _ _, hG'⟩
            case measure => simp [intOf]; omega
          · have hh : Maps.has E (.int .i64 y.2) = false := by rw [q.has _ hy64, decide_eq_false cy]
            have hxG : y.1 ∈ G := by
              rw [hyV.2]
              exact List.mem_of_getElem? (g2 n x hx)
            have hG' : Hid (Fd es f (G ++ [y.2]) ∧ (∀ (k : Nat) (z : Int), F[k]? = some z → (G ++ [y.2])[k]? = some z) ∧ ∀ (k : Nat) (z : Ed), V[k]? = some z → k < m + 1 → z.2 ∈ G ++ [y.2]) := ⟨g1.more hxG hadj cy, fun k z hz => by
                have := g2 k z hz
                rw [List.getElem?_append_left (List.getElem?_eq_some_iff.1 this).1]
                exact this, fun k z hz hk => by
              by_cases e : k = m
              · subst e; rw [hy] at hz; cases hz; simp
              · exact List.mem_append.2 (.inl (g3 k z hz (by omega)))⟩
            clear hG hy hyW hyV hadj g1 g2 g3 hxG q
            go_wp2_with (first | (at_lookup; refine wpList_lookup_own_unit _ rfl _ _ 71 rfl 3 65 lawI Try.underlying71 (zero0 _) _ _ E rfl (hmap.alloc _) _ _ rfl (keyI hy64) ?_) | (at_mapUpdate; refine wpList_mapUpdate_own _ rfl _ _ _ 71 rfl 3 65 lawI Try.underlying71 unitElem _ G.length E rfl (qa _ _).map (by unfold maxLen; omega) _ _ _ rfl rfl (keyI hy64) (.agg []) [] (unitElem_mk (H := Unit)) ?_; intro w5 hown5 hg5) | (at_builtin; refine wpList_append_own _ rfl _ _ 53 rfl w1.heap.size 3 i0 (.int .i64 0) 1 8 Try.underlying53 hi hz0 hz1 hz2 rfl (by decide) _ _ _ rfl (((qa _ _).own.kept hg5 (.inr hneb.symm)).alloc _) ⟨w5.heap.size, 0, none⟩ 1 1 [.int .i64 y.2] rfl rfl (cell_one_new _ _ _) (fun u hu => by simp at hu; subst hu; rfl) (by unfold maxLen; omega) (by omega) (by have := hg5.size; simp at this; simp; omega) ?_; intro v6 w6 o6 g6 n6; go_frame) | go_in)
            have q6 := Qs.more (qa _ _) hy64 cy hown5 hg5 o6 g6
            go_roundw
            case rel => exact ⟨m + 1, G ++ [y.2], _, by go_num, cm, q6, hG'⟩
            case measure => simp [intOf]; omega
        · have hEnd : Hid (n + 1 ≤ G.length ∧ Fd es f G ∧ ∀ (k : Nat) (x : Int), G[k]? = some x → k < n + 1 → ∀ y, Adj es x y → y ∈ G) := by
            obtain ⟨g1, g2, g3⟩ := hG.out
            obtain ⟨_, f2⟩ := hF.out
            have hsub : ∀ y ∈ F, y ∈ G := fun y hy => by
              obtain ⟨k, hk⟩ := List.mem_iff_getElem?.1 hy
              exact List.mem_of_getElem? (g2 k y hk)
            have hnG := (List.getElem?_eq_some_iff.1 (g2 n x hx)).1
            refine ⟨hnG, g1, fun k z hz hk y ha => ?_⟩
            by_cases e : k = n
            · subst e
              rw [g2 k x hx] at hz
              cases hz
              have hv : (x, y) ∈ V := (hV.2 (x, y)).2 ⟨hp.mem_iff.2 (mem_tw.2 ha), rfl⟩
              obtain ⟨j, hj⟩ := List.mem_iff_getElem?.1 hv
              have hjl := (List.getElem?_eq_some_iff.1 hj).1
              exact g3 j (x, y) hj (by omega)
            · have hkF : F[k]? = some F[k] := List.getElem?_eq_getElem (by omega)
              rw [g2 k _ hkF] at hz
              cases hz
              exact hsub y (f2 k _ hkF (by omega) y ha)
          have e1 := hEnd.out.1
          clear hF hG hx hV
          go_wp2
          go_roundw
          case rel => exact ⟨n + 1, G, E, by go_num, e1, q, hEnd.out.2⟩
          case measure => simp [intOf]; omega
    · have hR := rch_is es f
      have hmem : ∀ x, x ∈ F ↔ x ∈ rch es f (es.length + 1) := fun x => by
        obtain ⟨f1, f2⟩ := hF.out
        rw [hR.mem]
        refine ⟨f1.con x, fun c => con_in f1.self (fun z hz y a => ?_) c⟩
        obtain ⟨k, hk⟩ := List.mem_iff_getElem?.1 hz
        exact f2 k z hk (by have := (List.getElem?_eq_some_iff.1 hk).1; omega) y a
      have SK := hid (sortInts q.own hF1.nd hR.rise hmem (by omega))
      have gl := blk_lt hcF
      have bwo := q.bw
      have hbw : w.heap.size ≤ gF := by have := q.gl; have := q.gw; omega
      clear q hF hmem hF1
      generalize rch es f (es.length + 1) = R at SK hR
      have hR' := hid hR
      clear hR
      go_wp2_with (go_at_call 29; refine SK.out.mono ?_; rintro e w' ⟨rfl, r1, r2, r3⟩)
      go_ret
      unfold ReachP
      exact ⟨R, gF, capF, hR'.out, by rw [← r3]; rfl, r2, hbw, Nat.lt_of_lt_of_le gl r1.size, by rw [← r3]; exact hnF, hmF, bwo.grown r1 bwo.size (fun j hj => by cases hj; exact hbw)⟩

end Go.Proofs.Ytpbbamoeaalolaa.Wg
