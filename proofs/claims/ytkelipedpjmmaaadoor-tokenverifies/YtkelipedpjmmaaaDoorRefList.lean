/-
  The walk of the document's read over a text and over a list. Conditions: as in the part before.
-/
import Derived.Test.YtkelipedpjmmaaaDoorRefRead
import Derived.Deep.AppendLies
import Derived.Test.YtkelipedpjmmaaaDoorQb
namespace Go.Proofs.YtkelipedpjmmaaaDoor.Wr
open Go.ChangeShapes Go.WideShapes Go.ChangeAt Go.RowKit Go.Proofs.YtkelipedpjmmaaaDoor.M Go.Proofs.YtkelipedpjmmaaaDoor.Wf

theorem infoR : (Tryd.prog.info? 58).map (fun i => (i.zero, i.size, i.bytes)) = some (some (.agg #[.int .i64 0, .int .i64 0, .string ⟨#[]⟩, .slice none 0 0]), 4, 56) := by kernel_rfl

/-- The result's cell and the zero value's. -/
def Boxes (w w2 : World) : Prop := w2.heap[w.heap.size]? = some (.cells #[.int .i64 0, .int .i64 0, .string ⟨#[]⟩, .slice none 0 0] 58 (0, 0)) ∧ w2.heap[w.heap.size + 1]? = some (.cells #[.int .i64 0, .int .i64 0, .string ⟨#[]⟩, .slice none 0 0] 58 (0, 0)) ∧ Below w.heap.size w w2
theorem boxes (w : World) : ∀ X, X = (w.alloc (.cells #[.int .i64 0, .int .i64 0, .string ⟨#[]⟩, .slice none 0 0] 58)).alloc (.cells #[.int .i64 0, .int .i64 0, .string ⟨#[]⟩, .slice none 0 0] 58) → Boxes w X ∧ X.heap.size = w.heap.size + 2 := fun X hX => by
  obtain ⟨h1, h2, h3, h4⟩ := two _ _ _ X hX
  exact ⟨⟨h1, h2, h4⟩, h3⟩
theorem Boxes.below {w X w2 : World} (h : Boxes w X) (hb : Below X.heap.size X w2) : Boxes w w2 :=
  ⟨(hb.block _ (lt_of_heap h.1)).trans h.1, (hb.block _ (lt_of_heap h.2.1)).trans h.2.1, h.2.2.trans (hb.mono h.2.2.size)⟩
theorem Boxes.cells {w w2 : World} (h : Boxes w w2) : w2.cell? ⟨w.heap.size, 0, none⟩ = some (.int .i64 0) ∧ w2.cell? ⟨w.heap.size, 1, none⟩ = some (.int .i64 0) ∧ w2.cell? ⟨w.heap.size, 2, none⟩ = some (.string ⟨#[]⟩) ∧ w2.cell? ⟨w.heap.size, 3, none⟩ = some (.slice none 0 0) ∧
    w2.cell? ⟨w.heap.size + 1, 0, none⟩ = some (.int .i64 0) ∧ w2.cell? ⟨w.heap.size + 1, 1, none⟩ = some (.int .i64 0) ∧ w2.cell? ⟨w.heap.size + 1, 2, none⟩ = some (.string ⟨#[]⟩) ∧ w2.cell? ⟨w.heap.size + 1, 3, none⟩ = some (.slice none 0 0) ∧ (∀ j, w2.frozen? ⟨w.heap.size, j, none⟩ = false) ∧ w.heap.size + 1 < w2.heap.size := by
  obtain ⟨h1, h2, _⟩ := h
  exact ⟨by simp [World.cell?, h1], by simp [World.cell?, h1], by simp [World.cell?, h1], by simp [World.cell?, h1], by simp [World.cell?, h2], by simp [World.cell?, h2], by simp [World.cell?, h2], by simp [World.cell?, h2], fun j => frozen_there h1 j, lt_of_heap h2⟩
theorem Boxes.far {w X Y : World} {S : Nat → Prop} (h : Boxes w X) (F : Far (w.heap.size + 3) S X Y) (v : Value) : Boxes w (Y.setCell ⟨w.heap.size + 1 + 1, 3, none⟩ v) := by
  have o : ∀ j, j ≠ w.heap.size + 1 + 1 → (Y.setCell ⟨w.heap.size + 1 + 1, 3, none⟩ v).heap[j]? = Y.heap[j]? := fun j hj => Below.heap_setCell _ _ _ _ hj
  refine ⟨(o _ (by omega)).trans ((F.stay _ (lt_of_heap h.1) (.inl (by omega))).trans h.1), (o _ (by omega)).trans ((F.stay _ (lt_of_heap h.2.1) (.inl (by omega))).trans h.2.1), ?_⟩
  have hb : Below w.heap.size w Y := ⟨F.os.trans h.2.2.os, F.tape.trans h.2.2.tape, F.output.trans h.2.2.output, Nat.le_trans h.2.2.size F.size, fun j hj => (F.stay j (Nat.lt_of_lt_of_le hj h.2.2.size) (.inl (by omega))).trans (h.2.2.block j hj)⟩
  exact hb.setCell (p := ⟨w.heap.size + 1 + 1, 3, none⟩) (by show w.heap.size ≤ w.heap.size + 1 + 1; omega) _
theorem Boxes.done {w w2 : World} (h : Boxes w w2) (a b c d : Value) : Below w.heap.size w (put4 w2 w.heap.size 0 a b c d) := put4_below h.2.2 (Nat.le_refl _) _ _ _ _

set_option maxRecDepth 100000 in
set_option maxHeartbeats 1000000 in
theorem readText (m d : Nat) (s : ByteArray) (a : Int) (w : World) (hs : s.size ≤ maxLen) (h0 : 0 ≤ a ∧ a ≤ (s.size : Int)) (c1 : gE s a 1 = 0) (k2 : gN s a 1 = 2) :
    Calls Tryd.prog 30 #[.string s, .int .i64 a, .int .i64 (d : Int)] w fun e w' => Told (valR s m a) w.heap.size e w' ∧ Below w.heap.size w w' := by
  have hX := gX_range s a 1
  have CN := hid (fun W => Wg.getRef s a 1 W hs (by omega) (by unfold maxLen at hs; omega))
  have CM := hid (fun W => Wt.getTextRef s (gX s a 1) W hs (by omega) (by unfold maxLen at hs; omega))
  have e0 : valR s m a = overT (textR s (gX s a 1)) := by rw [valR_eq, if_neg (by omega), if_neg (by omega), if_pos k2]
  rw [e0]
  rw [k2, c1] at CN
  clear e0 k2 c1
  generalize gX s a 1 = X at *
  have hB := xB_size s X
  have hB2 : (xB s X).size ≤ 9223372036854775807 := by unfold maxLen at hs; omega
  clear hB
  by_cases c2 : xE s X = 0
  · rw [c2] at CM
    by_cases c3 : 4096 < (xB s X).size
    · have e0 : textR s X = .error 5 := by unfold textR; rw [if_neg (by omega), if_pos c3]
      rw [e0]
      have c3' : (4096 : Int) < ((xB s X).size : Int) := by omega
      generalize xB s X = B at *
      generalize xX s X = X2 at *
      clear e0 c2 c3 hs h0
      go_enter Tryd.func30, Tryd.ntmps30
      go_wp2_with fail
      refine (CN.out _).mono ?_
      rintro e w1 ⟨rfl, rfl⟩
      go_wp2_with fail
      obtain ⟨Y, hY⟩ : ∃ Y, Y = (w.alloc (.cells #[.int .i64 0, .int .i64 0, .string ⟨#[]⟩, .slice none 0 0] 58)).alloc (.cells #[.int .i64 0, .int .i64 0, .string ⟨#[]⟩, .slice none 0 0] 58) := ⟨_, rfl⟩
      rw [← hY]
      obtain ⟨BY, sY⟩ := boxes w Y hY
      have KY := hid BY
      clear hY BY sY
      refine (CM.out _).mono ?_
      rintro e w2 ⟨rfl, b2⟩
      have B2 := hid (KY.out.below b2)
      obtain ⟨x0, x1, x2, x3, y0, y1, y2, y3, xf, xl⟩ := B2.out.cells
      go_wp2_with fail
      exact bodyPost_ret (v := .tuple #[.agg #[.int .i64 0, .int .i64 0, .string ⟨#[]⟩, .slice none 0 0], .int .i64 0, .int .i64 5]) (by simp [results, Tryd.results30, go_sem, x0, x1, x2, x3]) rfl ⟨rfl, B2.out.done (.int .i64 0) (.int .i64 0) (.string ⟨#[]⟩) (.slice none 0 0)⟩
    · have e0 : textR s X = .ok (xB s X, xX s X) := by unfold textR; rw [if_neg (by omega), if_neg c3]
      rw [e0]
      have c3' : ¬ (4096 : Int) < ((xB s X).size : Int) := by omega
      generalize xB s X = B at *
      generalize xX s X = X2 at *
      clear e0 c2 c3 hs h0
      go_enter Tryd.func30, Tryd.ntmps30
      go_wp2_with fail
      refine (CN.out _).mono ?_
      rintro e w1 ⟨rfl, rfl⟩
      go_wp2_with fail
      obtain ⟨Y, hY⟩ : ∃ Y, Y = (w.alloc (.cells #[.int .i64 0, .int .i64 0, .string ⟨#[]⟩, .slice none 0 0] 58)).alloc (.cells #[.int .i64 0, .int .i64 0, .string ⟨#[]⟩, .slice none 0 0] 58) := ⟨_, rfl⟩
      rw [← hY]
      obtain ⟨BY, sY⟩ := boxes w Y hY
      have KY := hid BY
      clear hY BY sY
      refine (CM.out _).mono ?_
      rintro e w2 ⟨rfl, b2⟩
      have B2 := hid (KY.out.below b2)
      obtain ⟨x0, x1, x2, x3, y0, y1, y2, y3, xf, xl⟩ := B2.out.cells
      go_wp2_with fail
      exact bodyPost_ret (v := .tuple #[.agg #[.int .i64 1, .int .i64 0, .string B, .slice none 0 0], .int .i64 X2, .int .i64 0]) (by simp [results, Tryd.results30, go_sem, x0, x1, x2, x3]) rfl ⟨⟨none, 0, rfl, rd_nil _ _⟩, B2.out.done (.int .i64 1) (.int .i64 0) (.string B) (.slice none 0 0)⟩
  · have e0 : textR s X = .error (xE s X) := by unfold textR; rw [if_pos c2]
    rw [e0]
    generalize xB s X = B at *
    generalize xX s X = X2 at *
    generalize xE s X = E2 at *
    clear e0 hs h0
    go_enter Tryd.func30, Tryd.ntmps30
    go_wp2_with fail
    refine (CN.out _).mono ?_
    rintro e w1 ⟨rfl, rfl⟩
    go_wp2_with fail
    obtain ⟨Y, hY⟩ : ∃ Y, Y = (w.alloc (.cells #[.int .i64 0, .int .i64 0, .string ⟨#[]⟩, .slice none 0 0] 58)).alloc (.cells #[.int .i64 0, .int .i64 0, .string ⟨#[]⟩, .slice none 0 0] 58) := ⟨_, rfl⟩
    rw [← hY]
    obtain ⟨BY, sY⟩ := boxes w Y hY
    have KY := hid BY
    clear hY BY sY
    refine (CM.out _).mono ?_
    rintro e w2 ⟨rfl, b2⟩
    have B2 := hid (KY.out.below b2)
    obtain ⟨x0, x1, x2, x3, y0, y1, y2, y3, xf, xl⟩ := B2.out.cells
    go_wp2_with fail
    exact bodyPost_ret (v := .tuple #[.agg #[.int .i64 0, .int .i64 0, .string ⟨#[]⟩, .slice none 0 0], .int .i64 0, .int .i64 E2]) (by simp [results, Tryd.results30, go_sem, x0, x1, x2, x3]) rfl ⟨rfl, B2.out.done (.int .i64 0) (.int .i64 0) (.string ⟨#[]⟩) (.slice none 0 0)⟩

set_option maxRecDepth 100000 in
set_option maxHeartbeats 1000000 in
theorem readList (m d : Nat) (s : ByteArray) (a : Int) (w : World) (hs : s.size ≤ maxLen) (h0 : 0 ≤ a ∧ a ≤ (s.size : Int)) (c1 : gE s a 1 = 0) (k3 : gN s a 1 = 3) (hd : m + 1 + d = 8) (IH : ∀ a' W, 0 ≤ a' ∧ a' ≤ (s.size : Int) → Calls Tryd.prog 30 #[.string s, .int .i64 a', .int .i64 ((d : Int) + 1)] W fun e w' => Told (valR s m a') W.heap.size e w' ∧ Below W.heap.size W w') :
    Calls Tryd.prog 30 #[.string s, .int .i64 a, .int .i64 (d : Int)] w fun e w' => Told (valR s (m + 1) a) w.heap.size e w' ∧ Below w.heap.size w w' := by
  have hX := gX_range s a 1
  have hX2 := gX_range s (gX s a 1) 2
  have CN := hid (fun W => Wg.getRef s a 1 W hs (by omega) (by unfold maxLen at hs; omega))
  have CM := hid (fun W => Wg.getRef s (gX s a 1) 2 W hs (by omega) (by unfold maxLen at hs; omega))
  have c8 : ¬ (8 : Int) ≤ (d : Int) := by omega
  have e0 : valR s (m + 1) a = overL (listR s (valR s) (m + 1) (gX s a 1)) := by rw [valR_eq, if_neg (by omega), if_neg (by omega), if_neg (by omega), if_pos k3]
  rw [e0]
  rw [k3, c1] at CN
  clear e0 k3 c1
  generalize gX s a 1 = X at *
  by_cases c2 : gE s X 2 = 0
  · rw [c2] at CM
    obtain ⟨n0, n1, _, _⟩ := g_two c2
    by_cases c3 : 256 < gN s X 2
    · have e0 : listR s (valR s) (m + 1) X = .error 5 := by simp only [listR]; rw [if_neg (by omega), if_pos c3]
      rw [e0]
      generalize gN s X 2 = N at *
      generalize gX s X 2 = X2 at *
      clear e0 c2 hs h0 IH
      go_enter Tryd.func30, Tryd.ntmps30
      go_wp2_with fail
      refine (CN.out _).mono ?_
      rintro e w1 ⟨rfl, rfl⟩
      go_wp2_with fail
      refine (CM.out _).mono ?_
      rintro e w1 ⟨rfl, rfl⟩
      go_wp2_with fail
      exact bodyPost_ret (v := .tuple #[.agg #[.int .i64 0, .int .i64 0, .string ⟨#[]⟩, .slice none 0 0], .int .i64 0, .int .i64 5]) (by simp [results, Tryd.results30, go_sem]) rfl ⟨rfl, ((Below.refl _ _).alloc (Nat.le_refl _) _).alloc (by simp) _⟩
    · have e0 : listR s (valR s) (m + 1) X = rowR (valR s m) (gN s X 2).toNat (gX s X 2) := by simp only [listR]; rw [if_neg (by omega), if_neg c3]
      rw [e0]
      have eN : gN s X 2 = ((gN s X 2).toNat : Int) := by omega
      rw [eN] at CM
      have cN : (gN s X 2).toNat ≤ 256 := by omega
      generalize (gN s X 2).toNat = N at *
      generalize gX s X 2 = X2 at *
      have CV := hid IH
      have HV : Hid (∀ a x, valR s m a = .ok x → 0 ≤ x.2 ∧ x.2 ≤ (s.size : Int)) := fun a x h => valR_at h
      have HE : Hid (∀ a e, valR s m a = .error e → e ≠ 0) := fun a e h => valR_code h
      obtain ⟨T, hT⟩ : ∃ T, Hid (T = rowR (valR s m) N X2) := ⟨_, rfl⟩
      rw [← hT.out]
      clear hs h0 c2 IH e0 eN n0 n1 c3
      go_enter Tryd.func30, Tryd.ntmps30
      go_wp2_with fail
      refine (CN.out _).mono ?_
      rintro e w1 ⟨rfl, rfl⟩
      go_wp2_with fail
      refine (CM.out _).mono ?_
      rintro e w1 ⟨rfl, rfl⟩
      go_wp2_with fail
      obtain ⟨Y, hY⟩ : ∃ Y, Y = ((w.alloc (.cells #[.int .i64 0, .int .i64 0, .string ⟨#[]⟩, .slice none 0 0] 58)).alloc (.cells #[.int .i64 0, .int .i64 0, .string ⟨#[]⟩, .slice none 0 0] 58)).alloc (.cells #[.int .i64 2, .int .i64 0, .string ⟨#[]⟩, .slice none 0 0] 58) := ⟨_, rfl⟩
      rw [← hY]
      obtain ⟨y1, y2, y3, y4, y5⟩ := three _ _ _ _ Y hY
      have BY : Hid (Boxes w Y) := ⟨y1, y2, y5⟩
      have SY := hid (st1_nil y3 (show w.heap.size + 3 ≤ Y.heap.size by omega))
      clear hY y1 y2 y3 y4 y5
      go_loopw [24, 27] (fun qv iv wr => ∃ (i : Nat) (at_ : Int) (pre : F) (S : Nat → Prop) (p : Option Addr) (cap : Nat) (xs : List Value), iv = .int .u64 (i : Int) ∧ qv = .int .i64 at_ ∧ i ≤ N ∧ Hid (pre.len = i) ∧ Hid (T = front pre (rowR (valR s m) (N - i) at_)) ∧ Hid (0 ≤ at_ ∧ at_ ≤ (s.size : Int)) ∧ Hid (Boxes w wr) ∧ Hid (St1 58 (w.heap.size + 3) (w.heap.size + 1 + 1) pre S p cap xs wr)) (fun _ i _ => N - (intOf i).toNat)
      case atStart => exact ⟨0, X2, .nil, _, none, 0, [], rfl, rfl, Nat.zero_le _, rfl, by show _ = _; rw [front_nil]; exact hT.out, hX2, BY, SY⟩
      case round =>
        obtain ⟨i, at_, pre, S, p, cap, xs, rfl, rfl, hi, hpl, he, hat, hB, hS⟩ := hrel
        by_cases hlti : i < N
        · have I0 : (0 : Int) ≤ (i : Int) := by omega
          have I1 : (i : Int) < (N : Int) := by omega
          obtain ⟨q, hq⟩ : ∃ q, Hid (q = valR s m at_) := ⟨_, rfl⟩
          have CC : Hid (Calls Tryd.prog 30 #[.string s, .int .i64 at_, .int .i64 ((d : Int) + 1)] wr fun e w' => Told q wr.heap.size e w' ∧ Below wr.heap.size wr w') := by rw [hq.out]; exact CV.out at_ wr hat.out
          have hNi : N - i = (N - (i + 1)) + 1 := by omega
          have EF := hid he.out
          rw [hNi] at EF
          clear hNi
          go_wp2_with fail
          refine CC.out.mono ?_
          rintro e w2 ⟨h2, b2⟩
          have B2 := hid (hB.out.below b2)
          cases q with
          | error c =>
            have h2' : e = .returned (.tuple #[.agg #[.int .i64 0, .int .i64 0, .string ⟨#[]⟩, .slice none 0 0], .int .i64 0, .int .i64 c]) := h2
            clear h2
            subst h2'
            have e1 : Hid (T = .error c) := EF.out.trans (front_err hq.out.symm)
            have hc : (c != 0) = true := by simpa using HE.out _ _ hq.out.symm
            have BA : ∀ o, Boxes w (w2.alloc o) := fun o => B2.out.below ((Below.refl _ _).alloc (Nat.le_refl _) _)
            have x0 := fun o => (BA o).cells.1
            have x1 := fun o => (BA o).cells.2.1
            have x2 := fun o => (BA o).cells.2.2.1
            have x3 := fun o => (BA o).cells.2.2.2.1
            have y0 := fun o => (BA o).cells.2.2.2.2.1
            have y1 := fun o => (BA o).cells.2.2.2.2.2.1
            have y2 := fun o => (BA o).cells.2.2.2.2.2.2.1
            have y3 := fun o => (BA o).cells.2.2.2.2.2.2.2.1
            have xf := fun o => (BA o).cells.2.2.2.2.2.2.2.2.1
            have KA := hid BA
            clear BA
            go_wp2_with fail
            exact bodyPost_ret (v := .tuple #[.agg #[.int .i64 0, .int .i64 0, .string ⟨#[]⟩, .slice none 0 0], .int .i64 0, .int .i64 c]) (by simp [results, Tryd.results30, go_sem, x0, x1, x2, x3]) rfl ⟨by rw [e1.out]; rfl, (KA.out _).done (.int .i64 0) (.int .i64 0) (.string ⟨#[]⟩) (.slice none 0 0)⟩
          | ok x =>
            obtain ⟨p1, c1, h3, h4⟩ := h2
            subst h3
            have L2 := hid h4
            clear h4
            have hv2 := (b2.block _ (lt_of_heap hS.out.1)).trans hS.out.1
            have lv2 := lt_of_heap hv2
            have v3 : ∀ o, (w2.alloc o).cell? ⟨w.heap.size + 1 + 1, 3, none⟩ = some (.slice p pre.len cap) := fun o => by
              have h := (Below.heap_alloc w2 o _ lv2).trans hv2
              simp [World.cell?, h]
            clear hv2
            obtain ⟨i1, hi1, hz1, hs1, hb1⟩ := info_parts infoR
            obtain ⟨S', hS1, R1, xb, sx, sz, gx⟩ := joined1 (k := x.1.k) (n := x.1.n) (s := x.1.s) hS.out (grown_below b2) L2.out rfl
            have KS := hid hS1
            have KR := hid R1
            have hx0 := HV.out _ _ hq.out.symm
            have hpl' : pre.len ≤ 256 := by have := hpl.out; omega
            have IX := hid (hS1.2.1.grow (grown1 (w2.alloc (.cells #[.int .i64 x.1.k, .int .i64 x.1.n, .string x.1.s, .slice p1 x.1.l.len c1] 58)) (.cells #[.int .i64 x.1.k, .int .i64 x.1.n, .string x.1.s, .slice p1 x.1.l.len c1] 58)))
            have NW := hid (World.news_of_block (cs := #[.int .i64 x.1.k, .int .i64 x.1.n, .string x.1.s, .slice p1 x.1.l.len c1]) (t := 58) (fr := (0, 0)) (heap_alloc_new (w2.alloc (.cells #[.int .i64 x.1.k, .int .i64 x.1.n, .string x.1.s, .slice p1 x.1.l.len c1] 58)) (.cells #[.int .i64 x.1.k, .int .i64 x.1.n, .string x.1.s, .slice p1 x.1.l.len c1] 58)))
            rw [sz] at NW
            clear hS1 R1 xb sx gx
            go_wp2_with (first
              | (at_builtin; refine wpList_append_lies _ rfl _ _ _ rfl (w.heap.size + 3) 58 i1 _ 4 56 Tryd.underlying56 hi1 hz1 hs1 hb1 rfl (by omega) (.slice p pre.len cap) pre.len xs rfl IX.out.own1 ⟨w2.heap.size + 1, 0, none⟩ 1 1 [.int .i64 x.1.k, .int .i64 x.1.n, .string x.1.s, .slice p1 x.1.l.len c1] rfl rfl NW.out (by simp [Value.oneCell']) (by omega) (by unfold maxLen; omega) (by omega) IX.out.here _ rfl ?_; intro j1 t1 Y1 o1 g1 at1 _; have F1 := hid ((far_grow (grown1 (w2.alloc (.cells #[.int .i64 x.1.k, .int .i64 x.1.n, .string x.1.s, .slice p1 x.1.l.len c1] 58)) (.cells #[.int .i64 x.1.k, .int .i64 x.1.n, .string x.1.s, .slice p1 x.1.l.len c1] 58))).trans (far_one IX.out g1)); have J1 := hid (IX.out.one o1 g1 at1); have r8 := (F1.out.stay _ (lt_of_heap KS.out.1) (.inl (by omega))).trans KS.out.1; have v8 : Y1.cell? ⟨w.heap.size + 1 + 1, 3, none⟩ = some (.slice p pre.len cap) := (by simp [World.cell?, r8]); have z8 := frozen_there r8 3; clear r8 o1 g1 at1)
              | go_in)
            go_roundw
            case rel =>
              refine ⟨i + 1, x.2, pre.app (.cons x.1.k x.1.n x.1.s x.1.l .nil), S', some ⟨j1, 0, none⟩, t1, xs ++ [.int .i64 x.1.k, .int .i64 x.1.n, .string x.1.s, .slice p1 x.1.l.len c1], by go_num, rfl, by omega, ?_, ?_, hx0, ?_, ?_⟩
              · show _ = _
                rw [F.len_app, hpl.out]; rfl
              · show _ = _
                rw [EF.out, front_ok hq.out.symm]
              · exact (B2.out.below ((Below.refl _ _).alloc (Nat.le_refl _) _)).far F1.out _
              · exact ended1 (by omega) KS.out KR.out F1.out J1.out
            case measure => simp [intOf]; omega
        · have hiN : i = N := by omega
          subst hiN
          have e1 := he.out
          rw [Nat.sub_self] at e1
          have e2 : Hid (T = .ok (pre, at_)) := by show _ = _; rw [e1]; simp [rowR, front, F.app_nil]
          clear e1
          obtain ⟨x0, x1, x2, x3, y0, y1, y2, y3, xf, xl⟩ := hB.out.cells
          have v0 : wr.cell? ⟨w.heap.size + 1 + 1, 0, none⟩ = some (.int .i64 2) := by have := hS.out.1; simp [World.cell?, this]
          have v1 : wr.cell? ⟨w.heap.size + 1 + 1, 1, none⟩ = some (.int .i64 0) := by have := hS.out.1; simp [World.cell?, this]
          have v2 : wr.cell? ⟨w.heap.size + 1 + 1, 2, none⟩ = some (.string ⟨#[]⟩) := by have := hS.out.1; simp [World.cell?, this]
          have v3 : wr.cell? ⟨w.heap.size + 1 + 1, 3, none⟩ = some (.slice p pre.len cap) := by have := hS.out.1; simp [World.cell?, this]
          go_wp2_with fail
          have hR : Rd (put4 wr w.heap.size 0 (.int .i64 2) (.int .i64 0) (.string ⟨#[]⟩) (.slice p pre.len cap)) (fun g => w.heap.size ≤ g) (.slice p pre.len cap) pre := by
            have h1 : Rd wr (fun g => w.heap.size + 3 ≤ g) (.slice p pre.len cap) pre := rd_own hS.out.2.1.own1 hS.out.2.2 (fun g hg => (hS.out.2.1.kids g hg).1) (fun g hg => hg)
            exact rd_of (fun g hg => by omega) (fun g hg o ho => (put4_other (by omega)).trans ho) h1
          exact bodyPost_ret (v := .tuple #[.agg #[.int .i64 2, .int .i64 0, .string ⟨#[]⟩, .slice p pre.len cap], .int .i64 at_, .int .i64 0]) (by simp [results, Tryd.results30, go_sem, x0, x1, x2, x3]) rfl ⟨by rw [e2.out]; exact ⟨p, cap, rfl, hR⟩, hB.out.done (.int .i64 2) (.int .i64 0) (.string ⟨#[]⟩) (.slice p pre.len cap)⟩
  · have e0 : listR s (valR s) (m + 1) X = .error (gE s X 2) := by simp only [listR]; rw [if_pos c2]
    rw [e0]
    generalize gN s X 2 = N at *
    generalize gE s X 2 = E at *
    generalize gX s X 2 = X2 at *
    clear e0 hs h0 IH
    go_enter Tryd.func30, Tryd.ntmps30
    go_wp2_with fail
    refine (CN.out _).mono ?_
    rintro e w1 ⟨rfl, rfl⟩
    go_wp2_with fail
    refine (CM.out _).mono ?_
    rintro e w1 ⟨rfl, rfl⟩
    go_wp2_with fail
    exact bodyPost_ret (v := .tuple #[.agg #[.int .i64 0, .int .i64 0, .string ⟨#[]⟩, .slice none 0 0], .int .i64 0, .int .i64 E]) (by simp [results, Tryd.results30, go_sem]) rfl ⟨rfl, ((Below.refl _ _).alloc (Nat.le_refl _) _).alloc (by simp) _⟩

end Go.Proofs.YtkelipedpjmmaaaDoor.Wr
