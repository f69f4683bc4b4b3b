/-
  The walk of the law GraphNames: it returns true, and nothing that was in memory has turned. Conditions: none but that the law's workflow lies in memory as such do.
-/
import Derived.Test.YtdhghjfenkjeaaaGpL
import Derived.Test.YtdhghjfenkjeaaaGpT
namespace Go.Proofs.Ytdhghjfenkjeaaa.Wgo
open Go.ChangeShapes Go.WideShapes Go.ChangeAt Go.RowKit Go.Proofs.Ytdhghjfenkjeaaa.M Go.Proofs.Ytdhghjfenkjeaaa.Wgp Go.Proofs.Ytdhghjfenkjeaaa.Wgv Go.Proofs.Ytdhghjfenkjeaaa.Wgf Go.Proofs.Ytdhghjfenkjeaaa.Wgl

theorem re_ok {q : Nat} {x : Nd} (h : NdOk x) : NdOk (reN q x) := by
  obtain ⟨h1, h2, h3, h4, h5, h6, h7⟩ := h
  refine ⟨by show (tS q x.name).size ≤ _; rw [tS_size]; exact h1, h2, fun s hs => ?_, by show (x.deps.map (tS q)).length ≤ 400; rw [List.length_map]; exact h4, h5, h6, h7⟩
  obtain ⟨d, hd, rfl⟩ := List.mem_map.1 hs
  rw [tS_size]
  exact h3 d hd

/-- The workflow under way: its head in block C, its nodes in a row of its own. -/
def G1 (base C : Nat) (nm : ByteArray) (N : List Nd) (X : World) : Prop := ∃ (S : Nat → Prop) (q : Option Addr) (d : Nat) (xs : List Value),
  X.heap[C]? = some (.cells #[.string nm, .slice q N.length d] 27 (0, 0)) ∧ X.ownsRow base 64 6 (.slice q N.length d) N.length xs ∧ NF X S N xs ∧ (∀ g, S g → base ≤ g ∧ g < X.heap.size ∧ (Value.slice q N.length d).ownBlock ≠ some g) ∧ base ≤ X.heap.size
theorem g_mid {base C : Nat} {nm : ByteArray} {N : List Nd} {wr X : World} (h : G1 base C nm N wr) (g : wr.grownBy X none) : ∃ (S : Nat → Prop) (q : Option Addr) (d : Nat) (xs : List Value),
    X.heap[C]? = some (.cells #[.string nm, .slice q N.length d] 27 (0, 0)) ∧ X.ownsRow base 64 6 (.slice q N.length d) N.length xs ∧ NF X S N xs ∧ (∀ g, S g → base ≤ g ∧ g < X.heap.size ∧ (Value.slice q N.length d).ownBlock ≠ some g) ∧ (∀ x, wr.heap.size ≤ x → x < X.heap.size → S x) ∧ base ≤ X.heap.size := by
  obtain ⟨S, q, d, xs, h1, h2, h3, h4, h5⟩ := h
  have hz := g.size
  refine ⟨fun x => S x ∨ (wr.heap.size ≤ x ∧ x < X.heap.size), q, d, xs, (g.block C (lt_of_heap h1) (by simp)).trans h1, h2.kept g (by cases hv : (Value.slice q N.length d).ownBlock <;> simp), h3.far (fun _ h => .inl h) hz (fun x _ hl => g.block x hl (by simp)), ?_, fun x a b => .inr ⟨a, b⟩, by omega⟩
  rintro x (hx | ⟨hx1, hx2⟩)
  · obtain ⟨a, b, c⟩ := h4 x hx
    exact ⟨a, by omega, c⟩
  · refine ⟨by omega, hx2, fun e => ?_⟩
    have := (h2.lt x e).2
    omega
theorem g_end {base C g t d ec : Nat} {nm : ByteArray} {N : List Nd} {y : Nd} {S : Nat → Prop} {q ea : Option Addr} {xs : List Value} {X X' Y : World} (lC : C < base)
    (a1 : X.heap[C]? = some (.cells #[.string nm, .slice q N.length d] 27 (0, 0))) (own : X.ownsRow base 64 6 (.slice q N.length d) N.length xs) (hN : NF X S N xs) (hk : ∀ g, S g → base ≤ g ∧ g < X.heap.size ∧ (Value.slice q N.length d).ownBlock ≠ some g) (hD : DpS X S y ea ec) (hX : base ≤ X.heap.size)
    (gX : X.grownBy X' none) (o1 : Y.ownsRow base 64 6 (.slice (some ⟨g, 0, none⟩) (N.length + 1) t) (N.length + 1) (xs ++ [.string y.name, .slice ea y.deps.length ec, .int .i64 y.tries, .int .i64 y.lease, .int .i64 y.tenant, .string y.flow])) (g1 : X'.grownBy Y (Value.slice q N.length d).ownBlock) (at1 : (Value.slice q N.length d).ownBlock = some g ∨ g = X'.heap.size) :
    G1 base C nm (N ++ [y]) (Y.setCell ⟨C, 1, none⟩ (.slice (some ⟨g, 0, none⟩) (N.length + 1) t)) ∧ (∀ j, j < base → j ≠ C → (Y.setCell ⟨C, 1, none⟩ (.slice (some ⟨g, 0, none⟩) (N.length + 1) t)).heap[j]? = X.heap[j]?) ∧ X.heap.size ≤ (Y.setCell ⟨C, 1, none⟩ (.slice (some ⟨g, 0, none⟩) (N.length + 1) t)).heap.size ∧ (Y.setCell ⟨C, 1, none⟩ (.slice (some ⟨g, 0, none⟩) (N.length + 1) t)).os = X.os ∧ (Y.setCell ⟨C, 1, none⟩ (.slice (some ⟨g, 0, none⟩) (N.length + 1) t)).tape = X.tape ∧ (Y.setCell ⟨C, 1, none⟩ (.slice (some ⟨g, 0, none⟩) (N.length + 1) t)).output = X.output := by
  have zX := gX.size
  have zY := g1.size
  have hsz : (Y.setCell ⟨C, 1, none⟩ (.slice (some ⟨g, 0, none⟩) (N.length + 1) t)).heap.size = Y.heap.size := by simp [World.setCell]
  have hlow : ∀ j, j < base → Y.heap[j]? = X.heap[j]? := fun j hj => (g1.block j (by omega) (fun e => by have := (own.lt j e.symm).1; omega)).trans (gX.block j (by omega) (by simp))
  have hkid : ∀ j, S j → Y.heap[j]? = X.heap[j]? := fun j hj => (g1.block j (by have := (hk j hj).2.1; omega) (fun e => (hk j hj).2.2 e.symm)).trans (gX.block j (hk j hj).2.1 (by simp))
  have yC := (hlow C lC).trans a1
  have zC := heap_set1 yC 1 (.slice (some ⟨g, 0, none⟩) (N.length + 1) t)
  have hoth : ∀ j, j ≠ C → (Y.setCell ⟨C, 1, none⟩ (.slice (some ⟨g, 0, none⟩) (N.length + 1) t)).heap[j]? = Y.heap[j]? := fun j hj => Below.heap_setCell _ _ _ _ hj
  have hos : (Y.setCell ⟨C, 1, none⟩ (.slice (some ⟨g, 0, none⟩) (N.length + 1) t)).os = X.os := (show Y.os = X.os from g1.os.trans gX.os)
  have hta : (Y.setCell ⟨C, 1, none⟩ (.slice (some ⟨g, 0, none⟩) (N.length + 1) t)).tape = X.tape := (show Y.tape = X.tape from g1.tape.trans gX.tape)
  have hou : (Y.setCell ⟨C, 1, none⟩ (.slice (some ⟨g, 0, none⟩) (N.length + 1) t)).output = X.output := (show Y.output = X.output from g1.output.trans gX.output)
  generalize Y.setCell ⟨C, 1, none⟩ (.slice (some ⟨g, 0, none⟩) (N.length + 1) t) = Z at *
  have hlen : (N ++ [y]).length = N.length + 1 := by simp
  have hkZ : ∀ j, S j → j < X.heap.size → Z.heap[j]? = X.heap[j]? := fun j hj _ => (hoth j (by have := (hk j hj).1; omega)).trans (hkid j hj)
  refine ⟨⟨S, some ⟨g, 0, none⟩, t, _, by rw [hlen, zC]; simp, ?_, NF.snoc (hD.far (fun _ h => h) (by omega) hkZ) (hN.far (fun _ h => h) (by omega) hkZ), ?_, by omega⟩, fun j h1 h2 => (hoth j h2).trans (hlow j h1), by omega, hos, hta, hou⟩
  · rw [hlen]
    refine ⟨o1.1, ?_⟩
    rcases o1.2 with h2 | ⟨gg, cap, cur, h1, h2, h3, h4⟩
    · exact .inl h2
    · exact .inr ⟨gg, cap, cur, h1, h2, (hoth gg (by omega)).trans h3, h4⟩
  · intro x hx
    obtain ⟨a, b, c⟩ := hk x hx
    refine ⟨a, by omega, ?_⟩
    show some g ≠ some x
    rcases at1 with e | e
    · rw [← e]; exact c
    · intro e2; injection e2 with e2; omega

/-- What else lies there. -/
def EN (w1 : World) (nm : ByteArray) (v : Value) (wr : World) : Prop := Below w1.heap.size w1 wr ∧ F2 wr w1.heap.size nm v ∧ w1.heap.size + 3 ≤ wr.heap.size

theorem EN.grow {w1 X Y : World} {nm : ByteArray} {v : Value} (h : EN w1 nm v X) (g : X.grownBy Y none) : EN w1 nm v Y := by
  obtain ⟨h1, h2, h3⟩ := h
  have hz := g.size
  exact ⟨h1.trans ((below_grown g).mono h1.size), h2.below (by omega) (below_grown g), by omega⟩
theorem EN.end {w1 X Z : World} {nm : ByteArray} {v : Value} (h : EN w1 nm v X) (hj : ∀ j, j < w1.heap.size + 3 → j ≠ w1.heap.size + 2 → Z.heap[j]? = X.heap[j]?) (hz : X.heap.size ≤ Z.heap.size) (ho : Z.os = X.os) (ht : Z.tape = X.tape) (hu : Z.output = X.output) : EN w1 nm v Z := by
  obtain ⟨h1, h2, h3⟩ := h
  refine ⟨⟨ho.trans h1.os, ht.trans h1.tape, hu.trans h1.output, by omega, fun j hj1 => (hj j (by omega) (by omega)).trans (h1.block j hj1)⟩, ⟨?_, ?_⟩, by omega⟩
  · exact (World.cell?_of_block (a := ⟨w1.heap.size, 0, none⟩) (hj w1.heap.size (by omega) (by omega))).trans h2.1
  · exact (World.cell?_of_block (a := ⟨w1.heap.size, 1, none⟩) (hj w1.heap.size (by omega) (by omega))).trans h2.2

set_option maxRecDepth 100000 in
set_option maxHeartbeats 16000000 in
theorem namesL (nm : ByteArray) (a : Option Addr) (L : List Nd) (c : Nat) (by_ : Int) (w : World) (hn : nm.size ≤ 140737488355328) (hc : L.length ≤ c) (hcm : c ≤ maxLen) (hV : Vs w a L) (b1 : -9223372036854775808 ≤ by_) (b2 : by_ < 9223372036854775808) :
    Calls Try.prog 7 #[.agg #[.string nm, .slice a L.length c], .int .i64 by_] w fun e w' => e = .returned (.bool true) ∧ Below w.heap.size w w' := by
  obtain ⟨q, hq⟩ : ∃ q : Nat, (max 0 by_).tmod 26 = (q : Int) := ⟨((max 0 by_).tmod 26).toNat, by have := Int.tmod_nonneg 26 (show 0 ≤ max 0 by_ by omega); omega⟩
  have hq2 : q < 26 := by have := Int.tmod_lt_of_pos (max 0 by_) (show (0 : Int) < 26 by decide); omega
  have A0 := hid (al2 w (.cells #[.string nm, .slice a L.length c] 24) (.cells #[.int .i64 by_] 3))
  have KP := hid (show ((w.alloc (.cells #[.string nm, .slice a L.length c] 24)).alloc (.cells #[.int .i64 by_] 3)).cell? ⟨w.heap.size + 1, 0, none⟩ = some (.int .i64 by_) by simp [go_sem])
  have CF := hid (flows (c := c) nm (vs_below hV A0.out) hc hcm)
  have CT := hid fun (W : World) (s : ByteArray) (hs : s.size ≤ 140737488355328) (hP : W.cell? ⟨w.heap.size + 1, 0, none⟩ = some (.int .i64 by_)) => Wgt.turn (w := W) (w.heap.size + 1) by_ q s hs hq hq2 hP
  have HO := hid (cut_ok hV.1)
  have HL := hid (cut_len L)
  have WK := hid wakes
  obtain ⟨i1, hi1, hz1, hs1, hb1⟩ := info_parts infoN
  obtain ⟨i0, hi0, hz0, hs0, hb0⟩ := info_parts infoS
  clear hV hq b1 b2
  go_enter Try.func7, Try.ntmps7
  go_wp2_with fail
  refine CF.out.mono ?_
  intro e w1 h1
  unfold FlP at h1
  generalize cutL L = M at h1 HO HL
  obtain ⟨q1, q2, d1, d2, rfl, n1, _, m1, _, bb1⟩ := h1
  have z1 : w.heap.size + 1 < w1.heap.size := by have := bb1.size; simp at this; omega
  have KP1 := hid ((bb1.cell (p := ⟨w.heap.size + 1, 0, none⟩) (by simp)).trans KP.out)
  have A1 := hid (A0.out.trans (bb1.mono (by simp; omega)))
  have NS := hid n1
  have hl := HL.out
  clear CF bb1 A0 KP n1 HL
  go_wp2_with fail
  go_loopw [33] (fun iv wr => ∃ i : Nat, i ≤ M.length ∧ iv = .int .i64 (i : Int) ∧ Hid (EN w1 nm (.slice q1 M.length d1) wr) ∧ Hid (G1 (w1.heap.size + 3) (w1.heap.size + 2) nm ((M.take i).map (reN q)) wr)) (fun iv _ => M.length - (intOf iv).toNat)
  case atStart =>
    refine ⟨0, Nat.zero_le _, rfl, hid ?_, hid ?_⟩
    · obtain ⟨f1, f2, zX, bX⟩ := two_boxes 27 30 nm q1 q2 M.length d1 d2 _ rfl
      refine ⟨bX.alloc bX.size _, f1.below (by rw [zX]; omega) (al _ _), by simp⟩
    · refine ⟨fun _ => False, none, 0, [], ?_, World.ownsRow_nil _ _ _ _, rfl, fun _ h => h.elim, by simp⟩
      have h := heap_alloc_new ((w1.alloc (.cells #[.string nm, .slice q1 M.length d1] 27)).alloc (.cells #[.string nm, .slice q2 M.length d2] 30)) (.cells #[.string nm, .slice none 0 0] 27)
      simp only [World.size_alloc] at h
      exact h
  case round =>
    obtain ⟨i, hi, rfl, hE, hG⟩ := hrel
    by_cases ci : i < M.length
    · obtain ⟨x, hx⟩ : ∃ x, M[i]? = some x := ⟨M[i], List.getElem?_eq_getElem ci⟩
      obtain ⟨g, da, dc, rfl, hg, N, hdl, hdm, HS⟩ := NS.out.at hx
      obtain ⟨y0, y1, y2, y3, y4, y5⟩ := N.below hg hE.out.1
      have hxok := HO.out x (List.mem_of_getElem? hx)
      have hsn : Hid ((M.take (i + 1)).map (reN q) = (M.take i).map (reN q) ++ [reN q x]) := hid (by rw [List.take_add_one, hx]; simp)
      obtain ⟨s0, ds0, t0, l0, e0, fl0⟩ := x
      simp only at y0 y1 y2 y3 y4 y5 hdl
      have KPr := hid ((hE.out.1.cell (p := ⟨w.heap.size + 1, 0, none⟩) z1).trans KP1.out)
      have zr := hE.out.2.2
      have hd4 : ds0.length ≤ 400 := hxok.2.2.2.1
      have hds : ∀ s ∈ ds0, s.size ≤ 140737488355328 := hxok.2.2.1
      have hn0 : s0.size ≤ 140737488355328 := hxok.1
      have HSr := hid (HS.below hE.out.1)
      have HDS := hid hds
      have Xa := hid (grown1 wr (.cells #[.string s0, .slice da ds0.length dc, .int .i64 t0, .int .i64 l0, .int .i64 e0, .string fl0] 64))
      have nb := hid (heap_alloc_new wr (.cells #[.string s0, .slice da ds0.length dc, .int .i64 t0, .int .i64 l0, .int .i64 e0, .string fl0] 64))
      have C1 := hid (CT.out (wr.alloc (.cells #[.string s0, .slice da ds0.length dc, .int .i64 t0, .int .i64 l0, .int .i64 e0, .string fl0] 64)) s0 hn0 (((below_grown Xa.out).cell (p := ⟨w.heap.size + 1, 0, none⟩) (show w.heap.size + 1 < wr.heap.size by omega)).trans KPr.out))
      clear hx hxok N hds HS hdm hdl
      go_wp2_with fail
      refine C1.out.mono ?_
      rintro e w2 ⟨rfl, bt⟩
      have z2 : wr.heap.size < w2.heap.size := by have := bt.size; simp at this; omega
      have nb2 := (bt.block wr.heap.size (by simp)).trans nb.out
      have nc0 := cell_there nb2 (j := 0) (by simp)
      have nc1 := cell_there nb2 (j := 1) (by simp)
      have nf := frozen_there nb2
      have G2 := hid (show wr.grownBy w2 none from grown_trans Xa.out (grown_below bt))
      have NB2 := hid nb2
      clear C1 nb Xa bt y0 y1 y2 y3 y4 y5 nb2
      simp only [List.getElem_toArray, List.getElem_cons_zero, List.getElem_cons_succ] at nc0 nc1
      go_wp2_with fail
      obtain ⟨X1, hX1⟩ : ∃ X1, X1 = w2.setCell ⟨wr.heap.size, 0, none⟩ (.string (tS q s0)) := ⟨_, rfl⟩
      rw [← hX1]
      have zX1 : X1.heap.size = w2.heap.size := by rw [hX1]; simp [World.setCell]
      have GX := hid (show wr.grownBy X1 none from by
        rw [hX1]
        exact ⟨G2.out.os, G2.out.tape, G2.out.output, by have := G2.out.size; simpa [World.setCell] using this, fun k hk _ => (Below.heap_setCell _ _ _ _ (by show k ≠ wr.heap.size; omega)).trans (G2.out.block k hk (by simp))⟩)
      have NBX : Hid (X1.heap[wr.heap.size]? = some (.cells #[.string (tS q s0), .slice da ds0.length dc, .int .i64 t0, .int .i64 l0, .int .i64 e0, .string fl0] 64 (0, 0))) := hid (by rw [hX1, heap_set1 NB2.out 0 _]; simp)
      have KPX := hid (((below_grown GX.out).cell (p := ⟨w.heap.size + 1, 0, none⟩) (show w.heap.size + 1 < wr.heap.size by omega)).trans KPr.out)
      have HSX := hid (HSr.out.below (below_grown GX.out))
      have own0 := World.ownsRow_lit (base := w2.heap.size) (e := 9) (size := 1) X1 #[] 0 (by omega) (by unfold maxLen; omega) rfl
      rw [zX1] at own0
      have BX0 : Below w2.heap.size X1 (X1.alloc (.cells #[] 9)) := (Below.refl _ _).alloc (by omega) _
      clear hX1 nc0 nc1 nf G2 NB2
      go_loopw [11, 46] (fun v jv wi => ∃ j : Nat, j ≤ ds0.length ∧ jv = .int .i64 (j : Int) ∧ wi.ownsRow w2.heap.size 9 1 v j (((ds0.take j).map (tS q)).map Value.string) ∧ Below w2.heap.size X1 wi) (fun _ jv _ => ds0.length - (intOf jv).toNat)
      case atStart => exact ⟨0, Nat.zero_le _, rfl, own0, BX0⟩
      case round =>
        clear own0 BX0
        rename World => wi
        obtain ⟨j, hj, rfl, own, hbi⟩ := hrel
        have zi : w2.heap.size ≤ wi.heap.size := by have := hbi.size; omega
        by_cases cj : j < ds0.length
        · obtain ⟨d, hd⟩ : ∃ d, ds0[j]? = some d := ⟨ds0[j], List.getElem?_eq_getElem cj⟩
          obtain ⟨gd, e, hgd, yd⟩ := HSX.out.at hd
          subst e
          have y0 := (hbi.cell (p := ⟨gd, j, none⟩) (show gd < w2.heap.size by omega)).trans yd
          have C2 := hid (CT.out wi d (HDS.out d (List.mem_of_getElem? hd)) ((hbi.cell (p := ⟨w.heap.size + 1, 0, none⟩) (show w.heap.size + 1 < w2.heap.size by omega)).trans KPX.out))
          have hts : Hid (((ds0.take (j + 1)).map (tS q)).map Value.string = ((ds0.take j).map (tS q)).map Value.string ++ [.string (tS q d)]) := hid (by rw [List.take_add_one, hd]; simp)
          clear hd yd CT HSX
          go_wp2_with fail
          refine C2.out.mono ?_
          rintro e w3 ⟨rfl, b3⟩
          have own3 := own_below own b3
          have hb3 := hbi.trans (b3.mono zi)
          have z3 : w2.heap.size ≤ w3.heap.size := by have := b3.size; omega
          have lo := fun k hk => (own3.lt k hk).1
          clear own C2 b3 y0
          go_wp2_with (first | (at_builtin; refine wpList_append_own _ rfl _ _ 62 rfl w2.heap.size 9 i0 (.string ⟨#[]⟩) 1 16 Try.underlying62 hi0 hz0 hs0 hb0 rfl (by decide) _ _ _ rfl (own3.alloc _) ⟨w3.heap.size, 0, none⟩ 1 1 [.string (tS q d)] rfl rfl (cell_one_new _ _ _) (fun u hu => by simp at hu; subst hu; rfl) (by unfold maxLen; omega) (by omega) (by simp; omega) ?_; intro v4 w4 o4 g4 n4; go_frame))
          have b4 : Below w2.heap.size X1 w4 := (hb3.alloc z3 _).grown g4 (by simp; omega) lo
          go_roundw
          case rel => exact ⟨j + 1, cj, by go_num, by rw [hts.out]; exact o4, b4⟩
          case measure => simp [intOf]; omega
        · have ej : j = ds0.length := by omega
          subst ej
          rw [List.take_length] at own
          obtain ⟨ea, ec, rfl, k3, k4, k5⟩ := own_ss (l := ds0.map (tS q)) own (by simp) rfl
          obtain ⟨ds, hdsE⟩ : ∃ ds, Hid (ds = ds0.map (tS q)) := ⟨_, rfl⟩
          rw [← hdsE.out] at k3 k5
          have hdl : ds.length = ds0.length := by rw [hdsE.out, List.length_map]
          have hbn : wr.heap.size < w2.heap.size := z2
          have NI := hid ((hbi.block wr.heap.size (by omega)).trans NBX.out)
          have gI := hid (grown_trans GX.out ⟨hbi.os, hbi.tape, hbi.output, hbi.size, fun k hk _ => hbi.block k (by omega)⟩)
          obtain ⟨Z, hZ⟩ : ∃ Z, Z = wi.setCell ⟨wr.heap.size, 1, none⟩ (.slice ea ds.length ec) := ⟨_, rfl⟩
          have zZ : Z.heap.size = wi.heap.size := by rw [hZ]; simp [World.setCell]
          have gZ := hid (show wr.grownBy Z none from by
            rw [hZ]
            exact ⟨gI.out.os, gI.out.tape, gI.out.output, by have := gI.out.size; simpa [World.setCell] using this, fun k hk _ => (Below.heap_setCell _ _ _ _ (by show k ≠ wr.heap.size; omega)).trans (gI.out.block k hk (by simp))⟩)
          obtain ⟨N, hNe⟩ : ∃ N, Hid (N = (M.take i).map (reN q)) := ⟨_, rfl⟩
          have hG' := hG.out
          rw [← hNe.out] at hG'
          obtain ⟨S, qq, dd, xs, u1, u2, u3, u4, u5, u6⟩ := g_mid hG' gZ.out
          have NZ : Hid (Z.heap[wr.heap.size]? = some (.cells #[.string (tS q s0), .slice ea ds.length ec, .int .i64 t0, .int .i64 l0, .int .i64 e0, .string fl0] 64 (0, 0))) := hid (by rw [hZ, heap_set1 NI.out 1 _]; simp)
          have hD : Hid (DpS Z S ⟨tS q s0, ds, t0, l0, e0, fl0⟩ ea ec) := hid (by
            refine ⟨k3, k4, ?_⟩
            rcases k5 with k5 | ⟨g5, v1, v2, v3, v4⟩
            · exact .inl k5
            · exact .inr ⟨g5, v1, u5 g5 (by omega) (by omega), by omega, fun m s hs => by
                rw [hZ]
                exact (World.cell?_of_block (a := ⟨g5, m, none⟩) (Below.heap_setCell _ _ _ _ (by show g5 ≠ wr.heap.size; omega))).trans (v4 m s hs)⟩)
          have hN20 : N.length ≤ 20 := by rw [hNe.out, List.length_map, List.length_take]; omega
          have hN : Hid ((M.take i).map (reN q) ++ [⟨tS q s0, ds, t0, l0, e0, fl0⟩] = (M.take (i + 1)).map (reN q)) := hid (by rw [hsn.out, hdsE.out]; rfl)
          have UC := hid u1
          have KN := hid u3
          have KS := hid u4
          have UZ := hid u2
          have EZ := hid (hE.out.grow gZ.out)
          have c0 := cell_there NI.out (j := 0) (by simp)
          have c1 := cell_there NI.out (j := 1) (by simp)
          have c2 := cell_there NI.out (j := 2) (by simp)
          have c3 := cell_there NI.out (j := 3) (by simp)
          have c4 := cell_there NI.out (j := 4) (by simp)
          have c5 := cell_there NI.out (j := 5) (by simp)
          have cf := frozen_there NI.out
          simp only [List.getElem_toArray, List.getElem_cons_zero, List.getElem_cons_succ] at c0 c1 c2 c3 c4 c5
          have hw3 : w1.heap.size + 2 < wr.heap.size := by omega
          have ne1 : ¬ wr.heap.size = w1.heap.size + 2 := by omega
          have ne2 : ¬ w1.heap.size + 2 = wr.heap.size := by omega
          have uC0 : wi.heap[w1.heap.size + 2]? = Z.heap[w1.heap.size + 2]? := by rw [hZ]; exact (Below.heap_setCell _ _ _ _ ne2).symm
          have uC := uC0.trans u1
          have d1' : wi.cell? ⟨w1.heap.size + 1 + 1, 1, none⟩ = some (.slice qq N.length dd) := by simp [World.cell?, uC]
          have ne3 : ¬ wr.heap.size = w1.heap.size + 1 + 1 := by omega
          have ne4 : ¬ w1.heap.size + 1 + 1 = wr.heap.size := by omega
          have lwr : wr.heap.size < wi.heap.size := by omega
          have lC : w1.heap.size + 1 + 1 < wi.heap.size := by omega
          have UW := hid (show (wi.setCell ⟨wr.heap.size, 1, none⟩ (.slice ea ds.length ec)).ownsRow (w1.heap.size + 3) 64 6 (.slice qq N.length dd) N.length xs by rw [← hZ]; exact u2)
          have UCW := hid (show (wi.setCell ⟨wr.heap.size, 1, none⟩ (.slice ea ds.length ec)).heap[w1.heap.size + 2]? = some (.cells #[.string nm, .slice qq N.length dd] 27 (0, 0)) by rw [← hZ]; exact u1)
          have hZH := hid hZ
          have uDN := hid u6
          have zW : (wi.setCell ⟨wr.heap.size, 1, none⟩ (.slice ea ds.length ec)).heap.size = wi.heap.size := by simp [World.setCell]
          have u6' := u6
          rw [hdl] at *
          clear own k5 hG hG' hE u1 u2 u3 u4 u5 NI gI NBX uC uC0 hZ HSX KPX GX hsn k3 hbi
          go_wp2_with (first | (at_builtin; (refine wpList_append_lies _ rfl _ _ 25 rfl (w1.heap.size + 3) 64 i1 _ 6 80 Try.underlying25 hi1 hz1 hs1 hb1 rfl (by decide) (.slice qq N.length dd) N.length xs rfl (UW.out.alloc _) ⟨wi.heap.size, 0, none⟩ 1 1 [.string (tS q s0), .slice ea ds0.length ec, .int .i64 t0, .int .i64 l0, .int .i64 e0, .string fl0] rfl rfl (by have h := heap_alloc_new (wi.setCell ⟨wr.heap.size, 1, none⟩ (.slice ea ds0.length ec)) (.cells #[.string (tS q s0), .slice ea ds0.length ec, .int .i64 t0, .int .i64 l0, .int .i64 e0, .string fl0] 64); rw [zW] at h; exact World.news_of_block (cs := #[.string (tS q s0), .slice ea ds0.length ec, .int .i64 t0, .int .i64 l0, .int .i64 e0, .string fl0]) h) (by simp [Value.oneCell']) (by decide) (by unfold maxLen; omega) (by omega) (by rw [World.size_alloc, zW]; omega) _ rfl ?_; intro g3 t3 Y o3 gg3 at3 _; have yC := (gg3.block (w1.heap.size + 2) (by rw [World.size_alloc, zW]; omega) (fun e => by have := (UW.out.lt _ e.symm).1; omega)).trans ((Below.heap_alloc _ _ _ (by rw [zW]; omega)).trans UCW.out); have yC1 := cell_there yC (j := 1) (by simp); have yCf := frozen_there yC; go_frame)))
          have KE := hid (g_end (base := w1.heap.size + 3) (C := w1.heap.size + 2) (g := g3) (t := t3) (y := ⟨tS q s0, ds, t0, l0, e0, fl0⟩) (Y := Y) (by omega) UC.out UZ.out KN.out KS.out hD.out uDN.out (X' := (wi.setCell ⟨wr.heap.size, 1, none⟩ (.slice ea ds0.length ec)).alloc (.cells #[.string (tS q s0), .slice ea ds0.length ec, .int .i64 t0, .int .i64 l0, .int .i64 e0, .string fl0] 64)) (by rw [hZH.out]; exact grown1 _ _) (by show World.ownsRow Y (w1.heap.size + 3) 64 6 _ _ (xs ++ [.string (tS q s0), .slice ea ds.length ec, .int .i64 t0, .int .i64 l0, .int .i64 e0, .string fl0]); rw [show ds.length = ds0.length by rw [hdsE.out, List.length_map]]; exact o3) gg3 at3)
          clear o3 gg3 at3 yC yC1 yCf
          go_roundw
          case rel =>
            obtain ⟨E1, E2, E3, E4, E5, E6⟩ := KE.out
            exact ⟨i + 1, ci, by go_num, hid (EN.end EZ.out E2 E3 E4 E5 E6), hid (by rw [← hN.out, ← hNe.out]; exact E1)⟩
          case measure => simp [intOf]; omega
    · have ei : i = M.length := by omega
      subst ei
      obtain ⟨N, hNe⟩ : ∃ N, Hid (N = M.map (reN q)) := ⟨_, rfl⟩
      have hG' := hG.out
      rw [List.take_length, ← hNe.out] at hG'
      obtain ⟨S, qq, dd, xs, u1, u2, u3, u4, u5⟩ := hG'
      obtain ⟨nB, lB, _⟩ := ns_own u2 u3
      have hNl : N.length = M.length := by rw [hNe.out, List.length_map]
      have hE' := hE.out
      have CA := hid (check (cap := d1) nm hn (NS.out.below hE'.1) (by omega) m1 HO.out)
      have HON := hid (show ∀ y ∈ N, NdOk y from fun y hy => by
        rw [hNe.out] at hy
        obtain ⟨x, hx, rfl⟩ := List.mem_map.1 hy
        exact re_ok (HO.out x hx))
      have CB := hid fun (W : World) (b : Below wr.heap.size wr W) => check (cap := dd) nm hn (nB.below b) (by omega) lB HON.out
      have eE : Hid (ckE nm N = ckE nm M) := hid (by unfold ckE; rw [hNe.out, chk_re])
      rw [eE.out] at CB
      have CMA := hid fun (W : World) (b : Below wr.heap.size wr W) => masks (cap := d1) nm ((NS.out.below hE'.1).below b) hl HO.out
      have CMB := hid fun (W : World) (b : Below wr.heap.size wr W) => masks (cap := dd) nm (nB.below b) (by omega) HON.out
      have MP := hid fun (h : (chk nm M).2 = 0) (i : Nat) (hi : i < M.length) => (show mrow N i = mrow M i by
        rw [mrow_pass h hi, mrow_pass (nm := nm) (L := N) (by rw [hNe.out, chk_re]; exact h) (by omega), hNl, hNe.out, wts_re])
      have FB := hid (show F2 wr (w1.heap.size + 2) nm (.slice qq N.length dd) from ⟨by simp [World.cell?, u1], by simp [World.cell?, u1]⟩)
      have AR := hid (A1.out.trans (hE'.1.mono A1.out.size))
      have FA := hid hE'.2.1
      have zr := hE'.2.2
      rw [hNl] at CB CMB FB
      have BXR := hid (show Bx wr w1.heap.size (w1.heap.size + 2) nm (.slice q1 M.length d1) (.slice qq M.length dd) from ⟨FA.out.1, FA.out.2, FB.out.1, FB.out.2⟩)
      obtain ⟨f0, f1⟩ := FA.out
      clear hG hE hE' u1 u2 u3 u4 u5 nB lB hNl eE HON A1 NS hNe CT KP1 HO
      go_wp2_with fail
      refine CA.out.mono ?_
      rintro e w2 ⟨rfl, b2⟩
      obtain ⟨f2, f3⟩ := FB.out.below (by omega) b2
      have CB2 := hid (CB.out w2 b2)
      have B2 := hid b2
      clear CA CB b2 f0 f1
      unfold ckE at CB2
      unfold ckE
      generalize chk nm M = R at CB2 MP ⊢
      obtain ⟨r1, r2⟩ := R
      simp only at CB2 MP ⊢
      go_wp2_with fail
      refine CB2.out.mono ?_
      rintro e w3 ⟨rfl, b3⟩
      have B3 := hid (B2.out.trans (b3.mono B2.out.size))
      clear CB2 B2 b3 f2 f3
      go_wp2_with fail
      refine (WK.out _).mono ?_
      rintro e w4 ⟨rfl, b4⟩
      have B4 := hid (B3.out.trans (b4.mono B3.out.size))
      have A4 := hid (AR.out.trans (B4.out.mono AR.out.size))
      clear B3 b4 WK
      by_cases h0 : r2 = 0
      · have MP' := hid (MP.out h0)
        have e0 : (r2 != 0) = false := by simp [h0]
        have e1 : (r2 == 0) = true := by simp [h0]
        clear MP h0
        have z4 : wr.heap.size ≤ w4.heap.size := B4.out.size
        obtain ⟨y0, y1, y2, y3⟩ := bx_below BXR.out (by omega) (by omega) B4.out
        have CA := hid fun (W : World) (b : Below w4.heap.size w4 W) => (CMA.out W (B4.out.trans (b.mono z4))).mono fun e w' h =>
          (⟨h.1, hid h.2.1, h.2.2.1, hid h.2.2.2, hid (b.trans (h.2.2.2.mono b.size)), bx_below BXR.out (by omega) (by omega) (B4.out.trans ((b.trans (h.2.2.2.mono b.size)).mono z4))⟩ : e = .returned (.slice (some ⟨W.heap.size + 1, 0, none⟩) M.length M.length) ∧ Hid (w'.rowIs (W.heap.size + 1) 43 M.length (fun i => .int .u32 (mrow M i : Int))) ∧ W.heap.size + 1 < w'.heap.size ∧ Hid (Below W.heap.size W w') ∧ Hid (Below w4.heap.size w4 w') ∧ (w'.cell? ⟨w1.heap.size, 0, none⟩ = some (.string nm) ∧ w'.cell? ⟨w1.heap.size, 1, none⟩ = some (.slice q1 M.length d1) ∧ w'.cell? ⟨w1.heap.size + 1 + 1, 0, none⟩ = some (.string nm) ∧ w'.cell? ⟨w1.heap.size + 1 + 1, 1, none⟩ = some (.slice qq M.length dd)))
        have CB := hid fun (W : World) (b : Below w4.heap.size w4 W) => (CMB.out W (B4.out.trans (b.mono z4))).mono fun e w' h =>
          (⟨h.1, hid h.2.1, h.2.2.1, hid h.2.2.2, hid (b.trans (h.2.2.2.mono b.size)), bx_below BXR.out (by omega) (by omega) (B4.out.trans ((b.trans (h.2.2.2.mono b.size)).mono z4))⟩ : e = .returned (.slice (some ⟨W.heap.size + 1, 0, none⟩) M.length M.length) ∧ Hid (w'.rowIs (W.heap.size + 1) 43 M.length (fun i => .int .u32 (mrow N i : Int))) ∧ W.heap.size + 1 < w'.heap.size ∧ Hid (Below W.heap.size W w') ∧ Hid (Below w4.heap.size w4 w') ∧ (w'.cell? ⟨w1.heap.size, 0, none⟩ = some (.string nm) ∧ w'.cell? ⟨w1.heap.size, 1, none⟩ = some (.slice q1 M.length d1) ∧ w'.cell? ⟨w1.heap.size + 1 + 1, 0, none⟩ = some (.string nm) ∧ w'.cell? ⟨w1.heap.size + 1 + 1, 1, none⟩ = some (.slice qq M.length dd)))
        clear CMA CMB
        go_wp2_with fail
        go_region_held3 (fun W => W.cell? ⟨w1.heap.size, 0, none⟩ = some (.string nm) ∧ W.cell? ⟨w1.heap.size, 1, none⟩ = some (.slice q1 M.length d1) ∧ W.cell? ⟨w1.heap.size + 1 + 1, 0, none⟩ = some (.string nm) ∧ W.cell? ⟨w1.heap.size + 1 + 1, 1, none⟩ = some (.slice qq M.length dd))
          (first | exact hSA | exact hSB | go_keep)
          (first
            | (go_at_call 12; refine (CA.out _ (by first | exact (Below.refl _ _).drew)).mono ?_; rintro e wA ⟨rfl, hrow, hzA, bA', bA, hSA⟩; clear CA)
            | (go_at_call 12; refine (CB.out _ (by first | exact bA.out)).mono ?_; rintro e wB ⟨rfl, hrow2, hzB, bB', bB, hSB⟩))
        have RA := hid (show wB.rowIs (w4.heap.size + 1) 43 M.length (fun i => .int .u32 (mrow M i : Int)) from hrow.out.of_block (bB'.out.block _ hzA))
        have RB := hid (show wB.rowIs (wA.heap.size + 1) 43 M.length (fun i => .int .u32 (mrow N i : Int)) from hrow2.out)
        have AB := hid (A4.out.trans (bB.out.mono A4.out.size))
        have hzA2 : w4.heap.size + 1 < wB.heap.size := Nat.lt_of_lt_of_le hzA bB'.out.size
        have hzB2 : wA.heap.size + 1 < wB.heap.size := hzB
        clear hrow hrow2 bA bA' bB bB' CB hSA hSB y0 y1 y2 y3
        go_wp2_with fail
        go_loopw [96] (fun iv wr => ∃ i : Nat, i ≤ M.length ∧ iv = .int .i64 (i : Int) ∧ ∃ q, wr = wB.drewN q) (fun iv _ => M.length - (intOf iv).toNat)
        case atStart => exact ⟨0, Nat.zero_le _, rfl, 0, rfl⟩
        case round =>
          obtain ⟨i, hi, rfl, qd, rfl⟩ := hrel
          by_cases ci : i < M.length
          · have x0 : wB.cell? ⟨w4.heap.size + 1, i, none⟩ = some (.int .u32 (mrow M i : Int)) := RA.out.cell ci
            have x1 : wB.cell? ⟨wA.heap.size + 1, i, none⟩ = some (.int .u32 (mrow N i : Int)) := RB.out.cell ci
            rw [MP'.out i ci] at x1
            generalize mrow M i = m at x0 x1
            have hge : decide ((M.length : Int) ≤ (i : Int)) = false := decide_eq_false (by omega)
            go_wp2_with fail
            go_quiet (fail)
            go_wp2_with fail
            go_roundw
            case rel => exact ⟨i + 1, ci, by go_num, _, rfl⟩
            case measure => simp [intOf]; omega
          · go_wp2_with fail
            go_ret
            exact ⟨by first | rfl | simp, by first | exact AB.out | exact drewB AB.out | exact drewB (drewB AB.out)⟩
      · have e0 : (r2 != 0) = true := by simpa using h0
        have e1 : (r2 == 0) = false := by simpa using h0
        clear MP h0 CMA CMB
        go_wp2_with fail
        go_ret
        exact ⟨rfl, A4.out⟩

end Go.Proofs.Ytdhghjfenkjeaaa.Wgo
