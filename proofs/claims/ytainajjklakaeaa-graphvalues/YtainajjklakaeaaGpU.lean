/-
  The contracts of valueOfNode and Value: what comes back reads as the workflow's plain forest, in new memory. Conditions: the nodes lie in memory, their numbers fit a machine.
-/
import Derived.Test.YtainajjklakaeaaGpE
import Derived.Test.YtainajjklakaeaaGpN
import Derived.Test.YtainajjklakaeaaMade
namespace Go.Proofs.Ytainajjklakaeaa.Wgu
open Go.ChangeShapes Go.WideShapes Go.ChangeAt Go.RowKit Go.Proofs.Ytainajjklakaeaa.M Go.Proofs.Ytainajjklakaeaa.Wgp

theorem hid {p : Prop} (h : p) : Hid p := h
/-- A row that reads without inner ones. -/
def NoA : Nat → Prop := fun _ => False
theorem fits_no {w w' : World} {f : F} {xs : List Value} (h : Fits w NoA f xs) : Fits w' NoA f xs := fits_of (fun _ h => h) (fun _ h => h.elim) h
theorem take_snoc {l : List ByteArray} {i : Nat} {d : ByteArray} (hd : l[i]? = some d) : l.take (i + 1) = l.take i ++ [d] := by
  rw [List.take_add_one, hd]
  rfl

theorem alloc3 (w : World) (c1 c2 c3 : Array Value) (t1 t2 t3 : TypeId) : ∀ X, X = ((w.alloc (.cells c1 t1)).alloc (.cells c2 t2)).alloc (.cells c3 t3) → X.heap[w.heap.size]? = some (.cells c1 t1 (0, 0)) ∧ X.heap[w.heap.size + 1]? = some (.cells c2 t2 (0, 0)) ∧ X.heap[w.heap.size + 2]? = some (.cells c3 t3 (0, 0)) ∧ X.heap.size = w.heap.size + 3 ∧ Below w.heap.size w X := by
  intro X hX
  have y1 := heap_alloc_new w (.cells c1 t1)
  have y2 := heap_alloc_new (w.alloc (.cells c1 t1)) (.cells c2 t2)
  have y3 := heap_alloc_new ((w.alloc (.cells c1 t1)).alloc (.cells c2 t2)) (.cells c3 t3)
  simp only [World.size_alloc] at y2 y3
  subst hX
  refine ⟨?_, ?_, y3, by simp, (((Below.refl _ _).alloc (Nat.le_refl _) _).alloc (by simp) _).alloc (by simp; omega) _⟩
  · rw [Below.heap_alloc _ _ _ (by simp; omega), Below.heap_alloc _ _ _ (by simp), y1]
  · rw [Below.heap_alloc _ _ _ (by simp), y2]

set_option maxRecDepth 100000 in
set_option maxHeartbeats 6400000 in
theorem valueOfNode (x : Nd) (da : Option Addr) (dc : Nat) (w : World) (hx : NdOk x) (hD : Dp w x da dc) :
    Calls Try.prog 20 #[.agg #[.string x.name, .slice da x.deps.length dc, .int .i64 x.tries, .int .i64 x.lease, .int .i64 x.tenant, .string x.flow]] w fun e w' =>
      ∃ p c, e = .returned (.agg #[.int .i64 2, .int .i64 0, .string ⟨#[]⟩, .slice p 6 c]) ∧ Rd w' (fun g => w.heap.size ≤ g) (.slice p 6 c) (ndF x) ∧ Below w.heap.size w w' := by
  have hd4 := hx.2.2.2.1
  have HX := hid hx
  have HS := hid hD.2.2
  have hmk : ∀ u, _ := fun u => Wy.make x.deps.length (by omega) u (by omega)
  have CS := hid fun (s : ByteArray) (W : World) (hs : s.size ≤ 281474976710656) => Wy.str s W hs
  clear hx hD
  go_enter Try.func20, Try.ntmps20
  go_wp2_with fail
  clear hmk
  obtain ⟨X, hX⟩ : ∃ X, X = ((w.alloc (.cells #[.string x.name, .slice da x.deps.length dc, .int .i64 x.tries, .int .i64 x.lease, .int .i64 x.tenant, .string x.flow] 56)).alloc (.cells #[.int .i64 0, .int .i64 0, .string ⟨#[]⟩, .slice none 0 0] 37)).alloc (.cells (madeCells #[.int .i64 0, .int .i64 0, .string ⟨#[]⟩, .slice none 0 0] (x.deps.length * 4)) 37) := ⟨_, rfl⟩
  rw [← hX]
  obtain ⟨x1, x2, x3, xz, xb⟩ := alloc3 _ _ _ _ _ _ _ X hX
  have X1 := hid x1
  have X2 := hid x2
  have X3 := hid x3
  clear hX x1 x2 x3
  go_loopw [13] (fun iv wr => ∃ (i : Nat) (cur : Array Value), iv = .int .i64 (i : Int) ∧ i ≤ x.deps.length ∧ Below w.heap.size w wr ∧ w.heap.size + 3 ≤ wr.heap.size ∧ Hid (wr.heap[w.heap.size + 2]? = some (.cells cur 37 (0, 0))) ∧ Hid (cur.size = x.deps.length * 4) ∧ Hid (Fits wr NoA (strsF (x.deps.take i)) (cur.toList.take (i * 4))) ∧ Hid (wr.heap[w.heap.size]? = some (.cells #[.string x.name, .slice da x.deps.length dc, .int .i64 x.tries, .int .i64 x.lease, .int .i64 x.tenant, .string x.flow] 56 (0, 0))) ∧ Hid (wr.heap[w.heap.size + 1]? = some (.cells #[.int .i64 0, .int .i64 0, .string ⟨#[]⟩, .slice none 0 0] 37 (0, 0)))) (fun iv _ => x.deps.length - (intOf iv).toNat)
  case atStart => exact ⟨0, _, rfl, Nat.zero_le _, xb, by omega, X3, hid (size_madeCells _ _), hid (by simp [strsF, Fits]), X1, X2⟩
  case round =>
    clear X1 X2 X3 xz xb
    obtain ⟨i, cur, rfl, hi, hb, hz, hrow, hcs, hF, hP, hR⟩ := hrel
    by_cases ci : i < x.deps.length
    · obtain ⟨d, hd⟩ : ∃ d, x.deps[i]? = some d := ⟨x.deps[i], List.getElem?_eq_getElem ci⟩
      obtain ⟨gd, rfl, hgd, yd⟩ := HS.out.at hd
      have y0 := (hb.cell (p := ⟨gd, i, none⟩) hgd).trans yd
      have hds : d.size ≤ 281474976710656 := by have := HX.out.2.2.1 d (List.mem_of_getElem? hd); omega
      have C1 := hid (CS.out d wr hds)
      have hsn := hid (take_snoc hd)
      clear hd yd
      go_wp2_with fail
      refine C1.out.mono ?_
      rintro e w2 ⟨rfl, b2⟩
      have cz := hcs.out
      have hrow2 := hid ((b2.block _ (by omega)).trans hrow.out)
      have t0 := cell_there hrow2.out (j := i * 4) (by omega)
      have t1 := cell_there hrow2.out (j := i * 4 + 1) (by omega)
      have t2 := cell_there hrow2.out (j := i * 4 + 2) (by omega)
      have t3 := cell_there hrow2.out (j := i * 4 + 3) (by omega)
      have f0 := frozen_there hrow2.out
      generalize cur[i * 4] = z0 at t0
      generalize cur[i * 4 + 1] = z1 at t1
      generalize cur[i * 4 + 2] = z2 at t2
      generalize cur[i * 4 + 3] = z3 at t3
      obtain ⟨cur', p1, p2, p3⟩ := put4_row hrow2.out (j := i * 4) (by omega) (.int .i64 1) (.int .i64 0) (.string d) (.slice none 0 0)
      have P1 := hid p1
      have P2 := hid p2
      have P3 := hid p3
      have hP2 := hid ((b2.block _ (by omega)).trans hP.out)
      have hR2 := hid ((b2.block _ (by omega)).trans hR.out)
      have hb2 := hb.trans (b2.mono hb.size)
      have hz2 : w.heap.size + 3 ≤ w2.heap.size := Nat.le_trans hz b2.size
      clear C1 y0 b2 p1 p2 p3 cz hrow hP hR
      go_wp2_with fail
      go_roundw
      case rel =>
        refine ⟨i + 1, cur', by go_num, ci, ?_, ?_, P1, hid (P2.out.trans hcs.out), hid ?_, hid ?_, hid ?_⟩
        · exact put4_below hb2 (by omega) _ _ _ _
        · show _ ≤ (put4 w2 (w.heap.size + 2) (i * 4) (.int .i64 1) (.int .i64 0) (.string d) (.slice none 0 0)).heap.size
          rw [put4_size]; omega
        · rw [Nat.add_mul, P3.out, hsn.out, strsF_snoc]
          exact fits_app (fits_no hF.out) (fits_one (rd_nil _ _))
        · exact (put4_other (by omega)).trans hP2.out
        · exact (put4_other (by omega)).trans hR2.out
      case measure => simp [intOf]; omega
    · have ei : i = x.deps.length := by omega
      have hRd := hid (show Rd wr (fun g => w.heap.size ≤ g) (.slice (some ⟨w.heap.size + 1 + 1, 0, none⟩) (strsF x.deps).len x.deps.length) (strsF x.deps) from rd_row (A := NoA) hrow.out (by omega) (fun _ h => h.elim) (by rw [strsF_len]; have := hF.out; rw [ei, List.take_length] at this; exact this) (by rw [strsF_len]; exact Nat.le_refl _) (by unfold maxLen; omega))
      clear hF hrow
      have KS := hid fun (W : World) (b : Below wr.heap.size wr W) => (show W.cell? ⟨w.heap.size, 0, none⟩ = some (.string x.name) ∧ W.cell? ⟨w.heap.size, 2, none⟩ = some (.int .i64 x.tries) ∧ W.cell? ⟨w.heap.size, 3, none⟩ = some (.int .i64 x.lease) ∧ W.cell? ⟨w.heap.size, 4, none⟩ = some (.int .i64 x.tenant) ∧ W.cell? ⟨w.heap.size, 5, none⟩ = some (.string x.flow) from by
        have hp := (b.block w.heap.size (by omega)).trans hP.out
        refine ⟨?_, ?_, ?_, ?_, ?_⟩ <;> simp [World.cell?, hp])
      obtain ⟨s0, s1, s2, s3, s4⟩ := KS.out wr (Below.refl _ _)
      have hx1 : x.name.size ≤ 281474976710656 := by have := HX.out.1; omega
      have hx2 : x.flow.size ≤ 281474976710656 := by have := HX.out.2.1; omega
      have K1 := hid fun (W : World) (b : Below wr.heap.size wr W) => (Wy.str x.name W hx1).mono fun e w' h => (⟨h.1, hid h.2, hid (b.trans (h.2.mono b.size)), KS.out w' (b.trans (h.2.mono b.size))⟩ : e = .returned (.agg #[.int .i64 1, .int .i64 0, .string x.name, .slice none 0 0]) ∧ Hid (Below W.heap.size W w') ∧ Hid (Below wr.heap.size wr w') ∧ w'.cell? ⟨w.heap.size, 0, none⟩ = some (.string x.name) ∧ w'.cell? ⟨w.heap.size, 2, none⟩ = some (.int .i64 x.tries) ∧ w'.cell? ⟨w.heap.size, 3, none⟩ = some (.int .i64 x.lease) ∧ w'.cell? ⟨w.heap.size, 4, none⟩ = some (.int .i64 x.tenant) ∧ w'.cell? ⟨w.heap.size, 5, none⟩ = some (.string x.flow))
      have K2 := hid fun (W : World) (b : Below wr.heap.size wr W) => (Wy.all (strsF x.deps) (.slice (some ⟨w.heap.size + 1 + 1, 0, none⟩) (strsF x.deps).len x.deps.length) W (fun g => w.heap.size ≤ g) (by rw [strsF_nodes]; omega) (strsF_ok HX.out.2.2.1) (rd_below hRd.out b)).mono fun e w' h => (by
        obtain ⟨p, c, h1, h2, h3⟩ := h
        exact ⟨p, c, h1, hid (rd_of (fun g hg => by have := b.size; omega) (fun _ _ _ h => h) h2), hid h3, hid (b.trans (h3.mono b.size)), KS.out w' (b.trans (h3.mono b.size))⟩ : ∃ p c, e = .returned (.agg #[.int .i64 2, .int .i64 0, .string ⟨#[]⟩, .slice p (strsF x.deps).len c]) ∧ Hid (Rd w' (fun g => w.heap.size ≤ g) (.slice p (strsF x.deps).len c) (strsF x.deps)) ∧ Hid (Below W.heap.size W w') ∧ Hid (Below wr.heap.size wr w') ∧ w'.cell? ⟨w.heap.size, 0, none⟩ = some (.string x.name) ∧ w'.cell? ⟨w.heap.size, 2, none⟩ = some (.int .i64 x.tries) ∧ w'.cell? ⟨w.heap.size, 3, none⟩ = some (.int .i64 x.lease) ∧ w'.cell? ⟨w.heap.size, 4, none⟩ = some (.int .i64 x.tenant) ∧ w'.cell? ⟨w.heap.size, 5, none⟩ = some (.string x.flow))
      have K3 := hid fun (W : World) (b : Below wr.heap.size wr W) => (Wy.num x.tries W).mono fun e w' h => (⟨h.1, hid h.2, hid (b.trans (h.2.mono b.size)), KS.out w' (b.trans (h.2.mono b.size))⟩ : e = .returned (.agg #[.int .i64 0, .int .i64 x.tries, .string ⟨#[]⟩, .slice none 0 0]) ∧ Hid (Below W.heap.size W w') ∧ Hid (Below wr.heap.size wr w') ∧ w'.cell? ⟨w.heap.size, 0, none⟩ = some (.string x.name) ∧ w'.cell? ⟨w.heap.size, 2, none⟩ = some (.int .i64 x.tries) ∧ w'.cell? ⟨w.heap.size, 3, none⟩ = some (.int .i64 x.lease) ∧ w'.cell? ⟨w.heap.size, 4, none⟩ = some (.int .i64 x.tenant) ∧ w'.cell? ⟨w.heap.size, 5, none⟩ = some (.string x.flow))
      have K4 := hid fun (W : World) (b : Below wr.heap.size wr W) => (Wy.num x.lease W).mono fun e w' h => (⟨h.1, hid h.2, hid (b.trans (h.2.mono b.size)), KS.out w' (b.trans (h.2.mono b.size))⟩ : e = .returned (.agg #[.int .i64 0, .int .i64 x.lease, .string ⟨#[]⟩, .slice none 0 0]) ∧ Hid (Below W.heap.size W w') ∧ Hid (Below wr.heap.size wr w') ∧ w'.cell? ⟨w.heap.size, 0, none⟩ = some (.string x.name) ∧ w'.cell? ⟨w.heap.size, 2, none⟩ = some (.int .i64 x.tries) ∧ w'.cell? ⟨w.heap.size, 3, none⟩ = some (.int .i64 x.lease) ∧ w'.cell? ⟨w.heap.size, 4, none⟩ = some (.int .i64 x.tenant) ∧ w'.cell? ⟨w.heap.size, 5, none⟩ = some (.string x.flow))
      have K5 := hid fun (W : World) (b : Below wr.heap.size wr W) => (Wy.num x.tenant W).mono fun e w' h => (⟨h.1, hid h.2, hid (b.trans (h.2.mono b.size)), KS.out w' (b.trans (h.2.mono b.size))⟩ : e = .returned (.agg #[.int .i64 0, .int .i64 x.tenant, .string ⟨#[]⟩, .slice none 0 0]) ∧ Hid (Below W.heap.size W w') ∧ Hid (Below wr.heap.size wr w') ∧ w'.cell? ⟨w.heap.size, 0, none⟩ = some (.string x.name) ∧ w'.cell? ⟨w.heap.size, 2, none⟩ = some (.int .i64 x.tries) ∧ w'.cell? ⟨w.heap.size, 3, none⟩ = some (.int .i64 x.lease) ∧ w'.cell? ⟨w.heap.size, 4, none⟩ = some (.int .i64 x.tenant) ∧ w'.cell? ⟨w.heap.size, 5, none⟩ = some (.string x.flow))
      have K6 := hid fun (W : World) (b : Below wr.heap.size wr W) => (Wy.str x.flow W hx2).mono fun e w' h => (⟨h.1, hid h.2, hid (b.trans (h.2.mono b.size)), KS.out w' (b.trans (h.2.mono b.size))⟩ : e = .returned (.agg #[.int .i64 1, .int .i64 0, .string x.flow, .slice none 0 0]) ∧ Hid (Below W.heap.size W w') ∧ Hid (Below wr.heap.size wr w') ∧ w'.cell? ⟨w.heap.size, 0, none⟩ = some (.string x.name) ∧ w'.cell? ⟨w.heap.size, 2, none⟩ = some (.int .i64 x.tries) ∧ w'.cell? ⟨w.heap.size, 3, none⟩ = some (.int .i64 x.lease) ∧ w'.cell? ⟨w.heap.size, 4, none⟩ = some (.int .i64 x.tenant) ∧ w'.cell? ⟨w.heap.size, 5, none⟩ = some (.string x.flow))
      rw [strsF_len] at K2
      have KV := hid fun (W V : World) (p : Option Addr) (c : Nat) (hR : Rd W (fun g => w.heap.size ≤ g) (.slice p (strsF x.deps).len c) (strsF x.deps)) (b1 : Below W.heap.size W V) (b2 : w.heap.size ≤ V.heap.size) => (show Rd (V.alloc (.cells #[.int .i64 1, .int .i64 0, .string x.name, .slice none 0 0, .int .i64 2, .int .i64 0, .string ⟨#[]⟩, .slice p (strsF x.deps).len c, .int .i64 0, .int .i64 x.tries, .string ⟨#[]⟩, .slice none 0 0, .int .i64 0, .int .i64 x.lease, .string ⟨#[]⟩, .slice none 0 0, .int .i64 0, .int .i64 x.tenant, .string ⟨#[]⟩, .slice none 0 0, .int .i64 1, .int .i64 0, .string x.flow, .slice none 0 0] 37)) (fun g => w.heap.size ≤ g) (.slice (some ⟨V.heap.size, 0, none⟩) 6 6) (ndF x) from
        .inr ⟨V.heap.size, 6, _, _, rfl, b2, Nat.le_refl _, by unfold maxLen; omega, heap_alloc_new V _, fits_cons.2 ⟨_, _, rfl, fits_cons.2 ⟨_, _, rfl, fits_cons.2 ⟨_, _, rfl, fits_cons.2 ⟨_, _, rfl, fits_cons.2 ⟨_, _, rfl, fits_cons.2 ⟨_, _, rfl, rfl, rd_nil _ _⟩, rd_nil _ _⟩, rd_nil _ _⟩, rd_nil _ _⟩, rd_below (rd_below hR b1) ((Below.refl _ _).alloc (Nat.le_refl _) _)⟩, rd_nil _ _⟩⟩)
      have K7 := hid fun (W V : World) (p : Option Addr) (c : Nat) (hRp : Rd W (fun g => w.heap.size ≤ g) (.slice p (strsF x.deps).len c) (strsF x.deps)) (b1 : Below W.heap.size W V) (b2 : Below wr.heap.size wr V) => (Wy.all (ndF x) (.slice (some ⟨V.heap.size, 0, none⟩) 6 6) (V.alloc (.cells #[.int .i64 1, .int .i64 0, .string x.name, .slice none 0 0, .int .i64 2, .int .i64 0, .string ⟨#[]⟩, .slice p (strsF x.deps).len c, .int .i64 0, .int .i64 x.tries, .string ⟨#[]⟩, .slice none 0 0, .int .i64 0, .int .i64 x.lease, .string ⟨#[]⟩, .slice none 0 0, .int .i64 0, .int .i64 x.tenant, .string ⟨#[]⟩, .slice none 0 0, .int .i64 1, .int .i64 0, .string x.flow, .slice none 0 0] 37)) (fun g => w.heap.size ≤ g) (by rw [ndF_nodes]; omega) (ndF_ok HX.out) (KV.out W V p c hRp b1 (by have := b2.size; omega))).mono fun e w' h => (by
        obtain ⟨q, d, h1, h2, h3⟩ := h
        have hb7 := b2.trans (((Below.refl _ _).alloc (Nat.le_refl _) (.cells #[.int .i64 1, .int .i64 0, .string x.name, .slice none 0 0, .int .i64 2, .int .i64 0, .string ⟨#[]⟩, .slice p (strsF x.deps).len c, .int .i64 0, .int .i64 x.tries, .string ⟨#[]⟩, .slice none 0 0, .int .i64 0, .int .i64 x.lease, .string ⟨#[]⟩, .slice none 0 0, .int .i64 0, .int .i64 x.tenant, .string ⟨#[]⟩, .slice none 0 0, .int .i64 1, .int .i64 0, .string x.flow, .slice none 0 0] 37)).trans (h3.mono (by simp)) |>.mono b2.size)
        have hr := (hb7.block (w.heap.size + 1) (by omega)).trans hR.out
        exact ⟨q, d, h1, hid (rd_of (fun g hg => by have := b2.size; simp at hg; omega) (fun _ _ _ h => h) h2), hid hb7, by simp [World.cell?, hr], by simp [World.cell?, hr], by simp [World.cell?, hr], by simp [World.cell?, hr], frozen_there hr, KS.out w' hb7⟩ : ∃ q d, e = .returned (.agg #[.int .i64 2, .int .i64 0, .string ⟨#[]⟩, .slice q 6 d]) ∧ Hid (Rd w' (fun g => w.heap.size + 3 ≤ g) (.slice q 6 d) (ndF x)) ∧ Hid (Below wr.heap.size wr w') ∧ w'.cell? ⟨w.heap.size + 1, 0, none⟩ = some (.int .i64 0) ∧ w'.cell? ⟨w.heap.size + 1, 1, none⟩ = some (.int .i64 0) ∧ w'.cell? ⟨w.heap.size + 1, 2, none⟩ = some (.string ⟨#[]⟩) ∧ w'.cell? ⟨w.heap.size + 1, 3, none⟩ = some (.slice none 0 0) ∧ (∀ j, w'.frozen? ⟨w.heap.size + 1, j, none⟩ = false) ∧ w'.cell? ⟨w.heap.size, 0, none⟩ = some (.string x.name) ∧ w'.cell? ⟨w.heap.size, 2, none⟩ = some (.int .i64 x.tries) ∧ w'.cell? ⟨w.heap.size, 3, none⟩ = some (.int .i64 x.lease) ∧ w'.cell? ⟨w.heap.size, 4, none⟩ = some (.int .i64 x.tenant) ∧ w'.cell? ⟨w.heap.size, 5, none⟩ = some (.string x.flow))
      rw [strsF_len] at K7
      clear CS KV HS hRd hP hcs
      go_wp2_with fail
      go_region_held3 (fun W => W.cell? ⟨w.heap.size, 0, none⟩ = some (.string x.name) ∧ W.cell? ⟨w.heap.size, 2, none⟩ = some (.int .i64 x.tries) ∧ W.cell? ⟨w.heap.size, 3, none⟩ = some (.int .i64 x.lease) ∧ W.cell? ⟨w.heap.size, 4, none⟩ = some (.int .i64 x.tenant) ∧ W.cell? ⟨w.heap.size, 5, none⟩ = some (.string x.flow))
        (first | exact hS | go_keep)
        (first
          | (go_at_call 22; refine (K1.out _ (Below.refl _ _).drew).mono ?_; rintro e wa ⟨rfl, ca, ba, hS⟩; clear K1)
          | (go_at_call 21; refine (K2.out _ ba.out).mono ?_; rintro e wb ⟨p, c, rfl, hR2, cb, bb, hS⟩; clear K2)
          | (go_at_call 34; refine (K3.out _ bb.out).mono ?_; rintro e wc ⟨rfl, cc, bc, hS⟩; clear K3)
          | (go_at_call 34; refine (K4.out _ bc.out).mono ?_; rintro e wd ⟨rfl, cd, bd, hS⟩; clear K4)
          | (go_at_call 34; refine (K5.out _ bd.out).mono ?_; rintro e we ⟨rfl, ce, be, hS⟩; clear K5)
          | (go_at_call 22; refine (K6.out _ be.out).mono ?_; rintro e wf ⟨rfl, cf, bf, hS⟩; clear K6)
          | (go_at_call 21; refine (K7.out wb _ p c hR2.out (cc.out.trans ((cd.out.trans ((ce.out.trans (cf.out.mono ce.out.size)).mono cd.out.size)).mono cc.out.size)) bf.out).mono ?_; rintro e wg ⟨q, d, rfl, hR7, bg, r0, r1, r2, r3, rf, hS⟩))
      go_wp2_with fail
      refine bodyPost_ret (v := .agg #[.int .i64 2, .int .i64 0, .string ⟨#[]⟩, .slice q 6 d]) (by simp [results, Try.results20, go_sem, r0, r1, r2, r3]) rfl ⟨q, d, rfl, ?_, put4_below (hb.trans (bg.out.mono hb.size)) (by omega) _ _ _ _⟩
      exact rd_of (fun g hg => by omega) (fun g hg o h => (put4_other (by omega)).trans h) hR7.out

end Go.Proofs.Ytainajjklakaeaa.Wgu
