/-
  The walks of pack.copied, All, Num and Str: what comes back reads as what was handed in does, in new memory; nothing that was in memory has turned. Conditions: none but that the values can be read and fit a machine.
-/
import Derived.Test.YtainajjklakaeaaEqualR
import Derived.Test.YtainajjklakaeaaClone
namespace Go.Proofs.Ytainajjklakaeaa.Wy
open Go.ChangeShapes Go.WideShapes Go.ChangeAt Go.RowKit Go.Proofs.Ytainajjklakaeaa.M Go.Proofs.Ytainajjklakaeaa.We

theorem infoV : (Try.prog.info? 37).map (fun i => (i.zero, i.size, i.bytes)) = some (some (.agg #[.int .i64 0, .int .i64 0, .string ⟨#[]⟩, .slice none 0 0]), 4, 56) := by kernel_rfl

theorem make (k : Nat) (hk : k ≤ 140737488355328) (u : World) (hb : k * 56 ≤ 281474976710656) : (Instr.makeSlice 35 (.int .i64 (k : Int)) (.int .i64 (k : Int))).run Try.prog u =
      .ok (.slice (some ⟨u.heap.size, 0, none⟩) k k) (u.alloc (.cells (madeCells #[.int .i64 0, .int .i64 0, .string ⟨#[]⟩, .slice none 0 0] (k * 4)) 37)) := by
  obtain ⟨i0, hi, hz0, hz1, hz2⟩ := info_parts infoV
  have h := run_make (P := Try.prog) u 35 37 i0 _ Try.underlying35 hi hz0 .i64 .i64 (k : Int) (k : Int) (by omega) (Int.le_refl _) (by rw [hz2]; omega) (by omega)
  simpa [hz1, Value.cells] using h

set_option maxHeartbeats 1600000 in
theorem copied (N : Nat) : ∀ (f : F) (L : Value) (w : World) (A : Nat → Prop), f.nodes < N → f.nodes ≤ 1000000 → f.ok → Rd w A L f →
    Calls Try.prog 35 #[L] w fun e w' => ∃ p' cap', e = .returned (.slice p' f.len cap') ∧ Rd w' (fun g => w.heap.size ≤ g) (.slice p' f.len cap') f ∧ Below w.heap.size w w' := by
  induction N with
  | zero => intro f L w A h; omega
  | succ N ih =>
    intro f L w A hN hM hok hL
    have IH : Hid _ := ih
    clear ih
    obtain ⟨p, cap, xs, rfl, b1, b2, hf, hc⟩ := rd_form hL
    unfold maxLen at b2
    by_cases c0 : f.len = 0
    · have c0' : ((f.len : Int) == 0) = true := by simp [c0]
      match f, c0 with
      | .nil, c0 =>
        clear hf hc hL
        simp only [F.len] at c0'
        go_enter Try.func35, Try.ntmps35
        go_wp2_with fail
        go_ret
        exact ⟨_, _, rfl, rd_nil _ _, Below.refl _ _⟩
      | .cons .., c0 => simp [F.len] at c0
    · have c0' : ((f.len : Int) == 0) = false := by simp; omega
      have hlen := F.len_nodes f
      have hmk : ∀ u, _ := fun u => make f.len (by omega) u (by omega)
      have HC : Hid _ := hc
      have HF : Hid _ := hf
      have HN : Hid _ := hN
      have HM : Hid _ := hM
      have HK : Hid _ := hok
      clear hc hf hL hN hM hok c0 hlen
      go_enter Try.func35, Try.ntmps35
      go_wp2_with fail
      go_loopw [14] (fun iv wr => ∃ (i : Nat) (g pre : F) (cur : Array Value), iv = .int .i64 (i : Int) ∧ g.len + i = f.len ∧ pre.len = i ∧ Hid (pre.app g = f) ∧ Hid (g.nodes ≤ f.nodes) ∧ Hid g.ok ∧ Below w.heap.size w wr ∧ Hid (w.heap.size + 1 ≤ wr.heap.size) ∧ Hid (wr.heap[w.heap.size]? = some (.cells cur 37 (0, 0))) ∧ Hid (cur.size = f.len * 4) ∧ Hid (Fits wr (fun x => w.heap.size < x) pre (cur.toList.take (i * 4))) ∧ Hid (Fits w A g (xs.drop (i * 4)))) (fun i _ => f.len - (intOf i).toNat)
      case atStart => exact ⟨0, f, .nil, _, rfl, by omega, rfl, rfl, Nat.le_refl _, HK.out, (Below.refl _ _).alloc (Nat.le_refl _) _, by show _ ≤ _; simp, heap_alloc_new w _, size_madeCells _ _, by show Fits _ _ _ _; simp [Fits], HF⟩
      case round =>
        obtain ⟨i, g, pre, cur, rfl, hg, hpl, hpa, hn, hok, hb, hz, hrow, hcs, hpre, h1⟩ := hrel
        by_cases hlt : i < f.len
        · match g, hg with
          | .nil, hg => simp [F.len] at hg; omega
          | .cons k n s l r, hg =>
            obtain ⟨gb, M, rfl, _, hgb, k0, k1, k2, k3, hM, hr⟩ := fits_next (c := w.cell?) h1.out HC.out
            obtain ⟨pm, cm, _, rfl, _⟩ := rd_form hM
            have N1 : Hid (l.nodes < N) := by have h1 := hn.out; have h2 := HN.out; simp only [F.nodes] at h1; show l.nodes < N; omega
            have N2 : Hid (r.nodes ≤ f.nodes) := by have h1 := hn.out; simp only [F.nodes] at h1; show r.nodes ≤ f.nodes; omega
            have N3 : Hid (l.nodes ≤ 1000000) := by have h1 := hn.out; have h2 := HM.out; simp only [F.nodes] at h1; show l.nodes ≤ _; omega
            obtain ⟨hcc, _⟩ := bcell hb
            have q0 := (hcc gb (i * 4) hgb).trans k0
            have q1 := (hcc gb (i * 4 + 1) hgb).trans k1
            have q2 := (hcc gb (i * 4 + 2) hgb).trans k2
            have q3 := (hcc gb (i * 4 + 3) hgb).trans k3
            have I0 : (0 : Int) ≤ (i : Int) := by omega
            have I1 : (i : Int) < (f.len : Int) := by omega
            have KM : Hid (Rd w A (.slice pm l.len cm) l) := hM
            have KR : Hid _ := hr
            have z := hz.out
            have cz := hcs.out
            have t0 := cell_there hrow.out (j := i * 4) (by omega)
            have t1 := cell_there hrow.out (j := i * 4 + 1) (by omega)
            have t2 := cell_there hrow.out (j := i * 4 + 2) (by omega)
            have t3 := cell_there hrow.out (j := i * 4 + 3) (by omega)
            have f0 := frozen_there hrow.out
            generalize cur[i * 4] = x0 at t0
            generalize cur[i * 4 + 1] = x1 at t1
            generalize cur[i * 4 + 2] = x2 at t2
            generalize cur[i * 4 + 3] = x3 at t3
            have hne : ¬ w.heap.size = wr.heap.size := by omega
            have hne' : ¬ wr.heap.size = w.heap.size := by omega
            have CL : Hid (∀ W, Below wr.heap.size wr W → wr.heap.size + 1 ≤ W.heap.size → (W.cell? ⟨wr.heap.size, 0, none⟩ = some (.int .i64 k) ∧ W.cell? ⟨wr.heap.size, 1, none⟩ = some (.int .i64 n) ∧ W.cell? ⟨wr.heap.size, 2, none⟩ = some (.string s) ∧ W.cell? ⟨wr.heap.size, 3, none⟩ = some (.slice pm l.len cm)) → Calls Try.prog 15 #[.string s] W fun e w' => e = .returned (.string s) ∧ Below W.heap.size W w' ∧ (w'.cell? ⟨wr.heap.size, 0, none⟩ = some (.int .i64 k) ∧ w'.cell? ⟨wr.heap.size, 1, none⟩ = some (.int .i64 n) ∧ w'.cell? ⟨wr.heap.size, 2, none⟩ = some (.string s) ∧ w'.cell? ⟨wr.heap.size, 3, none⟩ = some (.slice pm l.len cm))
                ∧ (w'.cell? ⟨w.heap.size, i * 4, none⟩ = some x0 ∧ w'.cell? ⟨w.heap.size, i * 4 + 1, none⟩ = some x1 ∧ w'.cell? ⟨w.heap.size, i * 4 + 2, none⟩ = some x2 ∧ w'.cell? ⟨w.heap.size, i * 4 + 3, none⟩ = some x3 ∧ ∀ j, w'.frozen? ⟨w.heap.size, j, none⟩ = false)) :=
              fun W hW hWz hS => (Wc.clone s W (by have := hok.out.2.2.1; omega)).mono (fun e w' h => by
                obtain ⟨hca, hfa⟩ := bcell (hW.trans (h.2.mono hW.size))
                obtain ⟨hcb, _⟩ := bcell h.2
                exact ⟨h.1, h.2, ⟨(hcb _ _ (by omega)).trans hS.1, (hcb _ _ (by omega)).trans hS.2.1, (hcb _ _ (by omega)).trans hS.2.2.1, (hcb _ _ (by omega)).trans hS.2.2.2⟩, (hca _ _ (by omega)).trans t0, (hca _ _ (by omega)).trans t1, (hca _ _ (by omega)).trans t2, (hca _ _ (by omega)).trans t3, fun j => (hfa _ _ (by omega)).trans (f0 j)⟩)
            have CD : Hid (∀ W, Below wr.heap.size wr W → wr.heap.size + 1 ≤ W.heap.size → (W.cell? ⟨wr.heap.size, 0, none⟩ = some (.int .i64 k) ∧ W.cell? ⟨wr.heap.size, 1, none⟩ = some (.int .i64 n) ∧ W.cell? ⟨wr.heap.size, 2, none⟩ = some (.string s) ∧ W.cell? ⟨wr.heap.size, 3, none⟩ = some (.slice pm l.len cm)) → Calls Try.prog 35 #[(.slice pm l.len cm)] W fun e w' => ∃ pn cn, e = .returned (.slice pn l.len cn) ∧ Hid (Rd w' (fun x => w.heap.size < x) (.slice pn l.len cn) l) ∧ Below W.heap.size W w' ∧ (w'.cell? ⟨wr.heap.size, 0, none⟩ = some (.int .i64 k) ∧ w'.cell? ⟨wr.heap.size, 1, none⟩ = some (.int .i64 n) ∧ w'.cell? ⟨wr.heap.size, 2, none⟩ = some (.string s) ∧ w'.cell? ⟨wr.heap.size, 3, none⟩ = some (.slice pm l.len cm))
                ∧ (w'.cell? ⟨w.heap.size, i * 4, none⟩ = some x0 ∧ w'.cell? ⟨w.heap.size, i * 4 + 1, none⟩ = some x1 ∧ w'.cell? ⟨w.heap.size, i * 4 + 2, none⟩ = some x2 ∧ w'.cell? ⟨w.heap.size, i * 4 + 3, none⟩ = some x3 ∧ ∀ j, w'.frozen? ⟨w.heap.size, j, none⟩ = false)) :=
              fun W hW hWz hS => (IH.out l (.slice pm l.len cm) W A N1.out N3.out hok.out.2.2.2.1 (rd_below (rd_below KM.out hb) hW)).mono (fun e w' h => by
                obtain ⟨pn, cn, he, hR, hB⟩ := h
                obtain ⟨hca, hfa⟩ := bcell (hW.trans (hB.mono hW.size))
                obtain ⟨hcb, _⟩ := bcell hB
                exact ⟨pn, cn, he, rd_of (fun g hg => by omega) (fun _ _ _ h => h) hR, hB, ⟨(hcb _ _ (by omega)).trans hS.1, (hcb _ _ (by omega)).trans hS.2.1, (hcb _ _ (by omega)).trans hS.2.2.1, (hcb _ _ (by omega)).trans hS.2.2.2⟩, (hca _ _ (by omega)).trans t0, (hca _ _ (by omega)).trans t1, (hca _ _ (by omega)).trans t2, (hca _ _ (by omega)).trans t3, fun j => (hfa _ _ (by omega)).trans (f0 j)⟩)
            clear hM hr hcc k0 k1 k2 k3 hgb hmk cz z t0 t1 t2 t3 f0
            go_wp2_with fail
            go_region_held3 (fun w' => w'.cell? ⟨wr.heap.size, 0, none⟩ = some (.int .i64 k) ∧ w'.cell? ⟨wr.heap.size, 1, none⟩ = some (.int .i64 n) ∧ w'.cell? ⟨wr.heap.size, 2, none⟩ = some (.string s) ∧ w'.cell? ⟨wr.heap.size, 3, none⟩ = some (.slice pm l.len cm))
              (first | exact hSC | exact hSD | go_keep)
              (first
                | (go_at_call 15; refine (CL.out _ (by first | exact ((Below.refl _ _).alloc (Nat.le_refl _) _).drew | exact ((Below.refl _ _).alloc (Nat.le_refl _) _).drew.trans (bD.mono (by simp))) (by first | simp | (have := bD.size; simp at this; omega)) (by first | exact hSD | go_keep)).mono ?_; rintro e wC ⟨rfl, bC, hSC, tC⟩)
                | (go_at_call 35; refine (CD.out _ (by first | exact ((Below.refl _ _).alloc (Nat.le_refl _) _).drew | exact ((Below.refl _ _).alloc (Nat.le_refl _) _).drew.trans (bC.mono (by simp))) (by first | simp | (have := bC.size; simp at this; omega)) (by first | exact hSC | go_keep)).mono ?_; rintro e wD ⟨pn, cn, rfl, hRD, bD, hSD, tD⟩))
            have hWC : Below wr.heap.size wr wC := ((Below.refl _ _).alloc (Nat.le_refl _) _).drew.trans (bC.mono (by simp))
            have hWD : Below wr.heap.size wr wD := hWC.trans (bD.mono hWC.size)
            have z := hz.out
            have hcs' := hcs.out
            have hrowD : wD.heap[w.heap.size]? = some (.cells cur 37 (0, 0)) := (hWD.block _ (by omega)).trans hrow.out
            obtain ⟨cur', p1, p2, p3⟩ := put4_row hrowD (j := i * 4) (by omega) (.int .i64 k) (.int .i64 n) (.string s) (.slice pn l.len cn)
            have P1 : Hid _ := p1
            have P2 : Hid _ := p2
            have P3 : Hid _ := p3
            have hsz := hWD.size
            clear p1 p2 p3 hrowD hcs'
            go_wp2_with fail
            go_roundw
            case rel =>
              refine ⟨i + 1, r, pre.app (.cons k n s l .nil), cur', by go_num, by simp only [F.len] at hg; omega, by rw [F.len_app, hpl]; rfl, ?_, N2, hok.out.2.2.2.2, ?_, ?_, P1.out, ?_, ?_, by rw [Nat.add_mul]; exact KR⟩
              · show _ = _
                rw [F.snoc_app]; exact hpa.out
              · exact put4_below (hb.trans (hWD.mono (by omega))) (Nat.le_refl _) _ _ _ _
              · show _ ≤ (put4 wD w.heap.size (i * 4) (.int .i64 k) (.int .i64 n) (.string s) (.slice pn l.len cn)).heap.size
                rw [put4_size]; omega
              · show _ = _
                rw [P2.out]; exact hcs.out
              · show Fits (put4 wD w.heap.size (i * 4) (.int .i64 k) (.int .i64 n) (.string s) (.slice pn l.len cn)) _ _ _
                rw [Nat.add_mul, P3.out]
                have ho : ∀ g, w.heap.size < g → ∀ o, wD.heap[g]? = some o → (put4 wD w.heap.size (i * 4) (.int .i64 k) (.int .i64 n) (.string s) (.slice pn l.len cn)).heap[g]? = some o := fun g hg o h => (put4_other (by omega)).trans h
                exact fits_app (fits_of (fun _ h => h) ho (fits_below hpre.out hWD)) (fits_one (rd_of (fun _ h => h) ho hRD.out))
            case measure => simp [intOf]; omega
        · match g, hg with
          | .cons .., hg => simp [F.len] at hg; omega
          | .nil, hg =>
            have hpf : f = pre := by have := hpa.out; rw [F.app_nil] at this; exact this.symm
            go_wp2_with fail
            go_ret
            refine ⟨_, _, rfl, ?_, hb⟩
            have hi : i = f.len := by simp only [F.len] at hg; omega
            have h := hpre.out
            rw [hi, ← hpf] at h
            exact rd_row hrow.out (Nat.le_refl _) (fun x hx => by omega) h (Nat.le_refl _) (by unfold maxLen; omega)

end Go.Proofs.Ytainajjklakaeaa.Wy
