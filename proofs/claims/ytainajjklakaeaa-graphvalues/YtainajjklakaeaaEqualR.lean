/-
  The walks of the document's Equal, and of the law's own 'same': the first returns what 'eq1', 'eqF' say of the values that it is handed; the second returns true where the two values that it is handed read alike. Nothing that was in memory has turned. Conditions: none but that the values can be read.
-/
import Derived.Test.YtainajjklakaeaaEqual
namespace Go.Proofs.Ytainajjklakaeaa.We
open Go.ChangeShapes Go.WideShapes Go.ChangeAt Go.RowKit Go.Proofs.Ytainajjklakaeaa.M

theorem eq1_two (n : Int) (s : ByteArray) (n' : Int) (s' : ByteArray) (b : Bool) : eq1 2 n s 2 n' s' b = b := by simp [eq1]

theorem same (N : Nat) : ∀ (k n : Int) (s : ByteArray) (l : F) (L L' : Value) (w : World) (A A' : Nat → Prop), l.nodes < N → Rd w A L l → Rd w A' L' l →
    Calls Try.prog 9 #[.agg #[.int .i64 k, .int .i64 n, .string s, L], .agg #[.int .i64 k, .int .i64 n, .string s, L']] w fun e w' => e = .returned (.bool true) ∧ Below w.heap.size w w' := by
  induction N with
  | zero => intro k n s l L L' w A A' h; omega
  | succ N ih =>
    intro kk nn ss f L L' w A A' hN hL hL'
    have IH : Hid _ := ih
    clear ih
    obtain ⟨p, cap, xs, rfl, b1, b2, hf, hc⟩ := rd_form hL
    obtain ⟨p', cap', xs', rfl, b1', b2', hf', hc'⟩ := rd_form hL'
    unfold maxLen at b2 b2'
    have HC : Hid _ := hc
    have HC' : Hid _ := hc'
    have HF : Hid _ := hf
    have HF' : Hid _ := hf'
    clear hc hc' hf hf'
    have HN : Hid _ := hN
    clear hL hL' hN
    go_enter Try.func9, Try.ntmps9
    go_wp2_with fail
    go_loopw [37] (fun iv wr => ∃ (i : Nat) (g : F), iv = .int .i64 (i : Int) ∧ g.len + i = f.len ∧ Hid (g.nodes ≤ f.nodes) ∧ Below w.heap.size w wr ∧ Hid (w.heap.size + 2 ≤ wr.heap.size) ∧ wr.cell? ⟨w.heap.size, 3, none⟩ = some (.slice p f.len cap) ∧ wr.cell? ⟨w.heap.size + 1, 3, none⟩ = some (.slice p' f.len cap') ∧ Hid (Fits w A g (xs.drop (i * 4))) ∧ Hid (Fits w A' g (xs'.drop (i * 4)))) (fun i _ => f.len - (intOf i).toNat)
    case atStart => exact ⟨0, f, rfl, by omega, Nat.le_refl _, ((Below.refl _ _).alloc (Nat.le_refl _) _).alloc (by simp) _, by show _ ≤ _; simp, by simp [go_sem], by simp [go_sem], HF, HF'⟩
    case round =>
      obtain ⟨i, g, rfl, hg, hn, hb, hz, x3, y3, h1, h2⟩ := hrel
      by_cases hlt : i < f.len
      · match g, hg with
        | .nil, hg => simp [F.len] at hg; omega
        | .cons k n s l r, hg =>
          obtain ⟨gb, M, rfl, _, hgb, k0, k1, k2, k3, hM, hr⟩ := fits_next (c := w.cell?) h1.out HC.out
          obtain ⟨gb', M', rfl, _, hgb', k0', k1', k2', k3', hM', hr'⟩ := fits_next (c := w.cell?) h2.out HC'.out
          have N1 : Hid (l.nodes < N) := by have h1 := hn.out; have h2 := HN.out; simp only [F.nodes] at h1; show l.nodes < N; omega
          have N2 : Hid (r.nodes ≤ f.nodes) := by have h1 := hn.out; simp only [F.nodes] at h1; show r.nodes ≤ f.nodes; omega
          obtain ⟨hcc, _⟩ := bcell hb
          have q0 := (hcc gb (i * 4) hgb).trans k0
          have q1 := (hcc gb (i * 4 + 1) hgb).trans k1
          have q2 := (hcc gb (i * 4 + 2) hgb).trans k2
          have q3 := (hcc gb (i * 4 + 3) hgb).trans k3
          have r0 := (hcc gb' (i * 4) hgb').trans k0'
          have r1 := (hcc gb' (i * 4 + 1) hgb').trans k1'
          have r2 := (hcc gb' (i * 4 + 2) hgb').trans k2'
          have r3 := (hcc gb' (i * 4 + 3) hgb').trans k3'
          have I0 : (0 : Int) ≤ (i : Int) := by omega
          have I1 : (i : Int) < (f.len : Int) := by omega
          have KM : Hid (Rd w A M l) := hM
          have KM' : Hid (Rd w A' M' l) := hM'
          have KR : Hid _ := hr
          have KR' : Hid _ := hr'
          clear hM hM' hr hr' hcc
          have CC : Hid (∀ W, Below wr.heap.size wr W → Calls Try.prog 9 #[.agg #[.int .i64 k, .int .i64 n, .string s, M], .agg #[.int .i64 k, .int .i64 n, .string s, M']] W fun e w' => e = .returned (.bool true) ∧ Below W.heap.size W w' ∧ (w'.cell? ⟨w.heap.size, 3, none⟩ = some (.slice (some ⟨gb, 0, none⟩) f.len cap) ∧ w'.cell? ⟨w.heap.size + 1, 3, none⟩ = some (.slice (some ⟨gb', 0, none⟩) f.len cap') ∧ w'.cell? ⟨gb, i * 4, none⟩ = some (.int .i64 k) ∧ w'.cell? ⟨gb, i * 4 + 1, none⟩ = some (.int .i64 n) ∧ w'.cell? ⟨gb, i * 4 + 2, none⟩ = some (.string s) ∧ w'.cell? ⟨gb, i * 4 + 3, none⟩ = some M ∧ w'.cell? ⟨gb', i * 4, none⟩ = some (.int .i64 k) ∧ w'.cell? ⟨gb', i * 4 + 1, none⟩ = some (.int .i64 n) ∧ w'.cell? ⟨gb', i * 4 + 2, none⟩ = some (.string s) ∧ w'.cell? ⟨gb', i * 4 + 3, none⟩ = some M')) :=
            fun W hW => (IH.out k n s l M M' W A A' N1.out (rd_below (rd_below KM.out hb) hW) (rd_below (rd_below KM'.out hb) hW)).mono
              (fun e w' h => by
                obtain ⟨hcc, _⟩ := bcell (hW.trans (h.2.mono hW.size))
                have z := hz.out
                exact ⟨h.1, h.2, (hcc _ _ (by omega)).trans x3, (hcc _ _ (by omega)).trans y3, (hcc gb _ (by omega)).trans q0, (hcc gb _ (by omega)).trans q1, (hcc gb _ (by omega)).trans q2, (hcc gb _ (by omega)).trans q3, (hcc gb' _ (by omega)).trans r0, (hcc gb' _ (by omega)).trans r1, (hcc gb' _ (by omega)).trans r2, (hcc gb' _ (by omega)).trans r3⟩)
          clear k0 k1 k2 k3 k0' k1' k2' k3' hgb hgb'
          go_wp2_with fail
          go_region_held3 (fun w' => w'.cell? ⟨w.heap.size, 3, none⟩ = some (.slice (some ⟨gb, 0, none⟩) f.len cap) ∧ w'.cell? ⟨w.heap.size + 1, 3, none⟩ = some (.slice (some ⟨gb', 0, none⟩) f.len cap') ∧ w'.cell? ⟨gb, i * 4, none⟩ = some (.int .i64 k) ∧ w'.cell? ⟨gb, i * 4 + 1, none⟩ = some (.int .i64 n) ∧ w'.cell? ⟨gb, i * 4 + 2, none⟩ = some (.string s) ∧ w'.cell? ⟨gb, i * 4 + 3, none⟩ = some M ∧ w'.cell? ⟨gb', i * 4, none⟩ = some (.int .i64 k) ∧ w'.cell? ⟨gb', i * 4 + 1, none⟩ = some (.int .i64 n) ∧ w'.cell? ⟨gb', i * 4 + 2, none⟩ = some (.string s) ∧ w'.cell? ⟨gb', i * 4 + 3, none⟩ = some M')
            (first | exact hS | go_keep) ((go_at_call 9; refine (CC.out _ (Below.refl _ _).drew).mono ?_; rintro e w2 ⟨rfl, b2, hS⟩))
          go_wp2_with fail
          go_roundw
          case rel => exact ⟨i + 1, r, by go_num, by simp only [F.len] at hg; omega, N2, hb.drew.trans (b2.mono hb.size), Nat.le_trans hz.out b2.size, hS.1, hS.2.1, by rw [Nat.add_mul]; exact KR, by rw [Nat.add_mul]; exact KR'⟩
          case measure => simp [intOf]; omega
      · match g, hg with
        | .cons .., hg => simp [F.len] at hg; omega
        | .nil, hg =>
          go_wp2_with fail
          go_ret
          exact ⟨rfl, hb⟩

end Go.Proofs.Ytainajjklakaeaa.We
