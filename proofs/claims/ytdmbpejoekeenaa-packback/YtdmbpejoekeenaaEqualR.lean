/-
  The walks of the document's Equal, and of the law's own 'same': the first returns what 'eq1', 'eqF' say of the values that it is handed; the second returns true where the two values that it is handed read alike. Nothing that was in memory has turned. Conditions: none but that the values can be read.
-/
import Derived.Test.YtdmbpejoekeenaaEqual
namespace Go.Proofs.Ytdmbpejoekeenaa.We
open Go.ChangeShapes Go.WideShapes Go.ChangeAt Go.RowKit Go.Proofs.Ytdmbpejoekeenaa.M

theorem equal (k n : Int) (s : ByteArray) (l : F) (L : Value) (k' n' : Int) (s' : ByteArray) (l' : F) (L' : Value) (w : World) (A A' : Nat → Prop) (hL : Rd w A L l) (hL' : Rd w A' L' l') :
    Calls Try.prog 16 #[.agg #[.int .i64 k, .int .i64 n, .string s, L], .agg #[.int .i64 k', .int .i64 n', .string s', L']] w fun e w' => e = .returned (.bool (eq1 k n s k' n' s' (eqF l l'))) ∧ Below w.heap.size w w' :=
  equal0 k n s L k' n' s' L' (eqF l l') w (fun _ _ w' hb => lists (l.nodes + 1) l l' L L' w' A A' (Nat.lt_succ_self _) (rd_below hL hb) (rd_below hL' hb))

theorem refSmall (k n : Int) (s : ByteArray) (L : Value) (k' n' : Int) (s' : ByteArray) (L' : Value) (b : Bool) (w : World) (hc : ¬ (k = k' ∧ k = 2)) :
    Calls Try.prog 17 #[.agg #[.int .i64 k, .int .i64 n, .string s, L], .agg #[.int .i64 k', .int .i64 n', .string s', L']] w fun e w' => e = .returned (.bool (eq1 k n s k' n' s' b)) ∧ Below w.heap.size w w' := by
  by_cases c : k = k'
  · subst c
    have e0 : eq1 k n s k n' s' b = if k = 0 then n == n' else if k = 1 then s.toList == s'.toList else if k = 2 then b else true := by unfold eq1; rw [if_pos rfl]
    have c2 : ¬ k = 2 := by omega
    clear hc
    rw [e0]
    clear e0
    by_cases c0 : k = 0
    · rw [if_pos c0]
      subst c0
      go_enter Try.func17, Try.ntmps17
      go_wp2_with fail
      go_ret
      exact ⟨rfl, ((Below.refl _ _).alloc (Nat.le_refl _) _).alloc (by simp) _⟩
    · rw [if_neg c0]
      by_cases c1 : k = 1
      · rw [if_pos c1]
        subst c1
        go_enter Try.func17, Try.ntmps17
        go_wp2_with fail
        go_ret
        exact ⟨rfl, ((Below.refl _ _).alloc (Nat.le_refl _) _).alloc (by simp) _⟩
      · rw [if_neg c1, if_neg c2]
        go_enter Try.func17, Try.ntmps17
        go_wp2_with fail
        go_ret
        exact ⟨rfl, ((Below.refl _ _).alloc (Nat.le_refl _) _).alloc (by simp) _⟩
  · have e0 : eq1 k n s k' n' s' b = false := by unfold eq1; rw [if_neg c]
    rw [e0]
    clear e0 hc
    have c' : (k == k') = false := by simpa using c
    clear c
    go_enter Try.func17, Try.ntmps17
    go_wp2_with fail
    go_ret
    exact ⟨rfl, ((Below.refl _ _).alloc (Nat.le_refl _) _).alloc (by simp) _⟩

theorem eq1_two (n : Int) (s : ByteArray) (n' : Int) (s' : ByteArray) (b : Bool) : eq1 2 n s 2 n' s' b = b := by simp [eq1]

theorem ref (N : Nat) : ∀ (k n : Int) (s : ByteArray) (l : F) (L : Value) (k' n' : Int) (s' : ByteArray) (l' : F) (L' : Value) (w : World) (A A' : Nat → Prop), l.nodes < N → Rd w A L l → Rd w A' L' l' →
    Calls Try.prog 17 #[.agg #[.int .i64 k, .int .i64 n, .string s, L], .agg #[.int .i64 k', .int .i64 n', .string s', L']] w fun e w' => e = .returned (.bool (eq1 k n s k' n' s' (eqF l l'))) ∧ Below w.heap.size w w' := by
  induction N with
  | zero => intro k n s l L k' n' s' l' L' w A A' h; omega
  | succ N ih =>
    intro kk nn ss f L kk' nn' ss' f' L' w A A' hN hL hL'
    by_cases ck : ¬ (kk = kk' ∧ kk = 2)
    · exact refSmall kk nn ss L kk' nn' ss' L' _ w ck
    obtain ⟨c1, c2⟩ := Decidable.not_not.1 ck
    clear ck
    subst c1
    subst c2
    rw [eq1_two]
    have IH : Hid _ := ih
    clear ih
    obtain ⟨p, cap, xs, rfl, b1, b2, hf, hc⟩ := rd_form hL
    obtain ⟨p', cap', xs', rfl, b1', b2', hf', hc'⟩ := rd_form hL'
    unfold maxLen at b2 b2'
    by_cases cl : f.len = f'.len
    · have HC : Hid _ := hc
      have HC' : Hid _ := hc'
      have HF : Hid _ := hf
      have HF' : Hid _ := hf'
      clear hc hc' hf hf'
      have CL : Hid _ := cl
      have HN : Hid _ := hN
      clear hL hL' hN
      have cl' : ((f.len : Int) != (f'.len : Int)) = false := by simp [cl]
      clear cl
      go_enter Try.func17, Try.ntmps17
      go_wp2_with fail
      go_loopw [5] (fun iv wr => ∃ (i : Nat) (g g' : F), iv = .int .i64 (i : Int) ∧ g.len + i = f.len ∧ g'.len + i = f'.len ∧ Hid (g.nodes ≤ f.nodes) ∧ Hid (eqF f f' = eqF g g') ∧ Below w.heap.size w wr ∧ Hid (w.heap.size + 2 ≤ wr.heap.size) ∧ wr.cell? ⟨w.heap.size, 3, none⟩ = some (.slice p f.len cap) ∧ wr.cell? ⟨w.heap.size + 1, 3, none⟩ = some (.slice p' f'.len cap') ∧ Hid (Fits w A g (xs.drop (i * 4))) ∧ Hid (Fits w A' g' (xs'.drop (i * 4)))) (fun i _ => f.len - (intOf i).toNat)
      case atStart => exact ⟨0, f, f', rfl, by omega, by omega, Nat.le_refl _, rfl, ((Below.refl _ _).alloc (Nat.le_refl _) _).alloc (by simp) _, by show _ ≤ _; simp, by simp [go_sem], by simp [go_sem], HF, HF'⟩
      case round =>
        obtain ⟨i, g, g', rfl, hg, hg', hn, he, hb, hz, x3, y3, h1, h2⟩ := hrel
        by_cases hlt : i < f.len
        · match g, g', hg, hg' with
          | .nil, _, hg, _ => simp [F.len] at hg; omega
          | .cons .., .nil, _, hg' => have := CL.out; simp [F.len] at hg'; omega
          | .cons k n s l r, .cons k' n' s' l' r', hg, hg' =>
            obtain ⟨gb, M, rfl, _, hgb, k0, k1, k2, k3, hM, hr⟩ := fits_next (c := w.cell?) h1.out HC.out
            obtain ⟨gb', M', rfl, _, hgb', k0', k1', k2', k3', hM', hr'⟩ := fits_next (c := w.cell?) h2.out HC'.out
            have N1 : Hid (l.nodes < N) := by have h1 := hn.out; have h2 := HN.out; simp only [F.nodes] at h1; show l.nodes < N; omega
            have N2 : Hid (r.nodes ≤ f.nodes) := by have h1 := hn.out; simp only [F.nodes] at h1; show r.nodes ≤ f.nodes; omega
            obtain ⟨hcc, _⟩ := bcell hb
            have q0 := (hcc gb (i * 4) hgb).trans k0
            have q1 := (hcc gb (i * 4 + 1) hgb).trans k1
            have q2 := (hcc gb (i * 4 + 2) hgb).trans k2
            have q3 := (hcc gb (i * 4 + 3) hgb).trans k3
            have r0 := (hcc gb' (i * 4) hgb').trans k0'
            have r1 := (hcc gb' (i * 4 + 1) hgb').trans k1'
            have r2 := (hcc gb' (i * 4 + 2) hgb').trans k2'
            have r3 := (hcc gb' (i * 4 + 3) hgb').trans k3'
            have I0 : (0 : Int) ≤ (i : Int) := by omega
            have I1 : (i : Int) < (f.len : Int) := by omega
            have I2 : (i : Int) < (f'.len : Int) := by have := CL.out; omega
            have KM : Hid (Rd w A M l) := hM
            have KM' : Hid (Rd w A' M' l') := hM'
            have KR : Hid _ := hr
            have KR' : Hid _ := hr'
            clear hM hM' hr hr' hcc
            obtain ⟨bb, hbb⟩ : ∃ bb, Hid (bb = eq1 k n s k' n' s' (eqF l l')) := ⟨_, rfl⟩
            have CC : Hid (∀ W, Below wr.heap.size wr W → Calls Try.prog 17 #[.agg #[.int .i64 k, .int .i64 n, .string s, M], .agg #[.int .i64 k', .int .i64 n', .string s', M']] W fun e w' => e = .returned (.bool bb) ∧ Below W.heap.size W w' ∧ (w'.cell? ⟨w.heap.size, 3, none⟩ = some (.slice (some ⟨gb, 0, none⟩) f.len cap) ∧ w'.cell? ⟨w.heap.size + 1, 3, none⟩ = some (.slice (some ⟨gb', 0, none⟩) f'.len cap') ∧ w'.cell? ⟨gb, i * 4, none⟩ = some (.int .i64 k) ∧ w'.cell? ⟨gb, i * 4 + 1, none⟩ = some (.int .i64 n) ∧ w'.cell? ⟨gb, i * 4 + 2, none⟩ = some (.string s) ∧ w'.cell? ⟨gb, i * 4 + 3, none⟩ = some M ∧ w'.cell? ⟨gb', i * 4, none⟩ = some (.int .i64 k') ∧ w'.cell? ⟨gb', i * 4 + 1, none⟩ = some (.int .i64 n') ∧ w'.cell? ⟨gb', i * 4 + 2, none⟩ = some (.string s') ∧ w'.cell? ⟨gb', i * 4 + 3, none⟩ = some M')) :=
              fun W hW => (IH.out k n s l M k' n' s' l' M' W A A' N1.out (rd_below (rd_below KM.out hb) hW) (rd_below (rd_below KM'.out hb) hW)).mono
                (fun e w' h => by
                  obtain ⟨hcc, _⟩ := bcell (hW.trans (h.2.mono hW.size))
                  have z := hz.out
                  exact ⟨hbb.out ▸ h.1, h.2, (hcc _ _ (by omega)).trans x3, (hcc _ _ (by omega)).trans y3, (hcc gb _ (by omega)).trans q0, (hcc gb _ (by omega)).trans q1, (hcc gb _ (by omega)).trans q2, (hcc gb _ (by omega)).trans q3, (hcc gb' _ (by omega)).trans r0, (hcc gb' _ (by omega)).trans r1, (hcc gb' _ (by omega)).trans r2, (hcc gb' _ (by omega)).trans r3⟩)
            clear k0 k1 k2 k3 k0' k1' k2' k3' hgb hgb'
            go_wp2_with fail
            go_region_held3 (fun w' => w'.cell? ⟨w.heap.size, 3, none⟩ = some (.slice (some ⟨gb, 0, none⟩) f.len cap) ∧ w'.cell? ⟨w.heap.size + 1, 3, none⟩ = some (.slice (some ⟨gb', 0, none⟩) f'.len cap') ∧ w'.cell? ⟨gb, i * 4, none⟩ = some (.int .i64 k) ∧ w'.cell? ⟨gb, i * 4 + 1, none⟩ = some (.int .i64 n) ∧ w'.cell? ⟨gb, i * 4 + 2, none⟩ = some (.string s) ∧ w'.cell? ⟨gb, i * 4 + 3, none⟩ = some M ∧ w'.cell? ⟨gb', i * 4, none⟩ = some (.int .i64 k') ∧ w'.cell? ⟨gb', i * 4 + 1, none⟩ = some (.int .i64 n') ∧ w'.cell? ⟨gb', i * 4 + 2, none⟩ = some (.string s') ∧ w'.cell? ⟨gb', i * 4 + 3, none⟩ = some M')
              (first | exact hS | go_keep) ((go_at_call 17; refine (CC.out _ (Below.refl _ _).drew).mono ?_; rintro e w2 ⟨rfl, b2, hS⟩))
            have ef : Hid (eqF f f' = (bb && eqF r r')) := by rw [hbb.out]; exact he.out
            cases bb
            · go_wp2_with fail
              go_ret
              exact ⟨by rw [ef.out]; rfl, hb.drew.trans (b2.mono hb.size)⟩
            · go_wp2_with fail
              go_roundw
              case rel => exact ⟨i + 1, r, r', by go_num, by simp only [F.len] at hg; omega, by simp only [F.len] at hg'; omega, N2, ef, hb.drew.trans (b2.mono hb.size), Nat.le_trans hz.out b2.size, hS.1, hS.2.1, by rw [Nat.add_mul]; exact KR, by rw [Nat.add_mul]; exact KR'⟩
              case measure => simp [intOf]; omega
        · match g, g', hg, hg' with
          | .cons .., _, hg, _ => simp [F.len] at hg; omega
          | .nil, .cons .., _, hg' => have := CL.out; simp [F.len] at hg'; omega
          | .nil, .nil, hg, hg' =>
            go_wp2_with fail
            go_ret
            exact ⟨by rw [he.out]; rfl, hb⟩
    · rw [eqF_len cl]
      have cl' : ((f.len : Int) != (f'.len : Int)) = true := by simp; omega
      clear hc hc' hf hf' hL hL' hN cl
      go_enter Try.func17, Try.ntmps17
      go_wp2_with fail
      go_ret
      exact ⟨rfl, ((Below.refl _ _).alloc (Nat.le_refl _) _).alloc (by simp) _⟩

theorem same (N : Nat) : ∀ (k n : Int) (s : ByteArray) (l : F) (L L' : Value) (w : World) (A A' : Nat → Prop), l.nodes < N → Rd w A L l → Rd w A' L' l →
    Calls Try.prog 15 #[.agg #[.int .i64 k, .int .i64 n, .string s, L], .agg #[.int .i64 k, .int .i64 n, .string s, L']] w fun e w' => e = .returned (.bool true) ∧ Below w.heap.size w w' := by
  induction N with
  | zero => intro k n s l L L' w A A' h; omega
  | succ N ih =>
    intro kk nn ss f L L' w A A' hN hL hL'
    have IH : Hid _ := ih
    clear ih
    obtain ⟨p, cap, xs, rfl, b1, b2, hf, hc⟩ := rd_form hL
    obtain ⟨p', cap', xs', rfl, b1', b2', hf', hc'⟩ := rd_form hL'
    unfold maxLen at b2 b2'
    have HC : Hid _ := hc
    have HC' : Hid _ := hc'
    have HF : Hid _ := hf
    have HF' : Hid _ := hf'
    clear hc hc' hf hf'
    have HN : Hid _ := hN
    clear hL hL' hN
    go_enter Try.func15, Try.ntmps15
    go_wp2_with fail
    go_loopw [37] (fun iv wr => ∃ (i : Nat) (g : F), iv = .int .i64 (i : Int) ∧ g.len + i = f.len ∧ Hid (g.nodes ≤ f.nodes) ∧ Below w.heap.size w wr ∧ Hid (w.heap.size + 2 ≤ wr.heap.size) ∧ wr.cell? ⟨w.heap.size, 3, none⟩ = some (.slice p f.len cap) ∧ wr.cell? ⟨w.heap.size + 1, 3, none⟩ = some (.slice p' f.len cap') ∧ Hid (Fits w A g (xs.drop (i * 4))) ∧ Hid (Fits w A' g (xs'.drop (i * 4)))) (fun i _ => f.len - (intOf i).toNat)
    case atStart => exact ⟨0, f, rfl, by omega, Nat.le_refl _, ((Below.refl _ _).alloc (Nat.le_refl _) _).alloc (by simp) _, by show _ ≤ _; simp, by simp [go_sem], by simp [go_sem], HF, HF'⟩
    case round =>
      obtain ⟨i, g, rfl, hg, hn, hb, hz, x3, y3, h1, h2⟩ := hrel
      by_cases hlt : i < f.len
      · match g, hg with
        | .nil, hg => simp [F.len] at hg; omega
        | .cons k n s l r, hg =>
          obtain ⟨gb, M, rfl, _, hgb, k0, k1, k2, k3, hM, hr⟩ := fits_next (c := w.cell?) h1.out HC.out
          obtain ⟨gb', M', rfl, _, hgb', k0', k1', k2', k3', hM', hr'⟩ := fits_next (c := w.cell?) h2.out HC'.out
          have N1 : Hid (l.nodes < N) := by have h1 := hn.out; have h2 := HN.out; simp only [F.nodes] at h1; show l.nodes < N; omega
          have N2 : Hid (r.nodes ≤ f.nodes) := by have h1 := hn.out; simp only [F.nodes] at h1; show r.nodes ≤ f.nodes; omega
          obtain ⟨hcc, _⟩ := bcell hb
          have q0 := (hcc gb (i * 4) hgb).trans k0
          have q1 := (hcc gb (i * 4 + 1) hgb).trans k1
          have q2 := (hcc gb (i * 4 + 2) hgb).trans k2
          have q3 := (hcc gb (i * 4 + 3) hgb).trans k3
          have r0 := (hcc gb' (i * 4) hgb').trans k0'
          have r1 := (hcc gb' (i * 4 + 1) hgb').trans k1'
          have r2 := (hcc gb' (i * 4 + 2) hgb').trans k2'
          have r3 := (hcc gb' (i * 4 + 3) hgb').trans k3'
          have I0 : (0 : Int) ≤ (i : Int) := by omega
          have I1 : (i : Int) < (f.len : Int) := by omega
          have KM : Hid (Rd w A M l) := hM
          have KM' : Hid (Rd w A' M' l) := hM'
          have KR : Hid _ := hr
          have KR' : Hid _ := hr'
          clear hM hM' hr hr' hcc
          have CC : Hid (∀ W, Below wr.heap.size wr W → Calls Try.prog 15 #[.agg #[.int .i64 k, .int .i64 n, .string s, M], .agg #[.int .i64 k, .int .i64 n, .string s, M']] W fun e w' => e = .returned (.bool true) ∧ Below W.heap.size W w' ∧ (w'.cell? ⟨w.heap.size, 3, none⟩ = some (.slice (some ⟨gb, 0, none⟩) f.len cap) ∧ w'.cell? ⟨w.heap.size + 1, 3, none⟩ = some (.slice (some ⟨gb', 0, none⟩) f.len cap') ∧ w'.cell? ⟨gb, i * 4, none⟩ = some (.int .i64 k) ∧ w'.cell? ⟨gb, i * 4 + 1, none⟩ = some (.int .i64 n) ∧ w'.cell? ⟨gb, i * 4 + 2, none⟩ = some (.string s) ∧ w'.cell? ⟨gb, i * 4 + 3, none⟩ = some M ∧ w'.cell? ⟨gb', i * 4, none⟩ = some (.int .i64 k) ∧ w'.cell? ⟨gb', i * 4 + 1, none⟩ = some (.int .i64 n) ∧ w'.cell? ⟨gb', i * 4 + 2, none⟩ = some (.string s) ∧ w'.cell? ⟨gb', i * 4 + 3, none⟩ = some M')) :=
            fun W hW => (IH.out k n s l M M' W A A' N1.out (rd_below (rd_below KM.out hb) hW) (rd_below (rd_below KM'.out hb) hW)).mono
              (fun e w' h => by
                obtain ⟨hcc, _⟩ := bcell (hW.trans (h.2.mono hW.size))
                have z := hz.out
                exact ⟨h.1, h.2, (hcc _ _ (by omega)).trans x3, (hcc _ _ (by omega)).trans y3, (hcc gb _ (by omega)).trans q0, (hcc gb _ (by omega)).trans q1, (hcc gb _ (by omega)).trans q2, (hcc gb _ (by omega)).trans q3, (hcc gb' _ (by omega)).trans r0, (hcc gb' _ (by omega)).trans r1, (hcc gb' _ (by omega)).trans r2, (hcc gb' _ (by omega)).trans r3⟩)
          clear k0 k1 k2 k3 k0' k1' k2' k3' hgb hgb'
          go_wp2_with fail
          go_region_held3 (fun w' => w'.cell? ⟨w.heap.size, 3, none⟩ = some (.slice (some ⟨gb, 0, none⟩) f.len cap) ∧ w'.cell? ⟨w.heap.size + 1, 3, none⟩ = some (.slice (some ⟨gb', 0, none⟩) f.len cap') ∧ w'.cell? ⟨gb, i * 4, none⟩ = some (.int .i64 k) ∧ w'.cell? ⟨gb, i * 4 + 1, none⟩ = some (.int .i64 n) ∧ w'.cell? ⟨gb, i * 4 + 2, none⟩ = some (.string s) ∧ w'.cell? ⟨gb, i * 4 + 3, none⟩ = some M ∧ w'.cell? ⟨gb', i * 4, none⟩ = some (.int .i64 k) ∧ w'.cell? ⟨gb', i * 4 + 1, none⟩ = some (.int .i64 n) ∧ w'.cell? ⟨gb', i * 4 + 2, none⟩ = some (.string s) ∧ w'.cell? ⟨gb', i * 4 + 3, none⟩ = some M')
            (first | exact hS | go_keep) ((go_at_call 15; refine (CC.out _ (Below.refl _ _).drew).mono ?_; rintro e w2 ⟨rfl, b2, hS⟩))
          go_wp2_with fail
          go_roundw
          case rel => exact ⟨i + 1, r, by go_num, by simp only [F.len] at hg; omega, N2, hb.drew.trans (b2.mono hb.size), Nat.le_trans hz.out b2.size, hS.1, hS.2.1, by rw [Nat.add_mul]; exact KR, by rw [Nat.add_mul]; exact KR'⟩
          case measure => simp [intOf]; omega
      · match g, hg with
        | .cons .., hg => simp [F.len] at hg; omega
        | .nil, hg =>
          go_wp2_with fail
          go_ret
          exact ⟨rfl, hb⟩

end Go.Proofs.Ytdmbpejoekeenaa.We
