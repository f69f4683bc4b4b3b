/-
  The walks of pack.Equal, pack.equalLists and of the document's Equal: each returns what 'eq1', 'eqF' say of the values that it is handed, and nothing that was in memory has turned. Conditions: none but that the values can be read.
-/
import Derived.Test.YtdhghjfenkjeaaaRows
import Derived.Test.YtdhghjfenkjeaaaMathV
import Derived.WalkKit
import Derived.ProofKit
import Derived.OpenShut
import Derived.Deep.QuietTactic
import Derived.BigQuiet
import Derived.Deep.RegionHeld3
namespace Go.Proofs.Ytdhghjfenkjeaaa.We
open Go.ChangeShapes Go.WideShapes Go.ChangeAt Go.RowKit Go.Proofs.Ytdhghjfenkjeaaa.M

theorem bcell {W w1 : World} (hb : Below W.heap.size W w1) : (∀ b o, b < W.heap.size → w1.cell? ⟨b, o, none⟩ = W.cell? ⟨b, o, none⟩) ∧ (∀ b o, b < W.heap.size → w1.frozen? ⟨b, o, none⟩ = W.frozen? ⟨b, o, none⟩) :=
  ⟨fun b o h => hb.cell (p := ⟨b, o, none⟩) h, fun b o h => hb.frozen (p := ⟨b, o, none⟩) h⟩

theorem equal0 (k n : Int) (s : ByteArray) (L : Value) (k' n' : Int) (s' : ByteArray) (L' : Value) (b : Bool) (w : World)
    (C : Hid (k = k' → k = 2 → ∀ w', Below w.heap.size w w' → Calls Try.prog 44 #[L, L'] w' fun e w'' => e = .returned (.bool b) ∧ Below w'.heap.size w' w'')) :
    Calls Try.prog 20 #[.agg #[.int .i64 k, .int .i64 n, .string s, L], .agg #[.int .i64 k', .int .i64 n', .string s', L']] w fun e w' => e = .returned (.bool (eq1 k n s k' n' s' b)) ∧ Below w.heap.size w w' := by
  by_cases c : k = k'
  · subst c
    have e0 : eq1 k n s k n' s' b = if k = 0 then n == n' else if k = 1 then s.toList == s'.toList else if k = 2 then b else true := by unfold eq1; rw [if_pos rfl]
    rw [e0]
    clear e0
    by_cases c0 : k = 0
    · rw [if_pos c0]
      clear C
      subst c0
      go_enter Try.func20, Try.ntmps20
      go_wp2_with fail
      go_ret
      exact ⟨rfl, ((Below.refl _ _).alloc (Nat.le_refl _) _).alloc (by simp) _⟩
    · rw [if_neg c0]
      by_cases c1 : k = 1
      · rw [if_pos c1]
        clear C
        subst c1
        go_enter Try.func20, Try.ntmps20
        go_wp2_with fail
        go_ret
        exact ⟨rfl, ((Below.refl _ _).alloc (Nat.le_refl _) _).alloc (by simp) _⟩
      · rw [if_neg c1]
        by_cases c2 : k = 2
        · rw [if_pos c2]
          have C2 : Hid _ := C.out rfl c2
          clear C
          subst c2
          go_enter Try.func20, Try.ntmps20
          go_wp2_with fail
          refine (C2.out _ (((Below.refl _ _).alloc (Nat.le_refl _) _).alloc (by simp) _)).mono ?_
          rintro e w1 ⟨rfl, b1⟩
          go_wp2_with fail
          go_ret
          exact ⟨rfl, (((Below.refl _ _).alloc (Nat.le_refl _) _).alloc (by simp) _).trans (b1.mono (by simp; omega))⟩
        · rw [if_neg c2]
          clear C
          go_enter Try.func20, Try.ntmps20
          go_wp2_with fail
          go_ret
          exact ⟨rfl, ((Below.refl _ _).alloc (Nat.le_refl _) _).alloc (by simp) _⟩
  · have e0 : eq1 k n s k' n' s' b = false := by unfold eq1; rw [if_neg c]
    rw [e0]
    clear C e0
    have c' : (k == k') = false := by simpa using c
    clear c
    go_enter Try.func20, Try.ntmps20
    go_wp2_with fail
    go_ret
    exact ⟨rfl, ((Below.refl _ _).alloc (Nat.le_refl _) _).alloc (by simp) _⟩

theorem lists (N : Nat) : ∀ (f f' : F) (L L' : Value) (w : World) (A A' : Nat → Prop), f.nodes < N → Rd w A L f → Rd w A' L' f' →
    Calls Try.prog 44 #[L, L'] w fun e w' => e = .returned (.bool (eqF f f')) ∧ Below w.heap.size w w' := by
  induction N with
  | zero => intro f f' L L' w A A' h; omega
  | succ N ih =>
    intro f f' L L' w A A' hN hL hL'
    have IH : Hid _ := ih
    clear ih
    obtain ⟨p, cap, xs, rfl, b1, b2, hf, hc⟩ := rd_form hL
    obtain ⟨p', cap', xs', rfl, b1', b2', hf', hc'⟩ := rd_form hL'
    unfold maxLen at b2 b2'
    by_cases cl : f.len = f'.len
    · have HC : Hid _ := hc
      have HC' : Hid _ := hc'
      have HF : Hid _ := hf
      have HF' : Hid _ := hf'
      clear hc hc' hf hf'
      have CL : Hid _ := cl
      have HN : Hid _ := hN
      clear hL hL' hN
      have cl' : ((f.len : Int) != (f'.len : Int)) = false := by simp [cl]
      clear cl
      go_enter Try.func44, Try.ntmps44
      go_wp2_with fail
      go_loopw [13] (fun iv wr => ∃ (i : Nat) (g g' : F), iv = .int .i64 (i : Int) ∧ g.len + i = f.len ∧ g'.len + i = f'.len ∧ Hid (g.nodes ≤ f.nodes) ∧ Hid (eqF f f' = eqF g g') ∧ Below w.heap.size w wr ∧ Hid (Fits w A g (xs.drop (i * 4))) ∧ Hid (Fits w A' g' (xs'.drop (i * 4)))) (fun i _ => f.len - (intOf i).toNat)
      case atStart => exact ⟨0, f, f', rfl, by omega, by omega, Nat.le_refl _, rfl, Below.refl _ _, HF, HF'⟩
      case round =>
        obtain ⟨i, g, g', rfl, hg, hg', hn, he, hb, h1, h2⟩ := hrel
        by_cases hlt : i < f.len
        · match g, g', hg, hg' with
          | .nil, _, hg, _ => simp [F.len] at hg; omega
          | .cons .., .nil, _, hg' => have := CL.out; simp [F.len] at hg'; omega
          | .cons k n s l r, .cons k' n' s' l' r', hg, hg' =>
            obtain ⟨gb, M, rfl, _, hgb, k0, k1, k2, k3, hM, hr⟩ := fits_next (c := w.cell?) h1.out HC.out
            obtain ⟨gb', M', rfl, _, hgb', k0', k1', k2', k3', hM', hr'⟩ := fits_next (c := w.cell?) h2.out HC'.out
            have N1 : Hid (l.nodes < N) := by have h1 := hn.out; have h2 := HN.out; simp only [F.nodes] at h1; show l.nodes < N; omega
            have N2 : Hid (r.nodes ≤ f.nodes) := by have h1 := hn.out; simp only [F.nodes] at h1; show r.nodes ≤ f.nodes; omega
            obtain ⟨hcc, _⟩ := bcell hb
            have q0 := (hcc gb (i * 4) hgb).trans k0
            have q1 := (hcc gb (i * 4 + 1) hgb).trans k1
            have q2 := (hcc gb (i * 4 + 2) hgb).trans k2
            have q3 := (hcc gb (i * 4 + 3) hgb).trans k3
            have r0 := (hcc gb' (i * 4) hgb').trans k0'
            have r1 := (hcc gb' (i * 4 + 1) hgb').trans k1'
            have r2 := (hcc gb' (i * 4 + 2) hgb').trans k2'
            have r3 := (hcc gb' (i * 4 + 3) hgb').trans k3'
            have I0 : (0 : Int) ≤ (i : Int) := by omega
            have I1 : (i : Int) < (f.len : Int) := by omega
            have I2 : (i : Int) < (f'.len : Int) := by have := CL.out; omega
            have KM : Hid _ := hM
            have KM' : Hid _ := hM'
            have KR : Hid _ := hr
            have KR' : Hid _ := hr'
            clear hM hM' hr hr' hcc
            obtain ⟨bb, hbb⟩ : ∃ bb, Hid (bb = eq1 k n s k' n' s' (eqF l l')) := ⟨_, rfl⟩
            have CC : Hid (∀ W, Below w.heap.size w W → Calls Try.prog 20 #[.agg #[.int .i64 k, .int .i64 n, .string s, M], .agg #[.int .i64 k', .int .i64 n', .string s', M']] W fun e w' => e = .returned (.bool bb) ∧ Below W.heap.size W w' ∧ (w'.cell? ⟨gb, i * 4, none⟩ = some (.int .i64 k) ∧ w'.cell? ⟨gb, i * 4 + 1, none⟩ = some (.int .i64 n) ∧ w'.cell? ⟨gb, i * 4 + 2, none⟩ = some (.string s) ∧ w'.cell? ⟨gb, i * 4 + 3, none⟩ = some M ∧ w'.cell? ⟨gb', i * 4, none⟩ = some (.int .i64 k') ∧ w'.cell? ⟨gb', i * 4 + 1, none⟩ = some (.int .i64 n') ∧ w'.cell? ⟨gb', i * 4 + 2, none⟩ = some (.string s') ∧ w'.cell? ⟨gb', i * 4 + 3, none⟩ = some M')) :=
              fun W hW => (equal0 k n s M k' n' s' M' (eqF l l') W (fun _ _ W' hW' => IH.out l l' M M' W' A A' N1.out (rd_below KM.out (hW.trans (hW'.mono hW.size))) (rd_below KM'.out (hW.trans (hW'.mono hW.size))))).mono
                (fun e w' h => by
                  obtain ⟨hcc, _⟩ := bcell (hW.trans (h.2.mono hW.size))
                  exact ⟨hbb.out ▸ h.1, h.2, (hcc gb _ hgb).trans k0, (hcc gb _ hgb).trans k1, (hcc gb _ hgb).trans k2, (hcc gb _ hgb).trans k3, (hcc gb' _ hgb').trans k0', (hcc gb' _ hgb').trans k1', (hcc gb' _ hgb').trans k2', (hcc gb' _ hgb').trans k3'⟩)
            clear k0 k1 k2 k3 k0' k1' k2' k3' hgb hgb'
            go_wp2_with fail
            go_region_held3 (fun w' => w'.cell? ⟨gb, i * 4, none⟩ = some (.int .i64 k) ∧ w'.cell? ⟨gb, i * 4 + 1, none⟩ = some (.int .i64 n) ∧ w'.cell? ⟨gb, i * 4 + 2, none⟩ = some (.string s) ∧ w'.cell? ⟨gb, i * 4 + 3, none⟩ = some M ∧ w'.cell? ⟨gb', i * 4, none⟩ = some (.int .i64 k') ∧ w'.cell? ⟨gb', i * 4 + 1, none⟩ = some (.int .i64 n') ∧ w'.cell? ⟨gb', i * 4 + 2, none⟩ = some (.string s') ∧ w'.cell? ⟨gb', i * 4 + 3, none⟩ = some M')
              (first | exact hS | go_keep) ((go_at_call 20; refine (CC.out _ hb.drew).mono ?_; rintro e w2 ⟨rfl, b2, hS⟩))
            have ef : Hid (eqF f f' = (bb && eqF r r')) := by rw [hbb.out]; exact he.out
            cases bb
            · go_wp2_with fail
              go_ret
              exact ⟨by rw [ef.out]; rfl, hb.drew.trans (b2.mono hb.size)⟩
            · go_wp2_with fail
              go_roundw
              case rel => exact ⟨i + 1, r, r', by go_num, by simp only [F.len] at hg; omega, by simp only [F.len] at hg'; omega, N2, ef, hb.drew.trans (b2.mono hb.size), by rw [Nat.add_mul]; exact KR, by rw [Nat.add_mul]; exact KR'⟩
              case measure => simp [intOf]; omega
        · match g, g', hg, hg' with
          | .cons .., _, hg, _ => simp [F.len] at hg; omega
          | .nil, .cons .., _, hg' => have := CL.out; simp [F.len] at hg'; omega
          | .nil, .nil, hg, hg' =>
            go_wp2_with fail
            go_ret
            exact ⟨by rw [he.out]; rfl, hb⟩
    · rw [eqF_len cl]
      have cl' : ((f.len : Int) != (f'.len : Int)) = true := by simp; omega
      clear hc hc' hf hf' hL hL' hN cl
      go_enter Try.func44, Try.ntmps44
      go_wp2_with fail
      go_ret
      exact ⟨rfl, Below.refl _ _⟩

end Go.Proofs.Ytdhghjfenkjeaaa.We
