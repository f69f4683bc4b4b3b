/-
  The walk of pack's writer over a list, and of pack.bytesOf: the bytes that 'encF' says, or a fault with the first error. Conditions: the values can be read, and all bytes are at most 2^47.
-/
import Derived.Test.YtkelipedpjmmaaaDoorWriteV
namespace Go.Proofs.YtkelipedpjmmaaaDoor.Ww
open Go.ChangeShapes Go.WideShapes Go.ChangeAt Go.RowKit Go.Proofs.YtkelipedpjmmaaaDoor.M Go.Proofs.YtkelipedpjmmaaaDoor.Wf Go.Proofs.YtkelipedpjmmaaaDoor.We

theorem cat_err (c : Int) (y : Except Int (List UInt8)) : cat (.error c) y = .error c := rfl
theorem onto_err (a : List UInt8) (c : Int) : onto a (.error c) = .error c := rfl

set_option maxHeartbeats 1000000 in
theorem list (N : Nat) : ∀ (f : F) (L : Value) (d : Nat) (b : Nat) (l : List UInt8) (w : World), f.nodes < N → f.ok → d ≤ 8 → Rd w (fun g => g < b) L f → Bd w b l → l.length + (3 + f.wt) ≤ 140737488355328 →
    Calls Tryd.prog 72 #[.pointer (some ⟨b, 0, none⟩), L, .int .i64 (d : Int)] w fun e w' => Wrote (enc1 2 0 ⟨#[]⟩ f.len d (encF f (d + 1))) b l w e w' := by
  induction N with
  | zero => intro f L d b l w h; omega
  | succ N ih =>
    intro f L d b l w hN hok hd hL hB hl
    have IH : Hid _ := ih
    clear ih
    obtain ⟨p, cap, xs, rfl, b1, b2, hf, hc⟩ := rd_form hL
    by_cases c : 256 < f.len ∨ 8 ≤ d
    · rw [enc_deep c]
      exact (listDeep b f.len p cap d w hd c).mono (fun e w' h => ⟨h.2 ▸ Below.refl _ _, h.1⟩)
    · rw [enc_list c]
      unfold maxLen at b2
      have c1 : ¬ (256 : Int) < (f.len : Int) := by omega
      have c2 : ¬ (8 : Int) ≤ (d : Int) := by omega
      have HC : Hid _ := hc
      have HF : Hid _ := hf
      have HN : Hid _ := hN
      have HK : Hid _ := hok
      have HB : Hid _ := hB
      have HL : Hid _ := hl
      have hlt := hB.lt
      clear hc hf hN hok hL hB hl c
      go_enter Tryd.func72, Tryd.ntmps72
      go_wp2_with fail
      refine (number b l 1 3 1 _ (by omega) rfl (by decide) (by decide) HB.out (by have := HL.out; omega)).mono ?_
      rintro e w1 ⟨rfl, d1, e1⟩
      have D1 : Hid _ := d1
      clear d1
      go_wp2_with fail
      refine (number b _ 2 f.len 2 _ (by omega) rfl (by omega) (by omega) D1.out (by have := HL.out; simp [be_length]; omega)).mono ?_
      rintro e w2 ⟨rfl, d2, e2⟩
      have D2 : Hid (Bd w2 b (l ++ (3 :: be 2 f.len))) := by
        have e3 : be 1 3 = [3] := rfl
        rw [e3] at d2
        show Bd w2 b _
        simpa using d2
      clear d2
      have hb2 : Below b w w2 := e1.trans e2
      clear e1 e2 D1
      go_wp2_with fail
      go_loopw [25] (fun iv wr => ∃ (i : Nat) (g : F) (pre : List UInt8), iv = .int .i64 (i : Int) ∧ g.len + i = f.len ∧ Hid (g.nodes ≤ f.nodes) ∧ Hid g.ok ∧ Hid (pre.length + g.wt = f.wt) ∧ Hid (encF f (d + 1) = onto pre (encF g (d + 1))) ∧ Below b w wr ∧ Hid (Bd wr b (l ++ (3 :: be 2 f.len) ++ pre)) ∧ Hid (Fits w (fun g => g < b) g (xs.drop (i * 4)))) (fun i _ => f.len - (intOf i).toNat)
      case atStart => exact ⟨0, f, [], rfl, by omega, Nat.le_refl _, HK.out, by show _ = _; simp, (onto_nil _).symm, hb2, by show Bd _ _ _; simpa using D2.out, HF⟩
      case round =>
        obtain ⟨i, g, pre, rfl, hg, hn, hok, hw, he, hb, hB, h1⟩ := hrel
        by_cases hlt' : i < f.len
        · match g, hg with
          | .nil, hg => simp [F.len] at hg; omega
          | .cons k n s lc r, hg =>
            obtain ⟨gb, M, rfl, hA, hgb, k0, k1, k2, k3, hM, hr⟩ := fits_next (c := w.cell?) h1.out HC.out
            obtain ⟨pm, cm, _, rfl, _⟩ := rd_form hM
            have hcc : ∀ o, wr.cell? ⟨gb, o, none⟩ = w.cell? ⟨gb, o, none⟩ := fun o => hb.cell (p := ⟨gb, o, none⟩) hA
            have q0 := (hcc (i * 4)).trans k0
            have q1 := (hcc (i * 4 + 1)).trans k1
            have q2 := (hcc (i * 4 + 2)).trans k2
            have q3 := (hcc (i * 4 + 3)).trans k3
            have I0 : (0 : Int) ≤ (i : Int) := by omega
            have I1 : (i : Int) < (f.len : Int) := by omega
            have KR : Hid _ := hr
            have hltr := hB.out.lt
            have N1 : lc.nodes < N := by have h1 := hn.out; have h2 := HN.out; simp only [F.nodes] at h1; omega
            have N2 : Hid (r.nodes ≤ f.nodes) := by have h1 := hn.out; simp only [F.nodes] at h1; show r.nodes ≤ f.nodes; omega
            have W1 : (l ++ (3 :: be 2 f.len) ++ pre).length + wt1 k n s lc.wt ≤ 140737488355328 := by
              have h1 := hw.out; have h2 := HL.out; simp only [F.wt] at h1; simp only [List.length_append, List.length_cons, be_length]; omega
            have W2 : Hid ((pre.length + wt1 k n s lc.wt) + r.wt = f.wt) := by have h1 := hw.out; simp only [F.wt] at h1; show _ = _; omega
            obtain ⟨r1, hr1⟩ : ∃ r1, Hid (r1 = enc1 k n s lc.len (d + 1) (encF lc (d + 1 + 1))) := ⟨_, rfl⟩
            have CC : Hid (∀ W, Below wr.heap.size wr W → Calls Tryd.prog 53 #[.pointer (some ⟨b, 0, none⟩), .agg #[.int .i64 k, .int .i64 n, .string s, .slice pm lc.len cm], .int .i64 (((d + 1 : Nat)) : Int)] W fun e w' => Wrote r1 b (l ++ (3 :: be 2 f.len) ++ pre) W e w') :=
              fun W hW => by
                rw [hr1.out]
                have ho := hok.out
                refine value0 b _ k n s lc pm cm (d + 1) W ⟨ho.1, ho.2.1, ho.2.2.1, ho.2.2.2.1, trivial⟩ (hB.out.below hW) W1 (fun h2 W' hW' => ?_)
                subst h2
                have e0 : ∀ x, enc1 2 n s lc.len (d + 1) x = enc1 2 0 ⟨#[]⟩ lc.len (d + 1) x := fun x => by simp [enc1]
                rw [e0]
                have hM' : Rd W' (fun g => g < b) (.slice pm lc.len cm) lc := rd_below (rd_below (rd_under hM (fun _ h => h) hb) hW) hW'
                exact IH.out lc _ (d + 1) b _ W' N1 ho.2.2.2.1 (by omega) hM' ((hB.out.below hW).below hW') (by simpa [wt1] using W1)
            have ef : Hid (encF f (d + 1) = onto pre (cat r1 (encF r (d + 1)))) := by show _ = _; rw [hr1.out]; exact he.out
            have hw1 : Hid (∀ a, r1 = .ok a → a.length = wt1 k n s lc.wt) := fun a h => enc1_size (fun b hb => encF_size hb) (hr1.out ▸ h)
            have hcast : (d : Int) + 1 = ((d + 1 : Nat) : Int) := by omega
            have HCAST : Hid _ := hcast
            have HO : Hid (r.ok) := hok.out.2.2.2.2
            clear hM hr hcc k0 k1 k2 k3 hgb hA N1 W1 hcast
            go_wp2_with fail
            rw [HCAST.out]
            refine (CC.out _ ((Below.refl _ _).alloc (Nat.le_refl _) _)).mono ?_
            rintro e w3 ⟨b3, h3⟩
            cases r1 with
            | ok a =>
              obtain ⟨rfl, d3⟩ := h3
              have D3 : Hid _ := d3
              clear d3
              go_wp2_with fail
              go_roundw
              case rel =>
                refine ⟨i + 1, r, pre ++ a, by go_num, by simp only [F.len] at hg; omega, N2, HO, ?_, ?_, hb.trans ((((Below.refl _ _).alloc (Nat.le_refl _) _).mono (Nat.le_of_lt hltr)).trans b3), ?_, by rw [Nat.add_mul]; exact KR⟩
                · show _ = _
                  have h1 := W2.out
                  have h2 := hw1.out a rfl
                  rw [List.length_append]; omega
                · show _ = _
                  rw [ef.out, cat_onto, onto_onto]
                · show Bd _ _ _
                  have := D3.out
                  rw [List.append_assoc] at this
                  exact this
              case measure => simp [intOf]; omega
            | error c =>
              simp only at h3
              subst h3
              go_wp2_with fail
              refine ⟨rfl, hb.trans ((((Below.refl _ _).alloc (Nat.le_refl _) _).mono (Nat.le_of_lt hltr)).trans b3), ?_⟩
              rw [ef.out, cat_err, onto_err, onto_err]
        · match g, hg with
          | .cons .., hg => simp [F.len] at hg; omega
          | .nil, hg =>
            go_wp2_with fail
            go_end0
            refine ⟨hb, ?_⟩
            have e1 := he.out
            simp only [encF, onto, List.append_nil] at e1
            rw [e1]
            refine ⟨rfl, ?_⟩
            have := hB.out
            rw [List.append_assoc] at this
            exact this

end Go.Proofs.YtkelipedpjmmaaaDoor.Ww
