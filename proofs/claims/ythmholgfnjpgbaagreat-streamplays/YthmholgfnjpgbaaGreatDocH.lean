/-
  Plain facts for the law of plays: what holds of a stream and its disk ('Fit') lasts, whatever is asked of them; the disk's queues stay short.
-/
import Derived.Test.YthmholgfnjpgbaaGreatDocG
import Derived.Test.YthmholgfnjpgbaaGreatLawP1
namespace Go.Proofs.YthmholgfnjpgbaaGreat.Wdc
open Go.Proofs.YthmholgfnjpgbaaGreat.M Go.Proofs.YthmholgfnjpgbaaGreat.Wd Go.Proofs.YthmholgfnjpgbaaGreat.Wst

theorem iv_le {m n : Nat} {d : Dk} (h : Wr.Iv m d) (e : m ≤ n) : Wr.Iv n d := ⟨fun j hj => Nat.le_trans (h.q j hj) e, h.o⟩
theorem iv_lay {m : Nat} {d : Dk} (h : Wr.Iv m d) (i a : Nat) (c : Nat → ByteArray) (r k : Nat) : Wr.Iv (m + r + 1) (layD i a c k r d) :=
  layD_ind (P := Wr.Iv) (fun _ _ a b x h => h.write a b x) (fun _ _ a h => h.flush a) i a c (fun _ _ _ e h => iv_le h e) r k m d h
theorem apE_ok {s : Sm} {b : ByteArray} (h : s.apE b = 0) : s.br = false ∧ frE b = 0 ∧ ((fr b).size : Int) ≤ s.left := by
  unfold Sm.apE at h
  split at h
  · cases h
  · rename_i c
    split at h
    · rename_i c2
      split at h
      · cases h
      · exact ⟨by simpa using c, c2, by omega⟩
    · rename_i c2
      exact absurd h c2
theorem rE_ok {s : Sm} {l : List ByteArray} (h : s.rE l = 0) : s.br = false ∧ fE l = 0 ∧ ((frs l).size : Int) ≤ 55 * (s.h : Int) - 1 ∧ s.g < 281474976710655 := by
  unfold Sm.rE at h
  split at h
  · cases h
  · rename_i c
    split at h
    · rename_i c2
      split at h
      · cases h
      · exact ⟨by simpa using c, c2, by omega, by omega⟩
    · rename_i c2
      exact absurd h c2
theorem iv_append {m : Nat} {d : Dk} (h : Wr.Iv m d) (s : Sm) (b : ByteArray) : Wr.Iv (m + 80) (s.apD b d) := by
  unfold Sm.apD
  split
  · rename_i c
    have hb := (frE_ok.1 (apE_ok c).2.1).2
    refine iv_le (iv_lay h s.i (apA s.h s.half s.L) (apC s.g s.L b) (apN s.L b) 0) ?_
    have hs : (frs (s.L ++ [b])).size = (frs s.L).size + (b.size + 6) := by rw [frs_snoc, size_app, fr_size]
    unfold apN
    omega
  · exact iv_le h (by omega)
theorem iv_reset {m : Nat} {d : Dk} (h : Wr.Iv m d) (s : Sm) (l : List ByteArray) (hh : s.h ≤ 2047) : Wr.Iv (m + 2060) (s.rD l d) := by
  unfold Sm.rD
  split
  · rename_i c
    have hb := (rE_ok c).2.2.1
    unfold rsD
    have h1 := iv_lay h s.i (1 + (1 - s.half) * s.h) (rsC s.g l) ((frs l).size / 55 + 1) 0
    split
    · exact iv_le (iv_lay h1 s.i 0 (fun _ => hdS (s.g + 1) (1 - s.half)) 1 0) (by omega)
    · exact iv_le h1 (by omega)
  · exact iv_le h (by omega)
theorem iv_open {m : Nat} {d : Dk} (h : Wr.Iv m d) (a : Int) (hn : (d.r a.toNat).n ≤ 4096) : Wr.Iv (m + 2060) (opD d a) := by
  unfold opD
  split
  · exact iv_le h (by omega)
  · split
    · exact iv_le h (by omega)
    · exact iv_reset h _ _ (show ((d.r a.toNat).n - 1) / 2 ≤ 2047 by omega)

/-- What holds of a stream that was opened, and of its disk. -/
structure Fit (d : Dk) (s : Sm) : Prop where
  sw : Sw d s
  g1 : 1 ≤ s.g
  fr : Framable s.L
theorem sw_disk {d e : Dk} {s : Sm} {t : Nat} (h : Sw d s) (m : Ms d t e) : Sw e s :=
  ⟨by rw [m.k]; exact h.hi, by rw [m.n]; exact h.n3, by rw [m.n]; exact h.h, h.half, h.g, h.cap⟩
theorem Fit.disk {d e : Dk} {s : Sm} {t : Nat} (h : Fit d s) (m : Ms d t e) : Fit e s := ⟨sw_disk h.sw m, h.g1, h.fr⟩
theorem Fit.append {d : Dk} {s : Sm} (h : Fit d s) (b : ByteArray) : Fit (s.apD b d) (s.apS b d) := by
  have h1 := h.disk (Ms.append s b d)
  unfold Sm.apS
  split
  · rename_i c
    obtain ⟨_, c2, c3⟩ := apE_ok c
    split
    · refine ⟨⟨h1.sw.hi, h1.sw.n3, h1.sw.h, h1.sw.half, h1.sw.g, ?_⟩, h1.g1, fun x hx => ?_⟩
      · show (frs (s.L ++ [b])).size + 1 ≤ 55 * s.h
        rw [frs_snoc, size_app]
        unfold Sm.left at c3
        omega
      · rcases List.mem_append.1 hx with hx | hx
        · exact h.fr x hx
        · rw [List.mem_singleton.1 hx]
          exact frE_ok.1 c2
    · exact ⟨⟨h1.sw.hi, h1.sw.n3, h1.sw.h, h1.sw.half, h1.sw.g, h1.sw.cap⟩, h1.g1, h1.fr⟩
  · exact h1
theorem fit_reset {d : Dk} {s : Sm} (h : Sw d s) (hh : s.h ≤ 2047) (l : List ByteArray) (c : s.rE l = 0) (x : s.rX l d = 0) : Fit (s.rD l d) (s.rS l d) := by
  have h1 := sw_disk h (Ms.reset s l d (.inr hh))
  obtain ⟨_, c2, c3, c4⟩ := rE_ok c
  have hg := h.g
  unfold Sm.rS
  rw [if_pos c, if_pos x]
  exact ⟨⟨h1.hi, h1.n3, h1.h, show 1 - s.half < 2 by omega, show 0 ≤ s.g + 1 ∧ s.g + 1 ≤ 281474976710655 by omega, show (frs l).size + 1 ≤ 55 * s.h by omega⟩, show 1 ≤ s.g + 1 by omega, fE_ok.1 c2⟩
theorem Fit.reset {d : Dk} {s : Sm} (h : Fit d s) (hh : s.h ≤ 2047) (l : List ByteArray) : Fit (s.rD l d) (s.rS l d) := by
  by_cases c : s.rE l = 0
  · by_cases x : s.rX l d = 0
    · exact fit_reset h.sw hh l c x
    · have h1 := h.disk (Ms.reset s l d (.inr hh))
      unfold Sm.rS
      rw [if_pos c, if_neg x]
      exact ⟨⟨h1.sw.hi, h1.sw.n3, h1.sw.h, h1.sw.half, h1.sw.g, h1.sw.cap⟩, h1.g1, h1.fr⟩
  · obtain ⟨_, e2, e3⟩ := r_err (d := d) c
    rw [e2, e3]
    exact h
theorem fit_open {d : Dk} {a : Int} (hn : ∀ i, i < d.k → (d.r i).n ≤ 4096) (x : opX d a = 0) : Fit (opD d a) (opT d a) := by
  unfold opX at x
  split at x
  · cases x
  · rename_i c1
    split at x
    · cases x
    · rename_i c2
      have hhas : d.has a = true := by
        unfold Dk.secs at c1
        by_cases c : d.has a = true
        · exact c
        · rw [if_neg c] at c1
          omega
      obtain ⟨i, rfl, hi⟩ := has_nat hhas
      have hsec : d.secs (i : Int) = (d.r i).n := by
        unfold Dk.secs
        rw [if_pos hhas, Int.toNat_natCast]
      have hD : opD d (i : Int) = (opS d i).rD (opL d i) d := by unfold opD; rw [if_neg c1, if_neg c2, Int.toNat_natCast]
      have hT : opT d (i : Int) = (opS d i).rS (opL d i) d := by unfold opT; rw [Int.toNat_natCast]
      rw [Int.toNat_natCast] at x
      rw [hD, hT]
      have c : (opS d i).rE (opL d i) = 0 := by
        by_cases c : (opS d i).rE (opL d i) = 0
        · exact c
        · rw [(r_err (d := d) c).1] at x
          exact absurd x c
      exact fit_reset (opS_fit hi (by omega)) (show ((d.r i).n - 1) / 2 ≤ 2047 by have := hn i hi; omega) _ c x
/-- An Open keeps what the disk is. -/
theorem ms_open {d : Dk} {a : Int} (hn : (d.r a.toNat).n ≤ 4096) : Ms d 2060 (opD d a) := by
  unfold opD
  split
  · exact (Ms.refl d).mono (by omega)
  · split
    · exact (Ms.refl d).mono (by omega)
    · exact Ms.reset _ _ _ (.inr (show ((d.r a.toNat).n - 1) / 2 ≤ 2047 by omega))

end Go.Proofs.YthmholgfnjpgbaaGreat.Wdc
