/-
  Plain facts on what the laying of texts leaves of a disk: as many regions, of the same sizes, with queues that are not much longer. Nothing is asked but what each fact names.
-/
import Derived.Test.YtcnonioiggniiaaMathTa
namespace Go.Proofs.Ytcnonioiggniiaa.M

theorem layD_ind {P : Nat → Dk → Prop} (hw : ∀ m d a b x, P m d → P (m + 1) (d.write a b x)) (hf : ∀ m d a, P m d → P (m + 1) (d.flush a)) (i a : Nat) (c : Nat → ByteArray) (hm : ∀ m m' d, m ≤ m' → P m d → P m' d) : ∀ r k m d, P m d → P (m + r + 1) (layD i a c k r d)
  | 0, k, m, d, h => hf m d _ h
  | r + 1, k, m, d, h => by
    have h1 := hw m d (i : Int) ((a + k : Nat) : Int) (c k) h
    unfold layD
    split
    · have := layD_ind hw hf i a c hm r (k + 1) (m + 1) _ h1
      rw [show m + (r + 1) + 1 = m + 1 + r + 1 by omega]
      exact this
    · exact hm (m + 1) _ _ (by omega) h1

/-- As many regions, of the same sizes; queues longer by t at most. -/
structure Ms (d : Dk) (t : Nat) (e : Dk) : Prop where
  k : e.k = d.k
  n : ∀ j, (e.r j).n = (d.r j).n
  q : ∀ j, (e.r j).q.length ≤ (d.r j).q.length + t
theorem Ms.refl (d : Dk) : Ms d 0 d := ⟨rfl, fun _ => rfl, fun _ => Nat.le_refl _⟩
theorem Ms.mono {d e : Dk} {t u : Nat} (h : Ms d t e) (hu : t ≤ u) : Ms d u e := ⟨h.k, h.n, fun j => by have := h.q j; omega⟩
theorem Ms.trans {d e f : Dk} {t u : Nat} (h : Ms d t e) (g : Ms e u f) : Ms d (t + u) f := ⟨g.k.trans h.k, fun j => (g.n j).trans (h.n j), fun j => by have := h.q j; have := g.q j; omega⟩
theorem Ms.at_ {d : Dk} {i t : Nat} {r : Rg} (hn : r.n = (d.r i).n) (hq : r.q.length ≤ (d.r i).q.length + t) : Ms d t (d.at i r) := by
  refine ⟨rfl, fun j => ?_, fun j => ?_⟩
  · by_cases c : j = i
    · subst c
      show (upd d.r j r j).n = _
      rw [upd_at, hn]
    · show (upd d.r i r j).n = _
      rw [upd_off _ _ c]
  · by_cases c : j = i
    · subst c
      show (upd d.r j r j).q.length ≤ _
      rw [upd_at]
      exact hq
    · show (upd d.r i r j).q.length ≤ _
      rw [upd_off _ _ c]
      omega
theorem Ms.cnt (d : Dk) (a : Nat) : Ms d 0 (d.cnt a) := by
  cases h : d.now a
  · rw [cnt_not h]
    exact ⟨rfl, fun _ => rfl, fun _ => Nat.le_refl _⟩
  · obtain ⟨K, _, e⟩ := cnt_now h
    rw [e]
    exact ⟨rfl, fun _ => rfl, fun _ => Nat.zero_le _⟩
theorem Ms.write (d : Dk) (a b : Int) (x : ByteArray) : Ms d 1 (d.write a b x) := by
  unfold Dk.write
  split
  · have h1 : Ms d 1 (d.put a b x) := Ms.at_ rfl (by show ((d.r a.toNat).q ++ [(b.toNat, x)]).length ≤ _; simp)
    exact h1.trans (Ms.cnt _ _)
  · exact (Ms.refl d).mono (by omega)
theorem Ms.flush (d : Dk) (a : Int) : Ms d 0 (d.flush a) := by
  unfold Dk.flush
  split
  · split
    · exact Ms.cnt _ _
    · have h0 := Ms.cnt d a.toNat
      exact h0.trans (Ms.at_ (t := 0) (i := a.toNat) (r := (d.r a.toNat).set fun _ => true) (h0.n a.toNat).symm (Nat.zero_le _))
  · exact Ms.refl d
theorem Ms.lay (i a : Nat) (c : Nat → ByteArray) (r k : Nat) (d : Dk) : Ms d (r + 1) (layD i a c k r d) := by
  have := layD_ind (P := fun m e => Ms d m e) (fun m e a b x h => h.trans (Ms.write e a b x)) (fun m e a h => (h.trans (Ms.flush e a)).mono (by omega)) i a c (fun _ _ _ h1 h2 => h2.mono h1) r k 0 d (Ms.refl d)
  rw [show 0 + r + 1 = r + 1 by omega] at this
  exact this
theorem Ms.secs {d e : Dk} {t : Nat} (h : Ms d t e) (a : Int) : e.secs a = d.secs a := by
  unfold Dk.secs Dk.has
  rw [h.k, h.n]

/-- How many sectors a Reset lays. -/
def rsN (l : List ByteArray) : Nat := (frs l).size / 55 + 1
theorem Ms.rs (i h : Nat) (g : Int) (half : Nat) (l : List ByteArray) (d : Dk) : Ms d (rsN l + 3) (rsD i h g half l d) := by
  unfold rsD
  have h1 := Ms.lay i (1 + (1 - half) * h) (rsC g l) ((frs l).size / 55 + 1) 0 d
  split
  · exact (h1.trans (Ms.lay i 0 (fun _ => hdS (g + 1) (1 - half)) 1 0 _)).mono (by unfold rsN; omega)
  · exact h1.mono (by unfold rsN; omega)
theorem Ms.reset (s : Sm) (l : List ByteArray) (d : Dk) (hl : (frs l).size ≤ 55 * 2047 ∨ s.h ≤ 2047) : Ms d 2060 (s.rD l d) := by
  unfold Sm.rD
  split
  · rename_i c
    have hh : (frs l).size ≤ 55 * 2047 := by
      rcases hl with hl | hl
      · exact hl
      · unfold Sm.rE at c
        split at c
        · cases c
        · split at c
          · split at c
            · cases c
            · omega
          · rename_i c2
            exact absurd c c2
    exact (Ms.rs s.i s.h s.g s.half l d).mono (by unfold rsN; omega)
  · exact (Ms.refl d).mono (by omega)
theorem Ms.append (s : Sm) (b : ByteArray) (d : Dk) : Ms d 80 (s.apD b d) := by
  unfold Sm.apD
  split
  · rename_i c
    have hb : b.size ≤ 4096 := by
      unfold Sm.apE at c
      split at c
      · cases c
      · split at c
        · rename_i c2
          exact (frE_ok.1 c2).2
        · rename_i c2
          exact absurd c c2
    refine (Ms.lay s.i (apA s.h s.half s.L) (apC s.g s.L b) (apN s.L b) 0 d).mono ?_
    have hs : (frs (s.L ++ [b])).size = (frs s.L).size + (b.size + 6) := by rw [frs_snoc, size_app, fr_size]
    unfold apN
    omega
  · exact (Ms.refl d).mono (by omega)

end Go.Proofs.Ytcnonioiggniiaa.M
