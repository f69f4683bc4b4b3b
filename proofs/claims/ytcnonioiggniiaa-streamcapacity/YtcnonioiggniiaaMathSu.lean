/-
  Plain facts on streams, more: a region that a stream has laid ('Gd'); what is left of it behind a loss of power in an Append ('Gd.mix'), what it is behind one that went well ('Gd.append'), behind a Reset ('gd_reset'). Nothing is asked but what each fact names.
-/
import Derived.Test.YtcnonioiggniiaaMathSt
namespace Go.Proofs.Ytcnonioiggniiaa.M

/-- A region of two halves of h sectors, in which a stream has laid its records, with this generation, in this half. -/
structure Gd (y : Nat → ByteArray) (h : Nat) (g : Int) (half : Nat) (L : List ByteArray) : Prop where
  g1 : 1 ≤ g ∧ g ≤ 281474976710655
  hf : half < 2
  hh : h ≤ 2047
  head : y 0 = hdS g half
  fr : Framable L
  cap : (frs L).size + 1 ≤ 55 * h
  cells : ∀ j, j ≤ (frs L).size / 55 → y (1 + half * h + j) = sp g 0 (frs L) j
  rest : ∀ j, (frs L).size / 55 < j → j < h → ¬ (pOk (y (1 + half * h + j)) = true ∧ pG (y (1 + half * h + j)) = g)
  gens : ∀ j, j < 2 * h → pOk (y (1 + j)) = true → pG (y (1 + j)) ≤ g

theorem dt_head {y : Nat → ByteArray} {h : Nat} {g : Int} {half : Nat} (h0 : y 0 = hdS g half) (hg : 1 ≤ g ∧ g ≤ 281474976710655) (hf : half < 2) : dtOf y h = jn (fun j => y (1 + half * h + j)) g 0 h := by
  obtain ⟨e1, e2⟩ := head_back hg hf
  unfold dtOf
  rw [h0, e1, e2, if_pos (by omega)]
theorem Gd.data {y : Nat → ByteArray} {h : Nat} {g : Int} {half : Nat} {L : List ByteArray} (G : Gd y h g half L) : dtOf y h = frs L := by
  have hc := G.cap
  have hh := G.hh
  rw [dt_head G.head G.g1 G.hf]
  have := jn_back (y := fun j => y (1 + half * h + j)) (d := frs L) G.g1 (by omega) G.cells (h - 1 - (frs L).size / 55) ((frs L).size / 55) 0 (by omega)
  rw [rs_zero, show (frs L).size / 55 + (h - 1 - (frs L).size / 55) + 1 = h by omega] at this
  exact this
theorem Gd.recs {y : Nat → ByteArray} {h : Nat} {g : Int} {half : Nat} {L : List ByteArray} (G : Gd y h g half L) : Recs y h L := by
  unfold Recs
  rw [G.data]
  exact bods_whole G.fr
theorem Gd.gg {y : Nat → ByteArray} {h : Nat} {g : Int} {half : Nat} {L : List ByteArray} (G : Gd y h g half L) : gg y h = g := by
  have hn := nw_le (y := fun j => y (1 + j)) (G := g) (by have := G.g1; omega) (2 * h) G.gens
  unfold M.gg
  rw [G.head, (head_back G.g1 G.hf).1]
  omega

/-- The pieces of data that more stands behind. -/
theorem pc_more (d f : ByteArray) {j : Nat} (h : 55 * j + 55 ≤ d.size) : pc (d ++ f) j = pc d j := by
  unfold pc
  have hs := size_app d f
  rw [Nat.min_eq_left h, Nat.min_eq_left (by omega)]
  apply ByteArray.ext
  rw [ByteArray.data_extract, ByteArray.data_extract, ByteArray.data_append, Array.extract_append]
  have e : f.data.extract (55 * j - d.data.size) (55 * j + 55 - d.data.size) = #[] := by
    apply Array.eq_empty_of_size_eq_zero
    rw [Array.size_extract]
    have : d.data.size = d.size := rfl
    omega
  rw [e]
  simp
theorem sp_more (g : Int) (d f : ByteArray) {j : Nat} (h : 55 * j + 55 ≤ d.size) : sp g 0 (d ++ f) j = sp g 0 d j := by
  unfold sp
  rw [pc_more d f h]
theorem ext_more (d f : ByteArray) {t : Nat} (h : d.size ≤ t) : (d ++ f).extract 0 t = d ++ f.extract 0 (t - d.size) := by
  apply ByteArray.ext
  rw [ByteArray.data_extract, ByteArray.data_append, ByteArray.data_append, ByteArray.data_extract, Array.extract_append]
  have e : d.data.extract 0 t = d.data := by
    have : d.data.size = d.size := rfl
    apply Array.ext
    · rw [Array.size_extract]; omega
    · intro i h1 h2
      simp
  have e2 : d.data.size = d.size := rfl
  rw [e, e2, Nat.zero_sub]

/-- The first index, from k on, at which something doesn't hold. -/
theorem first_not (P : Nat → Prop) (n : Nat) : ∀ k, k ≤ n → (∀ j, j < k → P j) → (∀ j, j < n → P j) ∨ ∃ e, k ≤ e ∧ e < n ∧ ¬ P e ∧ ∀ j, j < e → P j := by
  intro k hk hP
  obtain ⟨m, hm⟩ : ∃ m, n = k + m := ⟨n - k, by omega⟩
  induction m generalizing k with
  | zero => exact .inl fun j hj => hP j (by omega)
  | succ m ih =>
    by_cases c : P k
    · rcases ih (k + 1) (by omega) (fun j hj => by
        by_cases e : j = k
        · rw [e]; exact c
        · exact hP j (by omega)) (by omega) with h | ⟨e, h1, h2, h3⟩
      · exact .inl h
      · exact .inr ⟨e, by omega, h2, h3⟩
    · exact .inr ⟨k, Nat.le_refl _, by omega, c, hP⟩

/-- Behind a loss of power in an Append: of the sectors that it writes each is the new one or what was there. -/
theorem Gd.mix {y z : Nat → ByteArray} {h : Nat} {g : Int} {half : Nat} {L : List ByteArray} (G : Gd y h g half L) {b : ByteArray} (hb : 1 ≤ b.size ∧ b.size ≤ 4096) (hc : (frs (L ++ [b])).size + 1 ≤ 55 * h)
    (hout : ∀ k, (k < 1 + half * h + (frs L).size / 55 ∨ 1 + half * h + h ≤ k) → z k = y k)
    (hin : ∀ j, (frs L).size / 55 ≤ j → j < h → z (1 + half * h + j) = y (1 + half * h + j) ∨ (j ≤ (frs (L ++ [b])).size / 55 ∧ z (1 + half * h + j) = sp g 0 (frs (L ++ [b])) j)) :
    (Recs z h L ∨ Recs z h (L ++ [b])) ∧ M.gg z h = g := by
  have hD : frs (L ++ [b]) = frs L ++ M.fr b := frs_snoc L b
  have hs : (frs (L ++ [b])).size = (frs L).size + (b.size + 6) := by rw [hD, size_app, fr_size]
  have hh := G.hh
  have hcap := G.cap
  have hf := G.hf
  have h0 : z 0 = hdS g half := by rw [hout 0 (.inl (by omega)), G.head]
  have hfr : Framable (L ++ [b]) := fun x hx => by
    rcases List.mem_append.1 hx with hx | hx
    · exact G.fr x hx
    · rw [List.mem_singleton] at hx
      subst hx
      exact hb
  constructor
  · have hdt := dt_head (y := z) (h := h) h0 G.g1 hf
    have hlow : ∀ j, j < (frs L).size / 55 → z (1 + half * h + j) = sp g 0 (frs (L ++ [b])) j := fun j hj => by
      rw [hout _ (.inl (by omega)), G.cells j (by omega), hD, sp_more _ _ _ (by omega)]
    rcases hin ((frs L).size / 55) (Nat.le_refl _) (by omega) with ho | ⟨_, hn⟩
    · -- the last cell is as it was
      left
      unfold Recs
      have : dtOf z h = frs L := by
        rw [hdt]
        have := jn_back (y := fun j => z (1 + half * h + j)) (d := frs L) G.g1 (by omega) (fun j hj => by
          by_cases e : j = (frs L).size / 55
          · subst e
            show z (1 + half * h + (frs L).size / 55) = _
            rw [ho]
            exact G.cells _ (Nat.le_refl _)
          · show z (1 + half * h + j) = _
            rw [hout _ (.inl (by omega))]
            exact G.cells j hj) (h - 1 - (frs L).size / 55) ((frs L).size / 55) 0 (by omega)
        rw [rs_zero, show (frs L).size / 55 + (h - 1 - (frs L).size / 55) + 1 = h by omega] at this
        exact this
      rw [this]
      exact bods_whole G.fr
    · -- it is the new one
      rcases first_not (fun j => z (1 + half * h + j) = sp g 0 (frs (L ++ [b])) j) ((frs (L ++ [b])).size / 55 + 1) ((frs L).size / 55 + 1) (by omega) (fun j hj => by
        by_cases e : j = (frs L).size / 55
        · rw [e]; exact hn
        · exact hlow j (by omega)) with hall | ⟨e, e1, e2, e3, e4⟩
      · right
        unfold Recs
        have : dtOf z h = frs (L ++ [b]) := by
          rw [hdt]
          have := jn_back (y := fun j => z (1 + half * h + j)) (d := frs (L ++ [b])) G.g1 (by omega) (fun j hj => hall j (by omega)) (h - 1 - (frs (L ++ [b])).size / 55) ((frs (L ++ [b])).size / 55) 0 (by omega)
          rw [rs_zero, show (frs (L ++ [b])).size / 55 + (h - 1 - (frs (L ++ [b])).size / 55) + 1 = h by omega] at this
          exact this
        rw [this]
        exact bods_whole hfr
      · have hno : jOk (fun j => z (1 + half * h + j)) g e = false := by
          rw [Bool.eq_false_iff]
          intro c
          obtain ⟨c1, c2, _⟩ := j_of c
          rcases hin e (by omega) (by omega) with ho | ⟨_, hn2⟩
          · have c1' : pOk (z (1 + half * h + e)) = true := c1
            have c2' : pG (z (1 + half * h + e)) = g := c2
            rw [ho] at c1' c2'
            exact G.rest e (by omega) (by omega) ⟨c1', c2'⟩
          · exact e3 hn2
        have hjn := jn_lost (y := fun j => z (1 + half * h + j)) (d := frs (L ++ [b])) G.g1 (by omega) (f := e) (by omega) (fun j hj => e4 j hj) hno (h - e) e 0 (by omega)
        rw [show e + (h - e) = h by omega, Nat.mul_zero] at hjn
        rw [hjn] at hdt
        by_cases ce : 55 * e = (frs (L ++ [b])).size
        · right
          unfold Recs
          rw [hdt, ce, ByteArray.extract_zero_size]
          exact bods_whole hfr
        · left
          unfold Recs
          rw [hdt, hD, ext_more _ _ (by omega)]
          exact bods_cut G.fr b hb.2 (by rw [fr_size]; omega)
  · have hn := nw_le (y := fun j => z (1 + j)) (G := g) (by have := G.g1; omega) (2 * h) (fun j hj hok => by
      by_cases c : 1 + j < 1 + half * h + (frs L).size / 55 ∨ 1 + half * h + h ≤ 1 + j
      · have e := hout (1 + j) c
        have hok' : pOk (z (1 + j)) = true := hok
        show pG (z (1 + j)) ≤ g
        rw [e] at hok' ⊢
        exact G.gens j hj hok'
      · obtain ⟨i, hi⟩ : ∃ i, 1 + j = 1 + half * h + i := ⟨j - half * h, by omega⟩
        have hok' : pOk (z (1 + j)) = true := hok
        show pG (z (1 + j)) ≤ g
        rcases hin i (by omega) (by omega) with ho | ⟨h1, h2⟩
        · rw [← hi] at ho
          rw [ho] at hok' ⊢
          exact G.gens j hj hok'
        · rw [← hi] at h2
          rw [h2, (sp_back G.g1 (by omega)).2.1]
          exact Int.le_refl _)
    unfold M.gg
    rw [h0, (head_back G.g1 hf).1]
    omega

end Go.Proofs.Ytcnonioiggniiaa.M
