/-
  Plain facts on streams, more: an Append and a Reset that went well ('Gd.append', 'gd_reset'), a Reset that the power cut short ('dt_reset'), and the writes that a region's queue bears meanwhile ('qs', 'stL_qs'). Nothing is asked but what each fact names.
-/
import Derived.Test.YtcnonioiggniiaaMathSu
namespace Go.Proofs.Ytcnonioiggniiaa.M

theorem Gd.append {y z : Nat → ByteArray} {h : Nat} {g : Int} {half : Nat} {L : List ByteArray} (G : Gd y h g half L) {b : ByteArray} (hb : 1 ≤ b.size ∧ b.size ≤ 4096) (hc : (frs (L ++ [b])).size + 1 ≤ 55 * h)
    (hout : ∀ k, (k < 1 + half * h + (frs L).size / 55 ∨ 1 + half * h + (frs (L ++ [b])).size / 55 < k) → z k = y k)
    (hin : ∀ j, (frs L).size / 55 ≤ j → j ≤ (frs (L ++ [b])).size / 55 → z (1 + half * h + j) = sp g 0 (frs (L ++ [b])) j) : Gd z h g half (L ++ [b]) := by
  have hD : frs (L ++ [b]) = frs L ++ M.fr b := frs_snoc L b
  have hs : (frs (L ++ [b])).size = (frs L).size + (b.size + 6) := by rw [hD, size_app, fr_size]
  have hh := G.hh
  have hcap := G.cap
  have hf := G.hf
  refine ⟨G.g1, hf, hh, by rw [hout 0 (.inl (by omega)), G.head], ?_, hc, ?_, ?_, ?_⟩
  · intro x hx
    rcases List.mem_append.1 hx with hx | hx
    · exact G.fr x hx
    · rw [List.mem_singleton] at hx
      subst hx
      exact hb
  · intro j hj
    by_cases c : (frs L).size / 55 ≤ j
    · exact hin j c hj
    · rw [hout _ (.inl (by omega)), G.cells j (by omega), hD, sp_more _ _ _ (by omega)]
  · intro j h1 h2
    rw [hout _ (.inr (by omega))]
    exact G.rest j (by omega) h2
  · intro j hj hok
    by_cases c : 1 + j < 1 + half * h + (frs L).size / 55 ∨ 1 + half * h + (frs (L ++ [b])).size / 55 < 1 + j
    · rw [hout _ c] at hok ⊢
      exact G.gens j hj hok
    · obtain ⟨i, hi⟩ : ∃ i, 1 + j = 1 + half * h + i := ⟨j - half * h, by omega⟩
      rw [hi, hin i (by omega) (by omega), (sp_back G.g1 (by omega)).2.1]
      exact Int.le_refl _

/-- Records laid anew, with a generation that no cell has reached. -/
theorem gd_reset {y z : Nat → ByteArray} {h : Nat} {g : Int} {half : Nat} {L : List ByteArray} (hg : 1 ≤ g ∧ g ≤ 281474976710655) (hf : half < 2) (hh : h ≤ 2047) (hL : Framable L) (hc : (frs L).size + 1 ≤ 55 * h)
    (hgen : ∀ j, j < 2 * h → pOk (y (1 + j)) = true → pG (y (1 + j)) < g) (h0 : z 0 = hdS g half)
    (hout : ∀ k, 0 < k → (k < 1 + half * h ∨ 1 + half * h + (frs L).size / 55 < k) → z k = y k)
    (hin : ∀ j, j ≤ (frs L).size / 55 → z (1 + half * h + j) = sp g 0 (frs L) j) : Gd z h g half L := by
  refine ⟨hg, hf, hh, h0, hL, hc, hin, ?_, ?_⟩
  · intro j h1 h2 h3
    rw [hout _ (by omega) (.inr (by omega))] at h3
    have e : 1 + half * h + j = 1 + (half * h + j) := by omega
    rw [e] at h3
    have h4 : half * h + j < 2 * h := by
      match half, hf with
      | 0, _ => omega
      | 1, _ => omega
    have := hgen (half * h + j) h4 h3.1
    omega
  · intro j hj hok
    by_cases c : 1 + j < 1 + half * h ∨ 1 + half * h + (frs L).size / 55 < 1 + j
    · rw [hout _ (by omega) c] at hok ⊢
      exact Int.le_of_lt (hgen j hj hok)
    · obtain ⟨i, hi⟩ : ∃ i, 1 + j = 1 + half * h + i := ⟨j - half * h, by omega⟩
      rw [hi, hin i (by omega), (sp_back hg (by omega)).2.1]
      exact Int.le_refl _
/-- As long as the head isn't laid the records are what they were. -/
theorem dt_reset {y z : Nat → ByteArray} {h half : Nat} (hf : half < 2) (hne : hH (y 0) ≠ half) (h0 : z 0 = y 0) (hout : ∀ k, (k < 1 + half * h ∨ 1 + half * h + h ≤ k) → z k = y k) : dtOf z h = dtOf y h := by
  symm
  refine dt_congr h0.symm fun j hj => (hout _ ?_).symm
  have := hH_lt (y 0)
  generalize hH (y 0) = q at *
  rcases (by omega : (q = 0 ∧ half = 1) ∨ (q = 1 ∧ half = 0)) with ⟨rfl, rfl⟩ | ⟨rfl, rfl⟩
  · left; omega
  · right; omega
theorem gg_reset {y z : Nat → ByteArray} {h half : Nat} {g : Int} {L : List ByteArray} (hg : 1 ≤ g ∧ g ≤ 281474976710655) (hf : half < 2) (hL : (frs L).size / 55 ≤ 65535) (hy : gg y h ≤ g) (h0 : z 0 = y 0 ∨ z 0 = hdS g half)
    (hz : ∀ k, 0 < k → z k = y k ∨ ∃ j, j ≤ (frs L).size / 55 ∧ z k = sp g 0 (frs L) j) : gg z h ≤ g := by
  unfold gg at *
  have h1 : hG (z 0) ≤ g := by
    rcases h0 with e | e
    · rw [e]; omega
    · rw [e, (head_back hg hf).1]; exact Int.le_refl _
  have h2 := nw_le (y := fun j => z (1 + j)) (G := g) (by omega) (2 * h) (fun j hj hok => by
    have hok' : pOk (z (1 + j)) = true := hok
    show pG (z (1 + j)) ≤ g
    rcases hz (1 + j) (by omega) with e | ⟨i, hi, e⟩
    · rw [e] at hok' ⊢
      have := nw_ge (y := fun j => y (1 + j)) hok' (2 * h) hj
      have h3 : pG (y (1 + j)) ≤ nw (fun j => y (1 + j)) (2 * h) := this
      omega
    · rw [e, (sp_back hg (by omega)).2.1]
      exact Int.le_refl _)
  omega
theorem gens_lt {y : Nat → ByteArray} {h : Nat} {g : Int} (hg : gg y h < g) : ∀ j, j < 2 * h → pOk (y (1 + j)) = true → pG (y (1 + j)) < g := fun j hj hok => by
  have h3 : pG (y (1 + j)) ≤ nw (fun j => y (1 + j)) (2 * h) := nw_ge (y := fun j => y (1 + j)) hok (2 * h) hj
  unfold gg at hg
  omega

/-- The first m writes of texts, sector by sector, from one on. -/
def qs (a : Nat) (c : Nat → ByteArray) : Nat → List (Nat × ByteArray)
  | 0 => []
  | m + 1 => qs a c m ++ [(a + m, c m)]
theorem qs_length (a : Nat) (c : Nat → ByteArray) : ∀ m, (qs a c m).length = m
  | 0 => rfl
  | m + 1 => by
    show (qs a c m ++ [_]).length = _
    rw [List.length_append, qs_length a c m]
    rfl
theorem qs_get (a : Nat) (c : Nat → ByteArray) : ∀ m j, j < m → qx (qs a c m) j = (a + j, c j)
  | m + 1, j, h => by
    by_cases e : j = m
    · subst e
      have := qx_last (qs a c j) (a + j, c j)
      rw [qs_length] at this
      exact this
    · show qx (qs a c m ++ [_]) j = _
      rw [qx_app (by rw [qs_length]; omega)]
      exact qs_get a c m j (by omega)
/-- What lasts of them. -/
theorem stL_qs (kp : Nat → Bool) (s : Nat → ByteArray) (a : Nat) (c : Nat → ByteArray) (m : Nat) : ∀ t, t ≤ m → ∀ k, stL kp s (qs a c m) t k = if a ≤ k ∧ k < a + t ∧ kp (k - a) = true then c (k - a) else s k
  | 0, _, k => by
    show s k = _
    rw [if_neg (by omega)]
  | t + 1, ht, k => by
    have ih := stL_qs kp s a c m t (by omega) k
    have eq := qs_get a c m t (by omega)
    cases hk : kp t with
    | false =>
      rw [stL_no hk, ih]
      by_cases c1 : a ≤ k ∧ k < a + t ∧ kp (k - a) = true
      · rw [if_pos c1, if_pos ⟨c1.1, by omega, c1.2.2⟩]
      · rw [if_neg c1, if_neg]
        rintro ⟨h1, h2, h3⟩
        by_cases e : k = a + t
        · subst e
          rw [show a + t - a = t by omega, hk] at h3
          cases h3
        · exact c1 ⟨h1, by omega, h3⟩
    | true =>
      rw [stL_yes hk, eq]
      by_cases e : k = a + t
      · subst e
        rw [upd_at, if_pos ⟨by omega, by omega, by rw [show a + t - a = t by omega]; exact hk⟩, show a + t - a = t by omega]
      · rw [upd_off _ _ e, ih]
        by_cases c1 : a ≤ k ∧ k < a + t ∧ kp (k - a) = true
        · rw [if_pos c1, if_pos ⟨c1.1, by omega, c1.2.2⟩]
        · rw [if_neg c1, if_neg]
          rintro ⟨h1, h2, h3⟩
          exact c1 ⟨h1, by omega, h3⟩

end Go.Proofs.Ytcnonioiggniiaa.M
