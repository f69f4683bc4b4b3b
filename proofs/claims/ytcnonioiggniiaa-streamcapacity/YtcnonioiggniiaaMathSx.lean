/-
  Plain facts on streams over a plain disk: what an Append and a Reset leave of a region, if they go well, and if the power fails on the way ('append_out', 'reset_out'). Nothing is asked but what each fact names.
-/
import Derived.Test.YtcnonioiggniiaaMathSw
namespace Go.Proofs.Ytcnonioiggniiaa.M

/-- The power has failed: the region's sectors are z, the other regions have what their numbers kept. -/
structure Gone (d e : Dk) (i n : Nat) (z : Nat → ByteArray) : Prop where
  had : ¬ d.ask = none
  off : e.off = true
  ask : e.ask = none
  k : e.k = d.k
  r : e.r i = ⟨n, z, []⟩
  other : ∃ K, ∀ j, j ≠ i → e.r j = (d.r j).set (kb K j)
/-- All went well: the region's sectors are z, the other regions are as they were. -/
structure Went (d e : Dk) (i n : Nat) (z : Nat → ByteArray) : Prop where
  live : Live e i n
  k : e.k = d.k
  r : e.r i = ⟨n, z, []⟩
  other : ∀ j, j ≠ i → e.r j = d.r j
  ask : d.ask = none → e.ask = none

theorem LayOk.went {d e : Dk} {i n a m : Nat} {c s : Nat → ByteArray} (h : LayOk d e i n a m c s) : Went d e i n (laid s a c m) := ⟨h.live, h.k, h.r, h.other, h.ask⟩
theorem LayNo.gone {d e : Dk} {i n a m : Nat} {c s : Nat → ByteArray} (h : LayNo d e i n a m c s) : ∃ kp t, t ≤ m ∧ Gone d e i n (stL kp s (qs a c t) t) := by
  obtain ⟨K, t, h1, h2, h3⟩ := h.r
  exact ⟨kb K i, t, h1, h.had, h.off, h.ask, h.k, h2, K, h3⟩

theorem sp_64 (g : Int) (d : ByteArray) (j : Nat) : (sp g 0 d j).size = 64 := sec_size (pc_le d j)

/-- How many sectors an Append writes. -/
def apN (L : List ByteArray) (b : ByteArray) : Nat := (frs (L ++ [b])).size / 55 + 1 - (frs L).size / 55
/-- Where, and what. -/
def apA (h half : Nat) (L : List ByteArray) : Nat := 1 + half * h + (frs L).size / 55
def apC (g : Int) (L : List ByteArray) (b : ByteArray) (j : Nat) : ByteArray := sp g 0 (frs (L ++ [b])) ((frs L).size / 55 + j)

theorem append_out {d : Dk} {i n h : Nat} {g : Int} {half : Nat} {L : List ByteArray} {y : Nat → ByteArray} (hl : Live d i n) (hn : 1 + 2 * h ≤ n) (hr : d.r i = ⟨n, y, []⟩) (G : Gd y h g half L) {b : ByteArray} (hb : 1 ≤ b.size ∧ b.size ≤ 4096) (hc : (frs (L ++ [b])).size + 1 ≤ 55 * h) :
    (layX i (apA h half L) (apC g L b) 0 (apN L b) d = 0 ∧ ∃ z, Went d (layD i (apA h half L) (apC g L b) 0 (apN L b) d) i n z ∧ Gd z h g half (L ++ [b])) ∨
    (layX i (apA h half L) (apC g L b) 0 (apN L b) d = 11 ∧ ∃ z, Gone d (layD i (apA h half L) (apC g L b) 0 (apN L b) d) i n z ∧ (Recs z h L ∨ Recs z h (L ++ [b])) ∧ gg z h = g) := by
  have hs : (frs (L ++ [b])).size = (frs L).size + (b.size + 6) := by rw [frs_snoc, size_app, fr_size]
  have hcap := G.cap
  have hh : half * h ≤ h := by
    have := G.hf
    rcases (by omega : half = 0 ∨ half = 1) with rfl | rfl <;> omega
  have hle : (frs L).size / 55 ≤ (frs (L ++ [b])).size / 55 := Nat.div_le_div_right (by omega)
  have hlt : (frs (L ++ [b])).size / 55 < h := by omega
  have hN : apN L b = (frs (L ++ [b])).size / 55 + 1 - (frs L).size / 55 := rfl
  have hA : apA h half L = 1 + half * h + (frs L).size / 55 := rfl
  rcases lay_out (a := apA h half L) (c := apC g L b) (apN L b) 0 d hl hr (by rw [hN, hA]; omega) (fun j => sp_64 _ _ _) with ⟨x, o⟩ | ⟨x, o⟩
  · left
    refine ⟨x, _, o.went, G.append hb hc (fun k hk => ?_) (fun j h1 h2 => ?_)⟩
    · unfold laid
      rw [if_neg (by rw [hA, hN]; omega)]
    · unfold laid
      rw [if_pos (by rw [hA, hN]; omega), hA]
      unfold apC
      congr 1
      omega
  · right
    obtain ⟨kp, t, t1, t2⟩ := o.gone
    refine ⟨x, _, t2, G.mix hb hc (fun k hk => ?_) (fun j h1 h2 => ?_)⟩
    · rw [stL_qs kp y _ _ t t (Nat.le_refl _) k, if_neg]
      rintro ⟨c1, c2, _⟩
      rw [hA] at c1 c2
      omega
    · rw [stL_qs kp y _ _ t t (Nat.le_refl _)]
      by_cases c : apA h half L ≤ 1 + half * h + j ∧ 1 + half * h + j < apA h half L + t ∧ kp (1 + half * h + j - apA h half L) = true
      · right
        rw [if_pos c]
        obtain ⟨c1, c2, _⟩ := c
        rw [hA] at c1 c2 ⊢
        refine ⟨by omega, ?_⟩
        unfold apC
        congr 1
        omega
      · left
        rw [if_neg c]

/-- Records laid anew: cells, and then the head. -/
def rsC (g : Int) (L : List ByteArray) (j : Nat) : ByteArray := sp (g + 1) 0 (frs L) j
def rsX (i h : Nat) (g : Int) (half : Nat) (L : List ByteArray) (d : Dk) : Int :=
  if layX i (1 + (1 - half) * h) (rsC g L) 0 ((frs L).size / 55 + 1) d = 0 then layX i 0 (fun _ => hdS (g + 1) (1 - half)) 0 1 (layD i (1 + (1 - half) * h) (rsC g L) 0 ((frs L).size / 55 + 1) d)
  else layX i (1 + (1 - half) * h) (rsC g L) 0 ((frs L).size / 55 + 1) d
def rsD (i h : Nat) (g : Int) (half : Nat) (L : List ByteArray) (d : Dk) : Dk :=
  if layX i (1 + (1 - half) * h) (rsC g L) 0 ((frs L).size / 55 + 1) d = 0 then layD i 0 (fun _ => hdS (g + 1) (1 - half)) 0 1 (layD i (1 + (1 - half) * h) (rsC g L) 0 ((frs L).size / 55 + 1) d)
  else layD i (1 + (1 - half) * h) (rsC g L) 0 ((frs L).size / 55 + 1) d

theorem reset_out {d : Dk} {i n h : Nat} {g : Int} {half : Nat} {L : List ByteArray} {y : Nat → ByteArray} (hl : Live d i n) (hn : 1 + 2 * h ≤ n) (hr : d.r i = ⟨n, y, []⟩) (hh : h ≤ 2047) (hf : hH (y 0) = half) (hgy : gg y h ≤ g) (hg : 0 ≤ g ∧ g < 281474976710655) (hL : Framable L) (hc : (frs L).size + 1 ≤ 55 * h) :
    (rsX i h g half L d = 0 ∧ ∃ z, Went d (rsD i h g half L d) i n z ∧ Gd z h (g + 1) (1 - half) L) ∨
    (rsX i h g half L d = 11 ∧ ∃ z, Gone d (rsD i h g half L d) i n z ∧ (dtOf z h = dtOf y h ∨ dtOf z h = frs L) ∧ gg z h ≤ g + 1) := by
  have hf2 : half < 2 := by rw [← hf]; exact hH_lt _
  have hg1 : 1 ≤ g + 1 ∧ g + 1 ≤ 281474976710655 := by omega
  have hh2 : (1 - half) * h ≤ h := by
    rcases (by omega : half = 0 ∨ half = 1) with rfl | rfl <;> omega
  have hlt : (frs L).size / 55 < h := by omega
  have hgens := gens_lt (y := y) (h := h) (g := g + 1) (by omega)
  have hcell : ∀ kp t, ∀ k, 0 < k → stL kp y (qs (1 + (1 - half) * h) (rsC g L) t) t k = y k ∨ (t ≤ (frs L).size / 55 + 1 → ∃ j, j ≤ (frs L).size / 55 ∧ stL kp y (qs (1 + (1 - half) * h) (rsC g L) t) t k = sp (g + 1) 0 (frs L) j) := fun kp t k _ => by
    rw [stL_qs kp y _ _ t t (Nat.le_refl _) k]
    by_cases c : 1 + (1 - half) * h ≤ k ∧ k < 1 + (1 - half) * h + t ∧ kp (k - (1 + (1 - half) * h)) = true
    · right
      intro ht
      rw [if_pos c]
      exact ⟨k - (1 + (1 - half) * h), by omega, rfl⟩
    · left
      rw [if_neg c]
  rcases lay_out (a := 1 + (1 - half) * h) (c := rsC g L) ((frs L).size / 55 + 1) 0 d hl hr (by omega) (fun j => sp_64 _ _ _) with ⟨x, o⟩ | ⟨x, o⟩
  · have hX : rsX i h g half L d = layX i 0 (fun _ => hdS (g + 1) (1 - half)) 0 1 (layD i (1 + (1 - half) * h) (rsC g L) 0 ((frs L).size / 55 + 1) d) := if_pos x
    have hD : rsD i h g half L d = layD i 0 (fun _ => hdS (g + 1) (1 - half)) 0 1 (layD i (1 + (1 - half) * h) (rsC g L) 0 ((frs L).size / 55 + 1) d) := if_pos x
    rw [hX, hD]
    have w1 := o.went
    rw [Nat.zero_add] at w1
    generalize layD i (1 + (1 - half) * h) (rsC g L) 0 ((frs L).size / 55 + 1) d = d1 at *
    -- what is laid once the cells are
    have G1 : ∀ z : Nat → ByteArray, z 0 = hdS (g + 1) (1 - half) → (∀ k, 0 < k → z k = laid y (1 + (1 - half) * h) (rsC g L) ((frs L).size / 55 + 1) k) → Gd z h (g + 1) (1 - half) L := fun z z0 zk =>
      gd_reset hg1 (by omega) hh hL hc hgens z0 (fun k k0 hk => by
        rw [zk k k0]
        unfold laid
        rw [if_neg (by omega)]) (fun j hj => by
        rw [zk _ (by omega)]
        unfold laid
        rw [if_pos (by omega)]
        unfold rsC
        congr 1
        omega)
    rcases lay_out (a := 0) (c := fun _ => hdS (g + 1) (1 - half)) 1 0 d1 w1.live w1.r (by omega) (fun j => hdS_size _ _) with ⟨x2, o2⟩ | ⟨x2, o2⟩
    · left
      have w2 := o2.went
      refine ⟨x2, _, ⟨w2.live, w2.k.trans w1.k, w2.r, fun j hj => (w2.other j hj).trans (w1.other j hj), fun h => w2.ask (w1.ask h)⟩, G1 _ ?_ fun k k0 => ?_⟩
      · unfold laid
        rw [if_pos (by omega)]
      · show laid _ 0 _ (0 + 1) k = _
        unfold laid
        rw [if_neg (by omega)]
    · right
      obtain ⟨kp, t, t1, t2⟩ := o2.gone
      obtain ⟨K, hK⟩ := t2.other
      refine ⟨x2, _, ⟨fun h => t2.had (w1.ask h), t2.off, t2.ask, t2.k.trans w1.k, t2.r, K, fun j hj => by rw [hK j hj, w1.other j hj]⟩, ?_⟩
      have zk : ∀ k, stL kp (laid y (1 + (1 - half) * h) (rsC g L) ((frs L).size / 55 + 1)) (qs 0 (fun _ => hdS (g + 1) (1 - half)) t) t k = if 0 ≤ k ∧ k < 0 + t ∧ kp (k - 0) = true then hdS (g + 1) (1 - half) else laid y (1 + (1 - half) * h) (rsC g L) ((frs L).size / 55 + 1) k := fun k => stL_qs kp _ 0 _ t t (Nat.le_refl _) k
      generalize stL kp (laid y (1 + (1 - half) * h) (rsC g L) ((frs L).size / 55 + 1)) (qs 0 (fun _ => hdS (g + 1) (1 - half)) t) t = z at *
      have zpos : ∀ k, 0 < k → z k = laid y (1 + (1 - half) * h) (rsC g L) ((frs L).size / 55 + 1) k := fun k k0 => by
        rw [zk k, if_neg (by omega)]
      by_cases c : 0 < 0 + t ∧ kp (0 - 0) = true
      · have z0 : z 0 = hdS (g + 1) (1 - half) := by rw [zk 0, if_pos ⟨Nat.le_refl _, c.1, c.2⟩]
        have Gz := G1 z z0 zpos
        exact ⟨.inr Gz.data, by rw [Gz.gg]; exact Int.le_refl _⟩
      · have z0 : z 0 = y 0 := by
          rw [zk 0, if_neg (fun h => c ⟨h.2.1, h.2.2⟩)]
          unfold laid
          rw [if_neg (by omega)]
        refine ⟨.inl (dt_reset (half := 1 - half) (by omega) (by omega) z0 fun k hk => ?_), gg_reset (y := y) (half := 1 - half) (L := L) hg1 (by omega) (by omega) (by omega) (.inl z0) fun k k0 => ?_⟩
        · by_cases k0 : k = 0
          · rw [k0]; exact z0
          · rw [zpos k (by omega)]
            unfold laid
            rw [if_neg (by omega)]
        · rw [zpos k k0]
          unfold laid
          by_cases ck : 1 + (1 - half) * h ≤ k ∧ k < 1 + (1 - half) * h + ((frs L).size / 55 + 1)
          · right
            rw [if_pos ck]
            exact ⟨k - (1 + (1 - half) * h), by omega, rfl⟩
          · left
            rw [if_neg ck]
  · have hX : rsX i h g half L d = layX i (1 + (1 - half) * h) (rsC g L) 0 ((frs L).size / 55 + 1) d := if_neg (by rw [x]; decide)
    have hD : rsD i h g half L d = layD i (1 + (1 - half) * h) (rsC g L) 0 ((frs L).size / 55 + 1) d := if_neg (by rw [x]; decide)
    rw [hX, hD]
    right
    obtain ⟨kp, t, t1, t2⟩ := o.gone
    have z0 : stL kp y (qs (1 + (1 - half) * h) (rsC g L) t) t 0 = y 0 := by
      rw [stL_qs kp y _ _ t t (Nat.le_refl _) 0, if_neg (by omega)]
    refine ⟨x, _, t2, .inl (dt_reset (half := 1 - half) (by omega) (by omega) z0 fun k hk => ?_), gg_reset (y := y) (half := 1 - half) (L := L) hg1 (by omega) (by omega) (by omega) (.inl z0) fun k k0 => ?_⟩
    · rw [stL_qs kp y _ _ t t (Nat.le_refl _) k, if_neg (by omega)]
    · rcases hcell kp t k k0 with e | e
      · exact .inl e
      · exact .inr (e (by omega))

end Go.Proofs.Ytcnonioiggniiaa.M
