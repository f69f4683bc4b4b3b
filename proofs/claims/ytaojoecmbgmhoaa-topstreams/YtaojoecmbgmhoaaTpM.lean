/-
  Plain facts on two streams in two regions of one disk: what is told of each, what perhaps lies there, and what the disk's calls and losses of power make of it. Nothing is asked but what each fact names.
-/
import Derived.Test.YtaojoecmbgmhoaaPb
namespace Go.Proofs.Ytaojoecmbgmhoaa.M

/-- Of two regions the first k are opened; what is told of each ('L'), or that and what was under way ('m'), lies there. -/
structure Pq (k : Nat) (d : Dk) (s : Nat → Sm) (L : Nat → List ByteArray) (m : Nat → ByteArray) (g : Int) : Prop where
  kk : d.k = 2
  on : ∀ j, j < k → On d (s j) 61 ∧ (s j).i = j ∧ (s j).L = L j ∧ (s j).g ≤ g ∧ m j = ⟨#[]⟩
  rest : ∀ j, j < 2 → ∃ X, Rest d j 61 X g ∧ (X = L j ∨ (¬ (m j).size = 0 ∧ X = L j ++ [m j]))

theorem Pq.empty {k : Nat} {d : Dk} {s : Nat → Sm} {L : Nat → List ByteArray} {m : Nat → ByteArray} {g : Int} (h : Pq k d s L m g) (k' : Nat) (hk : k' ≤ k) : Pq k' d s L m g := ⟨h.kk, fun j hj => h.on j (by omega), h.rest⟩
theorem Pq.mono {k : Nat} {d : Dk} {s : Nat → Sm} {L : Nat → List ByteArray} {m : Nat → ByteArray} {g g' : Int} (h : Pq k d s L m g) (hg : g ≤ g') : Pq k d s L m g' := by
  refine ⟨h.kk, fun j hj => ?_, fun j hj => ?_⟩
  · obtain ⟨a, b, c, e, f⟩ := h.on j hj
    exact ⟨a, b, c, by omega, f⟩
  · obtain ⟨X, a, b⟩ := h.rest j hj
    exact ⟨X, a.mono hg, b⟩
theorem Pq.q {k : Nat} {d : Dk} {s : Nat → Sm} {L : Nat → List ByteArray} {m : Nat → ByteArray} {g : Int} (h : Pq k d s L m g) : ∀ j, j < d.k → (d.r j).q = [] := fun j hj => by
  obtain ⟨X, r, _⟩ := h.rest j (by rw [← h.kk]; exact hj)
  obtain ⟨y, hr, _⟩ := r.r
  rw [hr]
theorem Pq.cut {k : Nat} {d : Dk} {s : Nat → Sm} {L : Nat → List ByteArray} {m : Nat → ByteArray} {g : Int} (h : Pq k d s L m g) (a n : Int) (K : List Int) : Pq k (d.cut a n K) s L m g := by
  refine ⟨h.kk, fun j hj => ?_, fun j hj => ?_⟩
  · obtain ⟨a', b⟩ := h.on j hj
    exact ⟨a'.cut a n K, b⟩
  · obtain ⟨X, a', b⟩ := h.rest j hj
    exact ⟨X, a'.cut a n K, b⟩
theorem Pq.pon {k : Nat} {d : Dk} {s : Nat → Sm} {L : Nat → List ByteArray} {m : Nat → ByteArray} {g : Int} (h : Pq k d s L m g) : Pq k d.on s L m g := by
  refine ⟨h.kk, fun j hj => ?_, fun j hj => ?_⟩
  · obtain ⟨a', b⟩ := h.on j hj
    exact ⟨a'.on, b⟩
  · obtain ⟨X, a', b⟩ := h.rest j hj
    exact ⟨X, a'.on, b⟩

/-- The power fails while region k is written: behind it, with the power on again. -/
theorem Pq.fails {k : Nat} {d : Dk} {s : Nat → Sm} {L : Nat → List ByteArray} {m : Nat → ByteArray} {g g' : Int} (h : Pq k d s L m g) {i : Nat} (hi : i < 2) {d' : Dk} {X : List ByteArray} {m' : Nat → ByteArray} (hg : g ≤ g') (dn : Down d' i 61 X g') (hk : d'.k = d.k) (ho : ∃ K, ∀ j, j ≠ i → d'.r j = (d.r j).set (kb K j))
    (hX : X = L i ∨ (¬ (m' i).size = 0 ∧ X = L i ++ [m' i])) (hm : ∀ j, j ≠ i → m' j = m j) : Pq 0 d'.on s L m' g' ∧ d'.on.ask = none := by
  obtain ⟨K, ho⟩ := ho
  refine ⟨⟨hk.trans h.kk, fun j hj => absurd hj (Nat.not_lt_zero j), fun j hj => ?_⟩, dn.on.2⟩
  by_cases c : j = i
  · subst c
    exact ⟨X, dn.on.1, hX⟩
  · obtain ⟨Y, r, hY⟩ := h.rest j hj
    exact ⟨Y, ((r.mono hg).lost dn.off dn.ask hk (ho j c)).on.1, by rw [hm j c]; exact hY⟩

/-- Region k is opened. -/
theorem Pq.opened {k : Nat} {d : Dk} {s : Nat → Sm} {L : Nat → List ByteArray} {m : Nat → ByteArray} {g : Int} (h : Pq k d s L m g) (hk2 : k < 2) {d' : Dk} {s' : Sm} {X : List ByteArray} (o : On d' s' 61) (hi : s'.i = k) (hL : s'.L = X) (hg : s'.g ≤ g + 1) (hk : d'.k = d.k) (hr : ∀ j, j ≠ k → d'.r j = d.r j) :
    Pq (k + 1) d' (upd s k s') (upd L k X) (upd m k ⟨#[]⟩) (g + 1) := by
  refine ⟨hk.trans h.kk, fun j hj => ?_, fun j hj => ?_⟩
  · by_cases c : j = k
    · subst c
      rw [upd_at, upd_at, upd_at]
      exact ⟨o, hi, hL, hg, rfl⟩
    · rw [upd_off _ _ c, upd_off _ _ c, upd_off _ _ c]
      obtain ⟨a, b, c', e, f⟩ := h.on j (by omega)
      exact ⟨a.beside o.live.off hk (by rw [b]; exact hr j c), b, c', by omega, f⟩
  · by_cases c : j = k
    · subst c
      rw [upd_at, upd_at]
      have r := o.rest
      rw [hi, hL] at r
      exact ⟨X, r.mono hg, .inl rfl⟩
    · rw [upd_off _ _ c, upd_off _ _ c]
      obtain ⟨Y, r, hY⟩ := h.rest j hj
      exact ⟨Y, (r.beside o.live.off hk (hr j c)).mono (by omega), hY⟩

/-- A record more in stream i. -/
theorem Pq.put {d : Dk} {s : Nat → Sm} {L : Nat → List ByteArray} {m : Nat → ByteArray} {g : Int} (h : Pq 2 d s L m g) {i : Nat} (hi2 : i < 2) {d' : Dk} {b : ByteArray} (o : On d' { s i with L := (s i).L ++ [b] } 61) (hk : d'.k = d.k) (hr : ∀ j, j ≠ i → d'.r j = d.r j) :
    Pq 2 d' (upd s i { s i with L := (s i).L ++ [b] }) (upd L i (L i ++ [b])) m g := by
  obtain ⟨a1, a2, a3, a4, a5⟩ := h.on i hi2
  refine ⟨hk.trans h.kk, fun j hj => ?_, fun j hj => ?_⟩
  · by_cases c : j = i
    · subst c
      rw [upd_at, upd_at]
      exact ⟨o, a2, by show (s j).L ++ [b] = _; rw [a3], a4, a5⟩
    · rw [upd_off _ _ c, upd_off _ _ c]
      obtain ⟨a, b', c', e, f⟩ := h.on j hj
      exact ⟨a.beside o.live.off hk (by rw [b']; exact hr j c), b', c', e, f⟩
  · by_cases c : j = i
    · subst c
      rw [upd_at]
      have r := o.rest
      rw [show ({ s j with L := (s j).L ++ [b] } : Sm).i = j from a2, show ({ s j with L := (s j).L ++ [b] } : Sm).L = L j ++ [b] by show (s j).L ++ [b] = _; rw [a3]] at r
      exact ⟨_, r.mono a4, .inl rfl⟩
    · rw [upd_off _ _ c]
      obtain ⟨Y, r, hY⟩ := h.rest j hj
      exact ⟨Y, r.beside o.live.off hk (hr j c), hY⟩

/-- A new disk of two regions. -/
theorem pq_new : Pq 0 (newD (fun _ => 61) 2) (fun _ => ⟨0, 0, 0, 0, [], false⟩) (fun _ => []) (fun _ => ⟨#[]⟩) 0 := by
  refine ⟨rfl, fun j hj => absurd hj (Nat.not_lt_zero j), fun j hj => ⟨[], ?_, .inl rfl⟩⟩
  have hz : szN 61 = 61 := by decide
  refine rest_no ⟨rfl, hj, hz⟩ ⟨by omega, by omega⟩ ?_
  show newR 61 = _
  unfold newR
  rw [hz]

/-- How many rounds are still to come: losses of power, and regions. -/
def rnd2 (lost : Nat) (d : Dk) (k : Nat) : Nat := 3 * ((8 - lost) + (if d.ask = none then 0 else 1)) + (2 - k)

theorem rnd2_ok {lost : Nat} {d d' : Dk} {k : Nat} (_ : k < 2) (ha : d.ask = none → d'.ask = none) : rnd2 lost d' (k + 1) < rnd2 lost d k := by
  unfold rnd2
  by_cases c : d.ask = none
  · rw [if_pos c, if_pos (ha c)]
    omega
  · rw [if_neg c]
    split <;> omega
theorem rnd2_no {lost : Nat} {d e : Dk} {k : Nat} (_ : k < 2) (ha : ¬ d.ask = none) (he : e.ask = none) : rnd2 lost e 0 < rnd2 lost d k := by
  unfold rnd2
  rw [if_neg ha, if_pos he]
  omega
theorem rnd2_arm {lost : Nat} {d e : Dk} {k : Nat} (_ : k < 2) (ha : ¬ d.ask = none) (_ : lost < 8) : rnd2 (lost + 1) e 0 < rnd2 lost d k := by
  unfold rnd2
  rw [if_neg ha]
  split <;> omega
theorem rnd2_le {lost : Nat} (d : Dk) : rnd2 lost d 0 ≤ 29 := by
  unfold rnd2
  split <;> omega
theorem Pq.congr {k : Nat} {d : Dk} {s : Nat → Sm} {L L' : Nat → List ByteArray} {m m' : Nat → ByteArray} {g : Int} (h : Pq k d s L m g) (_ : k ≤ 2) (hL : ∀ j, j < 2 → L' j = L j) (hm : ∀ j, j < 2 → m' j = m j) : Pq k d s L' m' g :=
  ⟨h.kk, fun j hj => by rw [hL j (by omega), hm j (by omega)]; exact h.on j hj, fun j hj => by rw [hL j hj, hm j hj]; exact h.rest j hj⟩

theorem len_frs : ∀ L : List ByteArray, L.length ≤ (frs L).size
  | [] => Nat.zero_le _
  | b :: L => by
    have ih := len_frs L
    show L.length + 1 ≤ (fr b ++ frs L).size
    rw [size_app, fr_size]
    omega
theorem Rest.len {d : Dk} {i : Nat} {L : List ByteArray} {g : Int} (r : Rest d i 61 L g) : L.length ≤ 1650 := by
  have h1 := r.cap
  have h2 := len_frs L
  omega

end Go.Proofs.Ytaojoecmbgmhoaa.M
