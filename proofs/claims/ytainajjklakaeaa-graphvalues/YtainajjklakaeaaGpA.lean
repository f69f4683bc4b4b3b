/-
  Plain facts on workflows: a node ('Nd'), the first of a name ('fnd'), what is wrong with a node by itself ('one'), with its Deps ('dOk'), who waits for whom ('wts'), who comes behind whom ('war', step by step), and what Check answers ('chk'). Nothing is asked but what each fact names.
-/
import Derived.Test.YtainajjklakaeaaGtA0
namespace Go.Proofs.Ytainajjklakaeaa.M

/-- A node. -/
structure Nd where
  name : ByteArray
  deps : List ByteArray
  tries : Int
  lease : Int
  tenant : Int
  flow : ByteArray

/-- Its numbers fit a machine, its texts, too. -/
def NdOk (x : Nd) : Prop := x.name.size ≤ 140737488355328 ∧ x.flow.size ≤ 140737488355328 ∧ (∀ s ∈ x.deps, s.size ≤ 140737488355328) ∧ x.deps.length ≤ 400 ∧
  (-9223372036854775808 ≤ x.tries ∧ x.tries < 9223372036854775808) ∧ (-9223372036854775808 ≤ x.lease ∧ x.lease < 9223372036854775808) ∧ (-9223372036854775808 ≤ x.tenant ∧ x.tenant < 9223372036854775808)

/-! ### the first of a name -/
def fnd (L : List Nd) (s : ByteArray) : Int := match L.findIdx? (fun x => decide (x.name = s)) with
  | some i => (i : Int)
  | none => -1
theorem fnd_no {L : List Nd} {s : ByteArray} (h : ∀ (i : Nat) x, L[i]? = some x → x.name ≠ s) : fnd L s = -1 := by
  unfold fnd
  have : L.findIdx? (fun x => decide (x.name = s)) = none := by
    rw [List.findIdx?_eq_none_iff]
    intro x hx
    obtain ⟨i, hi⟩ := List.mem_iff_getElem?.1 hx
    exact decide_eq_false (h i x hi)
  rw [this]
theorem fnd_at {L : List Nd} {s : ByteArray} {i : Nat} {x : Nd} (hx : L[i]? = some x) (e : x.name = s) (h : ∀ (j : Nat) y, j < i → L[j]? = some y → y.name ≠ s) : fnd L s = (i : Int) := by
  unfold fnd
  have : L.findIdx? (fun x => decide (x.name = s)) = some i := by
    rw [List.findIdx?_eq_some_iff_getElem]
    obtain ⟨hi, hx'⟩ := List.getElem?_eq_some_iff.1 hx
    refine ⟨hi, ?_, ?_⟩
    · rw [hx']; exact decide_eq_true e
    · intro j hj
      have := h j L[j] hj (List.getElem?_eq_getElem (by omega))
      simpa using this
  rw [this]
theorem fnd_cases (L : List Nd) (s : ByteArray) : (fnd L s = -1 ∧ ∀ (i : Nat) x, L[i]? = some x → x.name ≠ s) ∨ ∃ (i : Nat) (x : Nd), fnd L s = (i : Int) ∧ L[i]? = some x ∧ x.name = s ∧ ∀ (j : Nat) y, j < i → L[j]? = some y → y.name ≠ s := by
  rcases h : L.findIdx? (fun x => decide (x.name = s)) with _ | i
  · left
    rw [List.findIdx?_eq_none_iff] at h
    have h' : ∀ (i : Nat) x, L[i]? = some x → x.name ≠ s := fun i x hx => of_decide_eq_false (h x (List.mem_of_getElem? hx))
    exact ⟨fnd_no h', h'⟩
  · right
    rw [List.findIdx?_eq_some_iff_getElem] at h
    obtain ⟨hi, h1, h2⟩ := h
    have h3 : ∀ (j : Nat) y, j < i → L[j]? = some y → y.name ≠ s := fun j y hj hy => by
      have := h2 j hj
      obtain ⟨hj', e⟩ := List.getElem?_eq_some_iff.1 hy
      rw [e] at this
      simpa using this
    exact ⟨i, L[i], fnd_at (List.getElem?_eq_getElem hi) (of_decide_eq_true h1) h3, List.getElem?_eq_getElem hi, of_decide_eq_true h1, h3⟩
theorem fnd_lt (L : List Nd) (s : ByteArray) : -1 ≤ fnd L s ∧ fnd L s < L.length := by
  rcases fnd_cases L s with ⟨h, _⟩ | ⟨i, x, h, hx, _⟩
  · rw [h]; omega
  · rw [h]
    have := (List.getElem?_eq_some_iff.1 hx).1
    omega
/-- That there is one ahead of it of the same name is that it isn't the first. -/
theorem fnd_dup {L : List Nd} {i : Nat} {x : Nd} (hx : L[i]? = some x) : (fnd L x.name ≠ (i : Int)) ↔ 0 ≤ fnd (L.take i) x.name := by
  rcases fnd_cases (L.take i) x.name with ⟨h, h1⟩ | ⟨j, y, h, hy, e, h1⟩
  · rw [h]
    have : fnd L x.name = (i : Int) := fnd_at hx rfl fun j y hj hy => h1 j y (by rw [List.getElem?_take_of_lt hj]; exact hy)
    rw [this]
    omega
  · have hj : j < i := by
      have := (List.getElem?_eq_some_iff.1 hy).1
      rw [List.length_take] at this
      omega
    rw [List.getElem?_take_of_lt hj] at hy
    have : fnd L x.name = (j : Int) := fnd_at hy e fun k z hk hz => h1 k z hk (by rw [List.getElem?_take_of_lt (by omega)]; exact hz)
    rw [this, h]
    omega

/-! ### one node -/
def one (x : Nd) (dup : Bool) : Int :=
  if nmd x.name = false ∨ dup = true then 30
  else if x.tries < 1 ∨ 4 < x.tries ∨ x.lease < 1 ∨ 1048576 < x.lease ∨ x.tenant < -1 ∨ 7 < x.tenant ∨ 12 < x.deps.length then 31
  else if x.tenant = -1 then (if x.flow.size = 0 then 0 else 31)
  else if nmd x.flow = false ∨ x.tries ≠ 1 then 31 else 0
theorem one_cases (x : Nd) (d : Bool) : one x d = 30 ∨ one x d = 31 ∨ one x d = 0 := by
  unfold one
  repeat' split
  all_goals simp
/-- Of the i-th node. -/
def oneI (L : List Nd) (i : Nat) : Int := match L[i]? with
  | some x => one x (decide (0 ≤ fnd (L.take i) x.name))
  | none => 0
theorem oneI_of {L : List Nd} {i : Nat} {x : Nd} (hx : L[i]? = some x) : oneI L i = one x (decide (0 ≤ fnd (L.take i) x.name)) := by unfold oneI; rw [hx]
theorem oneI_zero {L : List Nd} {i : Nat} {x : Nd} (hx : L[i]? = some x) (h : oneI L i = 0) : fnd L x.name = (i : Int) := by
  rw [oneI_of hx] at h
  apply Decidable.byContradiction
  intro hd
  rw [decide_eq_true ((fnd_dup hx).1 hd)] at h
  simp [one] at h

/-! ### Deps -/
def bmem (d : ByteArray) (l : List ByteArray) : Bool := l.any (fun x => decide (x = d))
theorem bmem_iff {d : ByteArray} {l : List ByteArray} : bmem d l = true ↔ d ∈ l := by
  unfold bmem
  rw [List.any_eq_true]
  exact ⟨fun ⟨x, hx, h⟩ => by have := of_decide_eq_true h; exact this ▸ hx, fun h => ⟨d, h, decide_eq_true rfl⟩⟩
theorem bmem_no {d : ByteArray} {l : List ByteArray} (h : d ∉ l) : bmem d l = false := by
  rcases e : bmem d l with _ | _
  · rfl
  · exact absurd (bmem_iff.1 e) h
def dOk (L : List Nd) (ds : List ByteArray) : Bool := (List.range ds.length).all fun k => match ds[k]? with
  | some d => decide (0 ≤ fnd L d) && !bmem d (ds.take k)
  | none => true
theorem dOk_yes {L : List Nd} {ds : List ByteArray} (h : ∀ (k : Nat) d, ds[k]? = some d → 0 ≤ fnd L d ∧ d ∉ ds.take k) : dOk L ds = true := by
  unfold dOk
  rw [List.all_eq_true]
  intro k _
  rcases e : ds[k]? with _ | d
  · rfl
  · obtain ⟨h1, h2⟩ := h k d e
    simp only [Bool.and_eq_true]
    exact ⟨decide_eq_true h1, by rw [bmem_no h2]; rfl⟩
theorem dOk_no {L : List Nd} {ds : List ByteArray} {k : Nat} {d : ByteArray} (hd : ds[k]? = some d) (h : fnd L d < 0 ∨ d ∈ ds.take k) : dOk L ds = false := by
  unfold dOk
  rw [List.all_eq_false]
  refine ⟨k, ?_, ?_⟩
  · rw [List.mem_range]; exact (List.getElem?_eq_some_iff.1 hd).1
  · rw [hd]
    simp only [Bool.and_eq_true]
    rintro ⟨h1, h2⟩
    have h1 := of_decide_eq_true h1
    rcases h with h | h
    · omega
    · rw [bmem_iff.2 h] at h2; cases h2
/-- Of the i-th node. -/
def dOkI (L : List Nd) (i : Nat) : Bool := match L[i]? with
  | some x => dOk L x.deps
  | none => true
theorem dOkI_of {L : List Nd} {i : Nat} {x : Nd} (hx : L[i]? = some x) : dOkI L i = dOk L x.deps := by unfold dOkI; rw [hx]

/-! ### who waits for whom -/
def wts (L : List Nd) (i k : Nat) : Bool := match L[i]?, L[k]? with
  | some x, some y => bmem y.name x.deps
  | _, _ => false
theorem wts_of {L : List Nd} {i k : Nat} {x y : Nd} (hx : L[i]? = some x) (hy : L[k]? = some y) : wts L i k = bmem y.name x.deps := by unfold wts; rw [hx, hy]
theorem wts_lt {L : List Nd} {i k : Nat} (h : wts L i k = true) : i < L.length ∧ k < L.length := by
  unfold wts at h
  split at h
  · rename_i h1 h2
    exact ⟨(List.getElem?_eq_some_iff.1 h1).1, (List.getElem?_eq_some_iff.1 h2).1⟩
  · cases h
/-- By the way that Masks goes. -/
def mbt (L : List Nd) (ds : List ByteArray) (k : Nat) : Bool := ds.any fun d => decide (fnd L d = (k : Int))
theorem mbt_nil (L : List Nd) (k : Nat) : mbt L [] k = false := rfl
theorem mbt_snoc (L : List Nd) (ds : List ByteArray) (d : ByteArray) (k : Nat) : mbt L (ds ++ [d]) k = (mbt L ds k || decide (fnd L d = (k : Int))) := by simp [mbt]
theorem mbt_wts {L : List Nd} {i : Nat} {x : Nd} (hx : L[i]? = some x) (hu : ∀ (j : Nat) y, L[j]? = some y → fnd L y.name = (j : Int)) (k : Nat) : mbt L x.deps k = wts L i k := by
  rw [Bool.eq_iff_iff]
  unfold mbt
  rw [List.any_eq_true]
  constructor
  · rintro ⟨d, hd, h⟩
    have h := of_decide_eq_true h
    rcases fnd_cases L d with ⟨h1, _⟩ | ⟨j, y, h1, hy, e, _⟩
    · omega
    · have : j = k := by omega
      subst this
      rw [wts_of hx hy, e]
      exact bmem_iff.2 hd
  · intro h
    obtain ⟨_, hk⟩ := wts_lt h
    have hy := List.getElem?_eq_getElem hk
    rw [wts_of hx hy] at h
    exact ⟨_, bmem_iff.1 h, decide_eq_true (hu k _ hy)⟩

/-! ### who comes behind whom -/
/-- By way of such as are below b. -/
def war (w : Nat → Nat → Bool) : Nat → Nat → Nat → Bool
  | 0, i, j => w i j
  | b + 1, i, j => war w b i j || (war w b i b && war w b b j)
theorem war_mono {w : Nat → Nat → Bool} {b i j : Nat} (h : war w b i j = true) : war w (b + 1) i j = true := by simp [war, h]
theorem war_left {w : Nat → Nat → Bool} {b i : Nat} (h : war w (b + 1) i b = true) : war w b i b = true := by
  simp only [war, Bool.or_eq_true, Bool.and_eq_true] at h
  rcases h with h | ⟨h, _⟩ <;> exact h
theorem war_right {w : Nat → Nat → Bool} {b j : Nat} (h : war w (b + 1) b j = true) : war w b b j = true := by
  simp only [war, Bool.or_eq_true, Bool.and_eq_true] at h
  rcases h with h | ⟨_, h⟩ <;> exact h
theorem war_trans {w : Nat → Nat → Bool} : ∀ {b i k j : Nat}, k < b → war w b i k = true → war w b k j = true → war w b i j = true
  | 0, _, _, _, h, _, _ => by omega
  | b + 1, i, k, j, hk, h1, h2 => by
    by_cases e : k = b
    · subst e
      have a1 := war_left h1
      have a2 := war_right h2
      simp [war, a1, a2]
    · have hk' : k < b := by omega
      simp only [war, Bool.or_eq_true, Bool.and_eq_true] at h1 h2 ⊢
      rcases h1 with h1 | ⟨h1, h1'⟩ <;> rcases h2 with h2 | ⟨h2, h2'⟩
      · exact .inl (war_trans hk' h1 h2)
      · exact .inr ⟨war_trans hk' h1 h2, h2'⟩
      · exact .inr ⟨h1, war_trans hk' h1' h2⟩
      · exact .inr ⟨h1, h2'⟩
theorem war_of {w : Nat → Nat → Bool} : ∀ (b : Nat) {i j : Nat}, w i j = true → war w b i j = true
  | 0, _, _, h => h
  | b + 1, _, _, h => war_mono (war_of b h)
theorem war_lt {w : Nat → Nat → Bool} {n : Nat} (hw : ∀ i k, w i k = true → k < n) : ∀ {b i k : Nat}, war w b i k = true → k < n
  | 0, _, _, h => hw _ _ h
  | b + 1, i, k, h => by
    simp only [war, Bool.or_eq_true, Bool.and_eq_true] at h
    rcases h with h | ⟨_, h⟩
    · exact war_lt hw h
    · exact war_lt hw h
theorem war_n {w : Nat → Nat → Bool} {n : Nat} (hw : ∀ i k, w i k = true → k < n) : ∀ {b i k : Nat}, war w b i k = true → war w n i k = true
  | 0, _, _, h => war_of n h
  | b + 1, i, k, h => by
    simp only [war, Bool.or_eq_true, Bool.and_eq_true] at h
    rcases h with h | ⟨h, h2⟩
    · exact war_n hw h
    · exact war_trans (war_lt hw h) (war_n hw h) (war_n hw h2)
/-- The row of the round's own node stays in its round. -/
theorem war_self (w : Nat → Nat → Bool) (b j : Nat) : war w (b + 1) b j = war w b b j := by
  rw [Bool.eq_iff_iff]
  exact ⟨war_right, war_mono⟩
/-- A set of nodes that is closed under who waits for one of it, and without i: then i doesn't come behind any of it. -/
theorem war_in {w : Nat → Nat → Bool} {i : Nat} {r : Nat → Bool} (h : ∀ a b, w a b = true → r b = true → r a = true ∧ a ≠ i) : ∀ {b x k : Nat}, war w b x k = true → r k = true → r x = true ∧ x ≠ i
  | 0, _, _, hw, hk => h _ _ hw hk
  | b + 1, x, k, hw, hk => by
    simp only [war, Bool.or_eq_true, Bool.and_eq_true] at hw
    rcases hw with hw | ⟨h1, h2⟩
    · exact war_in h hw hk
    · exact war_in h h1 (war_in h h2 hk).1
theorem war_no {w : Nat → Nat → Bool} {n i k : Nat} {r : Nat → Bool} (h : ∀ a b, w a b = true → r b = true → r a = true ∧ a ≠ i) (hk : r k = true) : war w n i k = false := by
  rcases e : war w n i k with _ | _
  · rfl
  · exact absurd rfl (war_in h e hk).2

/-! ### how many -/
def cnt (r : Nat → Bool) : Nat → Nat
  | 0 => 0
  | n + 1 => cnt r n + (r n).toNat
theorem cnt_le (r : Nat → Bool) : ∀ n, cnt r n ≤ n
  | 0 => Nat.le_refl _
  | n + 1 => by have := cnt_le r n; have : (r n).toNat ≤ 1 := Bool.toNat_le _; simp only [cnt]; omega
theorem cnt_mono {r q : Nat → Bool} (h : ∀ j, r j = true → q j = true) : ∀ n, cnt r n ≤ cnt q n
  | 0 => Nat.le_refl _
  | n + 1 => by
    have h1 := cnt_mono h n
    have h2 : (r n).toNat ≤ (q n).toNat := by
      rcases e : r n with _ | _
      · simp
      · rw [h n e]; exact Nat.le_refl _
    simp only [cnt]
    omega
theorem cnt_more {r q : Nat → Bool} (h : ∀ j, r j = true → q j = true) : ∀ {n j}, j < n → r j = false → q j = true → cnt r n < cnt q n
  | 0, _, hj, _, _ => by omega
  | n + 1, j, hj, h1, h2 => by
    simp only [cnt]
    by_cases e : j = n
    · subst e
      have := cnt_mono h j
      rw [h1, h2]
      simp only [Bool.toNat_false, Bool.toNat_true]
      omega
    · have h3 := cnt_more h (show j < n by omega) h1 h2
      have h4 : (r n).toNat ≤ (q n).toNat := by
        rcases e : r n with _ | _
        · simp
        · rw [h n e]; exact Nat.le_refl _
      omega
theorem cnt_pos {r : Nat → Bool} : ∀ {n k}, k < n → r k = true → 0 < cnt r n
  | 0, _, hk, _ => by omega
  | n + 1, k, hk, h => by
    simp only [cnt]
    by_cases e : k = n
    · subst e; rw [h]; simp
    · have := cnt_pos (show k < n by omega) h
      omega

/-! ### Check -/
def chk (nm : ByteArray) (L : List Nd) : Int × Int :=
  if nmd nm = false then (-1, 30)
  else if L.length < 1 ∨ 12 < L.length then (-1, 31)
  else match (List.range L.length).find? (fun i => decide (oneI L i ≠ 0)) with
    | some i => ((i : Int), oneI L i)
    | none => match (List.range L.length).find? (fun i => !dOkI L i) with
      | some i => ((i : Int), 32)
      | none => match (List.range L.length).find? (fun i => war (wts L) L.length i i) with
        | some i => ((i : Int), 33)
        | none => (0, 0)
theorem find_some {p : Nat → Bool} {n i : Nat} (hi : i < n) (h : p i = true) (h2 : ∀ j, j < i → p j = false) : (List.range n).find? p = some i := by
  rw [List.find?_range_eq_some]
  exact ⟨h, List.mem_range.2 hi, fun j hj => by rw [h2 j hj]; rfl⟩
theorem find_none {p : Nat → Bool} {n : Nat} (h2 : ∀ j, j < n → p j = false) : (List.range n).find? p = none := by
  rw [List.find?_range_eq_none]
  exact fun j hj => by rw [h2 j hj]; rfl
theorem find_none' {p : Nat → Bool} {n : Nat} (h : (List.range n).find? p = none) : ∀ j, j < n → p j = false := by
  rw [List.find?_range_eq_none] at h
  intro j hj
  have := h j hj
  simpa using this
theorem chk_name {nm : ByteArray} {L : List Nd} (h : nmd nm = false) : chk nm L = (-1, 30) := by unfold chk; rw [if_pos h]
theorem chk_len {nm : ByteArray} {L : List Nd} (h : nmd nm = true) (h2 : L.length < 1 ∨ 12 < L.length) : chk nm L = (-1, 31) := by unfold chk; rw [if_neg (by rw [h]; decide), if_pos h2]
theorem chk_one {nm : ByteArray} {L : List Nd} {i : Nat} (h : nmd nm = true) (h1 : 1 ≤ L.length) (h2 : L.length ≤ 12) (hi : i < L.length) (ho : oneI L i ≠ 0) (hj : ∀ j, j < i → oneI L j = 0) : chk nm L = ((i : Int), oneI L i) := by
  unfold chk
  rw [if_neg (by rw [h]; decide), if_neg (by omega), find_some (p := fun i => decide (oneI L i ≠ 0)) hi (decide_eq_true ho) (fun j hj' => decide_eq_false (by rw [hj j hj']; decide))]
theorem chk_dep {nm : ByteArray} {L : List Nd} {i : Nat} (h : nmd nm = true) (h1 : 1 ≤ L.length) (h2 : L.length ≤ 12) (ho : ∀ j, j < L.length → oneI L j = 0) (hi : i < L.length) (hd : dOkI L i = false) (hj : ∀ j, j < i → dOkI L j = true) : chk nm L = ((i : Int), 32) := by
  unfold chk
  rw [if_neg (by rw [h]; decide), if_neg (by omega), find_none (p := fun i => decide (oneI L i ≠ 0)) (fun j hj' => decide_eq_false (by rw [ho j hj']; decide))]
  simp only
  rw [find_some (p := fun i => !dOkI L i) hi (by simp [hd]) (fun j hj' => by simp [hj j hj'])]
theorem chk_cyc {nm : ByteArray} {L : List Nd} {i : Nat} (h : nmd nm = true) (h1 : 1 ≤ L.length) (h2 : L.length ≤ 12) (ho : ∀ j, j < L.length → oneI L j = 0) (hd : ∀ j, j < L.length → dOkI L j = true) (hi : i < L.length) (hw : war (wts L) L.length i i = true) (hj : ∀ j, j < i → war (wts L) L.length j j = false) : chk nm L = ((i : Int), 33) := by
  unfold chk
  rw [if_neg (by rw [h]; decide), if_neg (by omega), find_none (p := fun i => decide (oneI L i ≠ 0)) (fun j hj' => decide_eq_false (by rw [ho j hj']; decide))]
  simp only
  rw [find_none (p := fun i => !dOkI L i) (fun j hj' => by simp [hd j hj'])]
  simp only
  rw [find_some (p := fun i => war (wts L) L.length i i) hi hw hj]
theorem chk_ok {nm : ByteArray} {L : List Nd} (h : nmd nm = true) (h1 : 1 ≤ L.length) (h2 : L.length ≤ 12) (ho : ∀ j, j < L.length → oneI L j = 0) (hd : ∀ j, j < L.length → dOkI L j = true) (hj : ∀ j, j < L.length → war (wts L) L.length j j = false) : chk nm L = (0, 0) := by
  unfold chk
  rw [if_neg (by rw [h]; decide), if_neg (by omega), find_none (p := fun i => decide (oneI L i ≠ 0)) (fun j hj' => decide_eq_false (by rw [ho j hj']; decide))]
  simp only
  rw [find_none (p := fun i => !dOkI L i) (fun j hj' => by simp [hd j hj'])]
  simp only
  rw [find_none (p := fun i => war (wts L) L.length i i) hj]
/-- Of one that Check lets pass: how many nodes, and each name's first is its own. -/
theorem chk_pass {nm : ByteArray} {L : List Nd} (h : (chk nm L).2 = 0) : 1 ≤ L.length ∧ L.length ≤ 12 ∧ ∀ (j : Nat) y, L[j]? = some y → fnd L y.name = (j : Int) := by
  unfold chk at h
  split at h
  · cases h
  · split at h
    · cases h
    · rename_i hl
      refine ⟨by omega, by omega, fun j y hy => ?_⟩
      split at h
      · rename_i i hi
        have := List.find?_some hi
        exact absurd h (of_decide_eq_true this)
      · rename_i hn
        have := find_none' hn j (List.getElem?_eq_some_iff.1 hy).1
        exact oneI_zero hy (by simpa using this)
theorem chk_range (nm : ByteArray) (L : List Nd) : (-1 ≤ (chk nm L).1 ∧ (chk nm L).1 ≤ 12) ∧ (0 ≤ (chk nm L).2 ∧ (chk nm L).2 ≤ 33) := by
  have ho : ∀ i, 0 ≤ oneI L i ∧ oneI L i ≤ 33 := fun i => by
    unfold oneI
    split
    · rename_i x _
      rcases one_cases x (decide (0 ≤ fnd (L.take i) x.name)) with h | h | h <;> omega
    · omega
  unfold chk
  split
  · simp
  · split
    · simp
    · rename_i hl
      have hr : ∀ {p : Nat → Bool} {i : Nat}, (List.range L.length).find? p = some i → i < L.length := fun h => List.mem_range.1 (List.mem_of_find?_eq_some h)
      split
      · rename_i i hi
        have := hr hi
        have := ho i
        simp only
        omega
      · split
        · rename_i i hi
          have := hr hi
          simp only
          omega
        · split
          · rename_i i hi
            have := hr hi
            simp only
            omega
          · simp

/-! ### bsm -/
def bsm (p : Nat → Bool) : Nat → Nat
  | 0 => 0
  | n + 1 => bsm p n + (if p n then 2 ^ n else 0)
theorem bsm_lt (p : Nat → Bool) : ∀ n, bsm p n < 2 ^ n
  | 0 => Nat.one_pos
  | n + 1 => by
    have := bsm_lt p n
    simp only [bsm, Nat.pow_succ]
    split <;> omega
theorem bsm_bit (p : Nat → Bool) : ∀ n k, (bsm p n).testBit k = (decide (k < n) && p k)
  | 0, k => by simp [bsm]
  | n + 1, k => by
    have ih := bsm_bit p n
    have hl := bsm_lt p n
    simp only [bsm]
    by_cases hp : p n = true
    · rw [if_pos hp, Nat.add_comm]
      rcases Nat.lt_trichotomy k n with h | h | h
      · rw [Nat.testBit_two_pow_add_gt h, ih, decide_eq_true h, decide_eq_true (show k < n + 1 by omega)]
      · subst h
        rw [Nat.testBit_two_pow_add_eq, ih]
        simp [hp]
      · have : 2 ^ n + bsm p n < 2 ^ k := by
          have : 2 ^ (n + 1) ≤ 2 ^ k := Nat.pow_le_pow_right (by decide) h
          rw [Nat.pow_succ] at this
          omega
        rw [Nat.testBit_lt_two_pow this, decide_eq_false (show ¬ k < n + 1 by omega)]
        rfl
    · rw [if_neg hp, Nat.add_zero, ih]
      rcases Nat.lt_trichotomy k n with h | h | h
      · rw [decide_eq_true h, decide_eq_true (show k < n + 1 by omega)]
      · subst h
        simp at hp
        simp [hp]
      · rw [decide_eq_false (show ¬ k < n by omega), decide_eq_false (show ¬ k < n + 1 by omega)]
theorem bsm_eq {m n : Nat} {p : Nat → Bool} (h : ∀ k, m.testBit k = (decide (k < n) && p k)) : m = bsm p n := Nat.eq_of_testBit_eq fun k => by rw [h, bsm_bit]
theorem bsm_congr {p q : Nat → Bool} {n : Nat} (h : ∀ k, k < n → p k = q k) : bsm p n = bsm q n := bsm_eq fun k => by
  rw [bsm_bit]
  by_cases c : k < n
  · rw [h k c]
  · rw [decide_eq_false c]; rfl
theorem bsm_or (p q : Nat → Bool) (n : Nat) : bsm p n ||| bsm q n = bsm (fun k => p k || q k) n := bsm_eq fun k => by
  rw [Nat.testBit_or, bsm_bit, bsm_bit]
  cases decide (k < n) <;> rfl
theorem bsm_one {i n : Nat} (h : i < n) (p : Nat → Bool) : bsm p n ||| 2 ^ i = bsm (fun k => p k || decide (i = k)) n := bsm_eq fun k => by
  rw [Nat.testBit_or, bsm_bit, Nat.testBit_two_pow]
  by_cases c : i = k
  · subst c
    rw [decide_eq_true h]
    cases p i <;> simp
  · rw [decide_eq_false c]
    simp
theorem bsm_zero (n : Nat) : bsm (fun _ => false) n = 0 := by
  induction n with
  | zero => rfl
  | succ n ih => simp [bsm, ih]
/-- One bit, as it is looked at. -/
theorem bsm_at {p : Nat → Bool} {n i : Nat} (h : i < n) : bsm p n / 2 ^ i % 2 = (p i).toNat := by
  have := bsm_bit p n i
  rw [Nat.testBit_eq_decide_div_mod_eq, decide_eq_true h, Bool.true_and] at this
  rcases e : p i with _ | _
  · rw [e] at this
    have := of_decide_eq_false this
    simp only [Bool.toNat_false]
    omega
  · rw [e] at this
    exact of_decide_eq_true this

end Go.Proofs.Ytainajjklakaeaa.M
