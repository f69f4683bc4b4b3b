/-
  Plain facts on masks: the bits of a number, rising ('bl'), how many nodes count ('nn'), which wait for which ('wt'), what is ready ('isR', 'rdn'), the order ('ord'), who comes behind whom ('Rea'), how deep a node stands ('dps'). No Go text is in sight.
-/
import Derived.Test.YtcojpajmeacpiaaDoorGpA
import Derived.Lib.TrailingZeros
namespace Go.Proofs.YtcojpajmeacpiaaDoor.M

/-! ### the bits of a number -/
def bl (s : Nat) : List Nat := (List.range 32).filter fun i => s.testBit i
theorem bl_zero : bl 0 = [] := by simp [bl]
theorem mem_bl {s i : Nat} : i ∈ bl s ↔ i < 32 ∧ s.testBit i = true := by simp [bl]
theorem bit_lt {s i : Nat} (hs : s < 4294967296) (h : s.testBit i = true) : i < 32 := by
  apply Decidable.byContradiction
  intro hn
  have : 2 ^ 32 ≤ 2 ^ i := Nat.pow_le_pow_right (by decide) (by omega)
  rw [Nat.testBit_lt_two_pow (by omega)] at h
  cases h
theorem mem_bl' {s i : Nat} (hs : s < 4294967296) : i ∈ bl s ↔ s.testBit i = true := ⟨fun h => (mem_bl.1 h).2, fun h => mem_bl.2 ⟨bit_lt hs h, h⟩⟩
theorem filter_first (p q : Nat → Bool) (c : Nat) (h0 : ∀ i, i < c → p i = false) (h1 : p c = true) : ∀ n, c < n → (∀ i, i < n → q i = (decide (i ≠ c) && p i)) → (List.range n).filter p = c :: (List.range n).filter q
  | 0, h, _ => by omega
  | n + 1, h, hq => by
    rw [List.range_succ, List.filter_append, List.filter_append]
    by_cases e : c = n
    · subst e
      have e1 : (List.range c).filter p = [] := by
        rw [List.filter_eq_nil_iff]
        intro i hi
        rw [h0 i (List.mem_range.1 hi)]
        decide
      have e2 : (List.range c).filter q = [] := by
        rw [List.filter_eq_nil_iff]
        intro i hi
        rw [hq i (by have := List.mem_range.1 hi; omega), h0 i (List.mem_range.1 hi)]
        simp
      have e3 := hq c (by omega)
      simp at e3
      rw [e1, e2]
      simp [h1, e3]
    · have ih := filter_first p q c h0 h1 n (by omega) (fun i hi => hq i (by omega))
      have e3 := hq n (by omega)
      rw [ih]
      have : decide (n ≠ c) = true := decide_eq_true (fun e' => e e'.symm)
      rw [this, Bool.true_and] at e3
      simp [List.filter_cons, e3]
/-- The first bit, and those behind it. -/
theorem bl_step {x : Nat} (hx : x < 4294967296) (h0 : x ≠ 0) : Lib.ctz 32 x < 32 ∧ x.testBit (Lib.ctz 32 x) = true ∧ (∀ i, i < Lib.ctz 32 x → x.testBit i = false) ∧ bl x = Lib.ctz 32 x :: bl (x &&& (x - 1)) ∧ x &&& (x - 1) < x := by
  obtain ⟨m, hm, hk⟩ := Lib.ctzFrom_spec 32 x (by omega) (by omega)
  have hc : Lib.ctz 32 x = Lib.ctzFrom 32 x := by unfold Lib.ctz; rw [if_neg h0]
  rw [hc]
  generalize Lib.ctzFrom 32 x = c at *
  have hp : 0 < 2 ^ c := Nat.two_pow_pos c
  have b0 : ∀ i, x.testBit i = if i < c then false else (2 * m + 1).testBit (i - c) := fun i => by
    rw [hm, Nat.mul_comm, Nat.testBit_mul_two_pow]
    by_cases h : i < c
    · rw [if_pos h]; simp; omega
    · rw [if_neg h, decide_eq_true (by omega), Bool.true_and]
  have e1 : x - 1 = 2 ^ c * (2 * m) + (2 ^ c - 1) := by
    rw [hm, Nat.mul_add, Nat.mul_one]
    omega
  have b1 : ∀ i, (x - 1).testBit i = if i < c then true else (2 * m).testBit (i - c) := fun i => by
    rw [e1, Nat.testBit_two_pow_mul_add _ (by omega)]
    by_cases h : i < c
    · rw [if_pos h, if_pos h, Nat.testBit_two_pow_sub_one, decide_eq_true h]
    · rw [if_neg h, if_neg h]
  have b2 : ∀ i, (x &&& (x - 1)).testBit i = (decide (i ≠ c) && x.testBit i) := fun i => by
    rw [Nat.testBit_and, b0, b1]
    by_cases h : i < c
    · rw [if_pos h]; simp
    · rw [if_neg h, if_neg h]
      by_cases h' : i = c
      · subst h'; simp
      · obtain ⟨j, rfl⟩ : ∃ j, i = c + (j + 1) := ⟨i - c - 1, by omega⟩
        have e3 : c + (j + 1) - c = j + 1 := by omega
        rw [e3, Nat.testBit_succ, Nat.testBit_succ]
        have d1 : (2 * m + 1) / 2 = m := by omega
        have d2 : 2 * m / 2 = m := by omega
        rw [d1, d2]
        simp
  have t1 : x.testBit c = true := by rw [b0]; simp
  refine ⟨hk, t1, fun i hi => by rw [b0, if_pos hi], filter_first _ _ c (fun i hi => by rw [b0, if_pos hi]) t1 32 hk (fun i _ => b2 i), ?_⟩
  have := Nat.and_le_right (n := x) (m := x - 1)
  omega

/-! ### masks -/
def nn (M : List Nat) : Nat := min M.length 32
def mk (M : List Nat) (i : Nat) : Nat := M.getD i 0
def MOk (M : List Nat) : Prop := ∀ x ∈ M, x < 4294967296
theorem mk_lt {M : List Nat} (h : MOk M) (i : Nat) : mk M i < 4294967296 := by
  unfold mk
  rcases e : M[i]? with _ | x
  · simp [List.getD, e]
  · simp [List.getD, e]; exact h x (List.mem_of_getElem? e)
theorem nn_le (M : List Nat) : nn M ≤ 32 := by unfold nn; omega
theorem nn_len (M : List Nat) : nn M ≤ M.length := by unfold nn; omega
theorem mk_at {M : List Nat} {i : Nat} (h : i < nn M) : M[i]? = some (mk M i) := by
  have hl : i < M.length := by have := nn_len M; omega
  unfold mk
  rw [List.getD_eq_getElem?_getD, List.getElem?_eq_getElem hl]
  rfl
/-- All nodes. -/
def al_ (M : List Nat) : Nat := 2 ^ nn M - 1
theorem al_bit (M : List Nat) (i : Nat) : (al_ M).testBit i = decide (i < nn M) := Nat.testBit_two_pow_sub_one _ _
theorem al_lt (M : List Nat) : al_ M < 4294967296 := by
  have : 2 ^ nn M ≤ 2 ^ 32 := Nat.pow_le_pow_right (by decide) (nn_le M)
  have := Nat.two_pow_pos (nn M)
  unfold al_
  omega
/-- The i-th waits for the k-th. -/
def wt (M : List Nat) (i k : Nat) : Bool := decide (i < nn M) && decide (k < nn M) && (mk M i).testBit k
theorem wt_iff {M : List Nat} {i k : Nat} : wt M i k = true ↔ i < nn M ∧ k < nn M ∧ (mk M i).testBit k = true := by
  unfold wt; simp [and_assoc]

/-! ### what is ready -/
def wai (M : List Nat) (D : Nat → Bool) (i n : Nat) : Bool := (List.range n).any fun k => (mk M i).testBit k && !D k
theorem wai_zero (M : List Nat) (D : Nat → Bool) (i : Nat) : wai M D i 0 = false := rfl
theorem wai_succ (M : List Nat) (D : Nat → Bool) (i n : Nat) : wai M D i (n + 1) = (wai M D i n || ((mk M i).testBit n && !D n)) := by
  simp [wai, List.range_succ]
theorem wai_iff {M : List Nat} {D : Nat → Bool} {i n : Nat} : wai M D i n = true ↔ ∃ k, k < n ∧ (mk M i).testBit k = true ∧ D k = false := by
  simp [wai]
theorem wai_congr {M : List Nat} {D E : Nat → Bool} {i n : Nat} (h : ∀ k, k < n → D k = E k) : wai M D i n = wai M E i n := by
  rw [Bool.eq_iff_iff, wai_iff, wai_iff]
  constructor
  · rintro ⟨k, h1, h2, h3⟩; exact ⟨k, h1, h2, by rw [← h k h1]; exact h3⟩
  · rintro ⟨k, h1, h2, h3⟩; exact ⟨k, h1, h2, by rw [h k h1]; exact h3⟩
def isR (M : List Nat) (D : Nat → Bool) (i : Nat) : Bool := decide (i < nn M) && (!D i && !wai M D i (nn M))
theorem isR_congr {M : List Nat} {D E : Nat → Bool} (h : ∀ k, k < nn M → D k = E k) (i : Nat) : isR M D i = isR M E i := by
  unfold isR
  rw [wai_congr h]
  by_cases hi : i < nn M
  · rw [h i hi]
  · simp [hi]
theorem isR_iff {M : List Nat} {D : Nat → Bool} {i : Nat} : isR M D i = true ↔ i < nn M ∧ D i = false ∧ ∀ k, wt M i k = true → D k = true := by
  unfold isR
  simp only [Bool.and_eq_true, decide_eq_true_eq, Bool.not_eq_true']
  constructor
  · rintro ⟨h1, h2, h3⟩
    refine ⟨h1, h2, fun k hk => ?_⟩
    rcases e : D k with _ | _
    · obtain ⟨_, k2, k3⟩ := wt_iff.1 hk
      have := wai_iff.2 ⟨k, k2, k3, e⟩
      rw [h3] at this; cases this
    · rfl
  · rintro ⟨h1, h2, h3⟩
    refine ⟨h1, h2, ?_⟩
    rcases e : wai M D i (nn M) with _ | _
    · rfl
    · obtain ⟨k, k1, k2, k3⟩ := wai_iff.1 e
      rw [h3 k (wt_iff.2 ⟨h1, k1, k2⟩)] at k3; cases k3
/-- As a number. -/
def rdn (M : List Nat) (D : Nat) : Nat := bsm (isR M D.testBit) 32
theorem rdn_lt (M : List Nat) (D : Nat) : rdn M D < 4294967296 := bsm_lt _ 32
theorem rdn_bit (M : List Nat) (D i : Nat) : (rdn M D).testBit i = isR M D.testBit i := by
  unfold rdn
  rw [bsm_bit]
  by_cases h : i < 32
  · simp [h]
  · have : isR M D.testBit i = false := by unfold isR; have := nn_le M; rw [decide_eq_false (by omega)]; rfl
    simp [h, this]
/-- As the code asks it. -/
theorem isR_code (M : List Nat) (D i : Nat) (hi : i < nn M) (hD : D.testBit i = false) : isR M D.testBit i = decide (mk M i &&& (al_ M &&& (4294967295 - D)) = 0) ∨ 4294967296 ≤ D := by
  by_cases hd : D < 4294967296
  · left
    have hb : ∀ k, k < 32 → (4294967295 - D).testBit k = !D.testBit k := fun k hk => by
      have : 4294967295 - D = 2 ^ 32 - (D + 1) := by omega
      rw [this, Nat.testBit_two_pow_sub_succ (by omega)]
      simp [hk]
    rw [Bool.eq_iff_iff, isR_iff, decide_eq_true_eq]
    constructor
    · rintro ⟨_, _, h3⟩
      apply Nat.eq_of_testBit_eq
      intro k
      rw [Nat.testBit_and, Nat.testBit_and, al_bit, Nat.zero_testBit]
      by_cases hk : k < nn M
      · rw [hb k (by have := nn_le M; omega), decide_eq_true hk]
        rcases e : (mk M i).testBit k with _ | _
        · rfl
        · rw [h3 k (wt_iff.2 ⟨hi, hk, e⟩)]; rfl
      · rw [decide_eq_false hk]; simp
    · intro h
      refine ⟨hi, hD, fun k hk => ?_⟩
      obtain ⟨_, k2, k3⟩ := wt_iff.1 hk
      have := congrArg (fun z => z.testBit k) h
      simp only [Nat.testBit_and, al_bit, Nat.zero_testBit, k3, decide_eq_true k2, Bool.true_and] at this
      rw [hb k (by have := nn_le M; omega)] at this
      simpa using this
  · exact .inr (by omega)
/-- Those that are left, as the code reckons them. -/
theorem left_bit (M : List Nat) {D : Nat} (hD : D < 4294967296) (i : Nat) : (al_ M &&& (4294967295 - D)).testBit i = (decide (i < nn M) && !D.testBit i) := by
  rw [Nat.testBit_and, al_bit]
  by_cases hk : i < nn M
  · have : 4294967295 - D = 2 ^ 32 - (D + 1) := by omega
    rw [this, Nat.testBit_two_pow_sub_succ (by omega)]
    have := nn_le M
    simp [show i < 32 by omega]
  · simp [hk]
/-- The bits gathered over a list. -/
def gat (p : Nat → Bool) (l : List Nat) : Nat := l.foldl (fun a i => if p i then a ||| 2 ^ i else a) 0
theorem gat_nil (p : Nat → Bool) : gat p [] = 0 := rfl
theorem gat_snoc (p : Nat → Bool) (l : List Nat) (i : Nat) : gat p (l ++ [i]) = if p i then gat p l ||| 2 ^ i else gat p l := by simp [gat]
theorem foldl_bit (p : Nat → Bool) : ∀ (l : List Nat) (a k : Nat), (l.foldl (fun a i => if p i then a ||| 2 ^ i else a) a).testBit k = (a.testBit k || (decide (k ∈ l) && p k))
  | [], a, k => by simp
  | i :: l, a, k => by
    rw [List.foldl_cons, foldl_bit p l]
    by_cases h : p i = true
    · rw [if_pos h, Nat.testBit_or, Nat.testBit_two_pow]
      by_cases e : i = k
      · subst e; simp [h]
      · have e' : ¬ k = i := fun e' => e e'.symm
        simp [e, e']
    · rw [if_neg h]
      by_cases e : k = i
      · subst e; simp [h]
      · simp [e]
theorem gat_bit (p : Nat → Bool) (l : List Nat) (k : Nat) : (gat p l).testBit k = (decide (k ∈ l) && p k) := by
  unfold gat; rw [foldl_bit]; simp
theorem gat_lt (p : Nat → Bool) {l : List Nat} (h : ∀ i ∈ l, i < 32) : gat p l < 4294967296 := by
  have : gat p l < 2 ^ 32 := by
    apply Nat.lt_pow_two_of_testBit
    intro i hi
    rw [gat_bit]
    have : decide (i ∈ l) = false := decide_eq_false (fun q => by have := h i q; omega)
    rw [this]; rfl
  omega
/-- Has a mask none, or one, of these bits? -/
def nob (M : List Nat) (x i : Nat) : Bool := decide (mk M i &&& x = 0)
def anb (M : List Nat) (x i : Nat) : Bool := decide (mk M i &&& x ≠ 0)
/-- What the code's round gathers is what is ready. -/
theorem gat_rdn (M : List Nat) {D : Nat} (hD : D < 4294967296) : gat (nob M (al_ M &&& (4294967295 - D))) (bl (al_ M &&& (4294967295 - D))) = rdn M D := by
  apply Nat.eq_of_testBit_eq
  intro i
  rw [gat_bit, rdn_bit]
  by_cases h : i ∈ bl (al_ M &&& (4294967295 - D))
  · rw [decide_eq_true h, Bool.true_and]
    have h2 := (mem_bl.1 h).2
    rw [left_bit M hD] at h2
    simp only [Bool.and_eq_true, decide_eq_true_eq, Bool.not_eq_true'] at h2
    rcases isR_code M D i h2.1 h2.2 with e | e
    · exact e.symm
    · omega
  · rw [decide_eq_false h, Bool.false_and]
    symm
    rcases e : isR M D.testBit i with _ | _
    · rfl
    · obtain ⟨h1, h2, _⟩ := isR_iff.1 e
      refine absurd (mem_bl.2 ⟨by have := nn_le M; omega, ?_⟩) h
      rw [left_bit M hD, h2, decide_eq_true h1]; rfl

/-! ### the order -/
def ord (M : List Nat) : Nat → Nat → List Nat
  | 0, _ => []
  | f + 1, P => match bl (rdn M P) with
    | [] => []
    | i :: _ => i :: ord M f (P ||| 2 ^ i)
theorem ord_none {M : List Nat} {P : Nat} (h : rdn M P = 0) : ∀ f, ord M f P = []
  | 0 => rfl
  | f + 1 => by simp [ord, h, bl_zero]
theorem ord_some {M : List Nat} {P : Nat} (h : rdn M P ≠ 0) (f : Nat) : ord M (f + 1) P = Lib.ctz 32 (rdn M P) :: ord M f (P ||| 2 ^ Lib.ctz 32 (rdn M P)) := by
  obtain ⟨_, _, _, h4, _⟩ := bl_step (rdn_lt M P) h
  simp only [ord]
  rw [h4]
/-- How many are not placed yet. -/
def lft (M : List Nat) (P : Nat) : Nat := ((List.range (nn M)).filter fun i => !P.testBit i).length
theorem filter_less {p q : Nat → Bool} {i : Nat} (h : ∀ j, q j = (p j && !decide (i = j))) (hp : p i = true) : ∀ {l : List Nat}, l.Nodup → i ∈ l → (l.filter q).length + 1 = (l.filter p).length
  | [], _, hm => by cases hm
  | a :: l, hd, hm => by
    rw [List.nodup_cons] at hd
    by_cases e : i = a
    · subst e
      have : l.filter q = l.filter p := List.filter_congr fun j hj => by
        rw [h, decide_eq_false (fun e' => hd.1 (by rw [e']; exact hj))]; simp
      simp [h, hp, this]
    · have hm' : i ∈ l := by
        rcases List.mem_cons.1 hm with h' | h'
        · exact absurd h' e
        · exact h'
      have ih := filter_less h hp hd.2 hm'
      have ea : q a = p a := by rw [h, decide_eq_false e]; simp
      simp only [List.filter_cons, ea]
      split
      · simp only [List.length_cons]; omega
      · exact ih
theorem lft_put {M : List Nat} {P i : Nat} (hi : i < nn M) (hP : P.testBit i = false) : lft M (P ||| 2 ^ i) + 1 = lft M P := by
  unfold lft
  refine filter_less (i := i) (fun j => ?_) (by rw [hP]; rfl) (List.nodup_range) (List.mem_range.2 hi)
  rw [Nat.testBit_or, Nat.testBit_two_pow]
  cases P.testBit j <;> simp
theorem lft_le (M : List Nat) (P : Nat) : lft M P ≤ nn M := by
  have := List.length_filter_le (fun i => !P.testBit i) (List.range (nn M))
  rw [List.length_range] at this
  exact this
theorem lft_pos {M : List Nat} {P i : Nat} (hi : i < nn M) (hP : P.testBit i = false) : 1 ≤ lft M P := by
  have := lft_put hi hP; omega
/-- A ready one. -/
theorem rd_first {M : List Nat} {P : Nat} (h : rdn M P ≠ 0) : Lib.ctz 32 (rdn M P) < nn M ∧ isR M P.testBit (Lib.ctz 32 (rdn M P)) = true ∧ P.testBit (Lib.ctz 32 (rdn M P)) = false ∧ ∀ i, i < Lib.ctz 32 (rdn M P) → isR M P.testBit i = false := by
  obtain ⟨_, h2, h3, _, _⟩ := bl_step (rdn_lt M P) h
  rw [rdn_bit] at h2
  obtain ⟨q1, q2, _⟩ := isR_iff.1 h2
  exact ⟨q1, h2, q2, fun i hi => by rw [← rdn_bit]; exact h3 i hi⟩
theorem rd_zero {M : List Nat} {P : Nat} (h : ∀ i, i < nn M → isR M P.testBit i = false) : rdn M P = 0 := by
  apply Nat.eq_of_testBit_eq
  intro i
  rw [rdn_bit, Nat.zero_testBit]
  by_cases hi : i < nn M
  · exact h i hi
  · unfold isR; rw [decide_eq_false hi]; rfl
theorem rd_at {M : List Nat} {P i : Nat} (hr : isR M P.testBit i = true) (h : ∀ j, j < i → isR M P.testBit j = false) : rdn M P ≠ 0 ∧ Lib.ctz 32 (rdn M P) = i := by
  have hn : rdn M P ≠ 0 := fun e => by rw [← rdn_bit, e, Nat.zero_testBit] at hr; cases hr
  obtain ⟨_, h2, _, h4⟩ := rd_first hn
  refine ⟨hn, ?_⟩
  rcases Nat.lt_trichotomy (Lib.ctz 32 (rdn M P)) i with e | e | e
  · rw [h _ e] at h2; cases h2
  · exact e
  · rw [h4 _ e] at hr; cases hr
theorem put_lt {P i : Nat} (hP : P < 4294967296) (hi : i < 32) : P ||| 2 ^ i < 4294967296 := by
  have : P ||| 2 ^ i < 2 ^ 32 := Nat.or_lt_two_pow (by omega) (Nat.pow_lt_pow_right (by decide) hi)
  omega
theorem ord_fuel {M : List Nat} : ∀ {f g P : Nat}, lft M P ≤ f → lft M P ≤ g → ord M f P = ord M g P
  | f, g, P, hf, hg => by
    by_cases h : rdn M P = 0
    · rw [ord_none h, ord_none h]
    · obtain ⟨q1, _, q2, _⟩ := rd_first h
      have hl := lft_put q1 q2
      obtain ⟨f', rfl⟩ : ∃ f', f = f' + 1 := ⟨f - 1, by omega⟩
      obtain ⟨g', rfl⟩ : ∃ g', g = g' + 1 := ⟨g - 1, by omega⟩
      rw [ord_some h, ord_some h, ord_fuel (f := f') (g := g') (by omega) (by omega)]
termination_by f => f
theorem ord_mem {M : List Nat} : ∀ (f P : Nat), ∀ i ∈ ord M f P, i < nn M
  | 0, _, i, hi => by cases hi
  | f + 1, P, i, hi => by
    by_cases h : rdn M P = 0
    · rw [ord_none h] at hi; cases hi
    · rw [ord_some h] at hi
      rcases List.mem_cons.1 hi with e | e
      · rw [e]; exact (rd_first h).1
      · exact ord_mem f _ i e
theorem ord_len {M : List Nat} : ∀ (f P : Nat), (ord M f P).length ≤ f
  | 0, _ => by simp [ord]
  | f + 1, P => by
    by_cases h : rdn M P = 0
    · rw [ord_none h]; simp
    · rw [ord_some h]
      have := ord_len (M := M) f (P ||| 2 ^ Lib.ctz 32 (rdn M P))
      simp; omega
/-- The whole order. -/
def od (M : List Nat) : List Nat := ord M (nn M) 0
theorem od_mem {M : List Nat} : ∀ i ∈ od M, i < nn M := ord_mem _ _
theorem od_len (M : List Nat) : (od M).length ≤ 32 := Nat.le_trans (ord_len _ _) (nn_le M)

/-! ### how deep -/
/-- The deepest of those waited for, over a list. -/
def mx (d : List Int) (l : List Nat) : Int := l.foldl (fun m k => max m (d.getD k 0)) 0
theorem mx_snoc (d : List Int) (l : List Nat) (k : Nat) : mx d (l ++ [k]) = max (mx d l) (d.getD k 0) := by simp [mx]
/-- Those that a node waits for. -/
def wl (M : List Nat) (i : Nat) : List Nat := bl (mk M i &&& al_ M)
/-- Those among the first j. -/
def wlj (M : List Nat) (i j : Nat) : List Nat := (List.range j).filter fun k => (mk M i).testBit k
theorem wlj_succ (M : List Nat) (i j : Nat) : wlj M i (j + 1) = if (mk M i).testBit j then wlj M i j ++ [j] else wlj M i j := by
  unfold wlj
  rw [List.range_succ, List.filter_append]
  split <;> rename_i h <;> simp [h]
theorem range_filter_lt (p : Nat → Bool) (n : Nat) : ∀ m, n ≤ m → (List.range m).filter (fun k => p k && decide (k < n)) = (List.range n).filter p
  | 0, h => by
    obtain rfl : n = 0 := by omega
    rfl
  | m + 1, h => by
    by_cases e : n = m + 1
    · subst e
      exact List.filter_congr fun k hk => by rw [decide_eq_true (List.mem_range.1 hk), Bool.and_true]
    · rw [List.range_succ, List.filter_append, range_filter_lt p n m (by omega)]
      simp; omega
theorem wlj_all (M : List Nat) (i : Nat) : wlj M i (nn M) = wl M i := by
  unfold wlj wl bl
  rw [← range_filter_lt _ (nn M) 32 (nn_le M)]
  exact List.filter_congr fun k _ => by rw [Nat.testBit_and, al_bit]
theorem mem_wl {M : List Nat} {i k : Nat} (hi : i < nn M) : k ∈ wl M i ↔ wt M i k = true := by
  unfold wl
  rw [mem_bl, Nat.testBit_and, al_bit, wt_iff]
  constructor
  · rintro ⟨_, h⟩
    simp only [Bool.and_eq_true, decide_eq_true_eq] at h
    exact ⟨hi, h.2, h.1⟩
  · rintro ⟨_, h2, h3⟩
    refine ⟨by have := nn_le M; omega, ?_⟩
    rw [h3, decide_eq_true h2]; rfl
def dpl (M : List Nat) (d : List Int) (o : List Nat) : List Int := o.foldl (fun d i => d.set i (mx d (wl M i) + 1)) d
theorem dpl_nil (M : List Nat) (d : List Int) : dpl M d [] = d := rfl
theorem dpl_snoc (M : List Nat) (d : List Int) (o : List Nat) (i : Nat) : dpl M d (o ++ [i]) = (dpl M d o).set i (mx (dpl M d o) (wl M i) + 1) := by simp [dpl]
theorem dpl_len (M : List Nat) : ∀ (o : List Nat) (d : List Int), (dpl M d o).length = d.length
  | [], _ => rfl
  | i :: o, d => by
    show (dpl M (d.set i _) o).length = _
    rw [dpl_len M o, List.length_set]
def dps (M : List Nat) : List Int := dpl M (List.replicate (nn M) (-1)) (od M)
theorem dps_len (M : List Nat) : (dps M).length = nn M := by unfold dps; rw [dpl_len, List.length_replicate]

/-! ### who comes behind whom -/
inductive Rea (M : List Nat) (a : Nat) : Nat → Prop
  | one {i : Nat} : wt M i a = true → Rea M a i
  | step {k i : Nat} : Rea M a k → wt M i k = true → Rea M a i
theorem Rea.lt {M : List Nat} {a i : Nat} (h : Rea M a i) : a < nn M ∧ i < nn M := by
  induction h with
  | one h => exact ⟨(wt_iff.1 h).2.1, (wt_iff.1 h).1⟩
  | step _ h ih => exact ⟨ih.1, (wt_iff.1 h).1⟩
theorem Rea.trans {M : List Nat} {a b c : Nat} (h : Rea M a b) (k : Rea M b c) : Rea M a c := by
  induction k with
  | one h' => exact .step h h'
  | step _ h' ih => exact .step ih h'
/-- The answer of Behind. -/
def IsB (M : List Nat) (n : Int) (b : Nat) : Prop := b < 4294967296 ∧ ∀ i, b.testBit i = true ↔ (0 ≤ n ∧ Rea M n.toNat i)
theorem IsB.one {M : List Nat} {n : Int} {b c : Nat} (h : IsB M n b) (k : IsB M n c) : b = c := by
  apply Nat.eq_of_testBit_eq
  intro i
  rw [Bool.eq_iff_iff, h.2, k.2]
theorem isB_no {M : List Nat} {n : Int} (h : n < 0 ∨ (nn M : Int) ≤ n) : IsB M n 0 := by
  refine ⟨by decide, fun i => ⟨fun q => (by rw [Nat.zero_testBit] at q; cases q), fun ⟨h0, q⟩ => ?_⟩⟩
  have := q.lt
  omega
/-- The code's search: what is found, and what is to go on from. -/
structure Bf (M : List Nat) (a B F : Nat) : Prop where
  ltB : B < 4294967296
  ltF : F < 4294967296
  okB : ∀ i, B.testBit i = true → Rea M a i
  okF : ∀ i, F.testBit i = true → i = a ∨ B.testBit i = true
  full : ∀ k, k = a ∨ B.testBit k = true → F.testBit k = false → ∀ i, wt M i k = true → B.testBit i = true
theorem bf_start {M : List Nat} {a : Nat} (ha : a < nn M) : Bf M a 0 (2 ^ a) where
  ltB := by decide
  ltF := by
    have : 2 ^ a < 2 ^ 32 := Nat.pow_lt_pow_right (by decide) (by have := nn_le M; omega)
    omega
  okB := fun i h => by rw [Nat.zero_testBit] at h; cases h
  okF := fun i h => by rw [Nat.testBit_two_pow, decide_eq_true_eq] at h; exact .inl h.symm
  full := fun k hk hF => by
    rcases hk with rfl | hk
    · rw [Nat.testBit_two_pow, decide_eq_true rfl] at hF; cases hF
    · rw [Nat.zero_testBit] at hk; cases hk
theorem bf_end {M : List Nat} {a B : Nat} (h : Bf M a B 0) : IsB M (a : Int) B := by
  refine ⟨h.ltB, fun i => Iff.intro (fun q => ?_) (fun q => ?_)⟩
  · refine ⟨Int.natCast_nonneg a, ?_⟩
    rw [Int.toNat_natCast]
    exact h.okB i q
  replace q := q.2
  rw [Int.toNat_natCast] at q
  induction q with
  | one q => exact h.full a (.inl rfl) (Nat.zero_testBit _) _ q
  | step _ q ih => exact h.full _ (.inr ih) (Nat.zero_testBit _) _ q
/-- Those found in a round. -/
def fnb (M : List Nat) (B F : Nat) : Nat := gat (anb M F) (bl (al_ M &&& (4294967295 - B)))
theorem fnb_lt (M : List Nat) (B F : Nat) : fnb M B F < 4294967296 := gat_lt _ fun _ hi => (mem_bl.1 hi).1
theorem fnb_bit {M : List Nat} {B F : Nat} (hB : B < 4294967296) (i : Nat) : (fnb M B F).testBit i = true ↔ i < nn M ∧ B.testBit i = false ∧ ∃ k, (mk M i).testBit k = true ∧ F.testBit k = true := by
  unfold fnb
  rw [gat_bit]
  have e1 : decide (i ∈ bl (al_ M &&& (4294967295 - B))) = true ↔ i < nn M ∧ B.testBit i = false := by
    rw [decide_eq_true_eq, mem_bl, left_bit M hB]
    simp only [Bool.and_eq_true, decide_eq_true_eq, Bool.not_eq_true']
    have := nn_le M
    constructor
    · exact fun h => h.2
    · exact fun h => ⟨by omega, h⟩
  have e2 : anb M F i = true ↔ ∃ k, (mk M i).testBit k = true ∧ F.testBit k = true := by
    unfold anb
    rw [decide_eq_true_eq]
    constructor
    · intro h
      obtain ⟨k, hk⟩ := Nat.exists_testBit_of_ne_zero h
      rw [Nat.testBit_and, Bool.and_eq_true] at hk
      exact ⟨k, hk⟩
    · rintro ⟨k, h1, h2⟩ e
      have := congrArg (fun z => z.testBit k) e
      simp only [Nat.testBit_and, h1, h2, Nat.zero_testBit] at this
      cases this
  rw [Bool.and_eq_true, e1, e2, and_assoc]
theorem bf_step {M : List Nat} {a B F : Nat} (ha : a < nn M) (h : Bf M a B F) : Bf M a (B ||| fnb M B F) (fnb M B F) ∧ (fnb M B F ≠ 0 → B < B ||| fnb M B F) := by
  have hF : ∀ k, F.testBit k = true → k < nn M := fun k hk => by
    rcases h.okF k hk with e | e
    · rw [e]; exact ha
    · exact (h.okB k e).lt.2
  have hn : ∀ i, (fnb M B F).testBit i = true → Rea M a i := fun i hi => by
    obtain ⟨h1, _, k, h3, h4⟩ := (fnb_bit h.ltB i).1 hi
    have hw : wt M i k = true := wt_iff.2 ⟨h1, hF k h4, h3⟩
    rcases h.okF k h4 with e | e
    · rw [e] at hw; exact .one hw
    · exact .step (h.okB k e) hw
  refine ⟨⟨?_, fnb_lt M B F, ?_, ?_, ?_⟩, ?_⟩
  · have : B ||| fnb M B F < 2 ^ 32 := Nat.or_lt_two_pow h.ltB (fnb_lt M B F)
    omega
  · intro i hi
    rw [Nat.testBit_or, Bool.or_eq_true] at hi
    exact hi.elim (h.okB i) (hn i)
  · intro _ hi
    exact .inr (by rw [Nat.testBit_or, hi, Bool.or_true])
  · intro k hk hk2 i hw
    rw [Nat.testBit_or] at hk ⊢
    have hk' : k = a ∨ B.testBit k = true := by
      rcases hk with e | e
      · exact .inl e
      · rw [hk2, Bool.or_false] at e; exact .inr e
    rcases e : F.testBit k with _ | _
    · rw [h.full k hk' e i hw, Bool.true_or]
    · rcases e2 : B.testBit i with _ | _
      · rw [(fnb_bit h.ltB i).2 ⟨(wt_iff.1 hw).1, e2, k, (wt_iff.1 hw).2.2, e⟩]; rfl
      · rfl
  · intro hne
    obtain ⟨k, hk⟩ := Nat.exists_testBit_of_ne_zero hne
    have hB := ((fnb_bit h.ltB k).1 hk).2.1
    have h1 : B ≤ B ||| fnb M B F := Nat.left_le_or
    rcases Nat.lt_or_ge B (B ||| fnb M B F) with e | e
    · exact e
    · have e' : B = B ||| fnb M B F := by omega
      have := congrArg (fun z => z.testBit k) e'
      simp only [Nat.testBit_or, hk, hB] at this
      cases this
end Go.Proofs.YtcojpajmeacpiaaDoor.M
