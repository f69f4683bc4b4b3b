/-
  Plain facts on orders: whatever is placed by what is ready ('GR'), till nothing is, is what doesn't come behind a cycle ('Stk'); depths by those waited for ('dps_spec'); that one edge more makes no node less deep ('dps_more'). No Go text is in sight.
-/
import Derived.Test.YtcojpajmeacpiaaDoorRyA
namespace Go.Proofs.YtcojpajmeacpiaaDoor.M
open Classical in
/-- Who comes behind a node, counted the other way. -/
noncomputable def anc (M : List Nat) (i : Nat) (a : Nat) : Bool := decide (Rea M a i)
theorem anc_iff {M : List Nat} {i a : Nat} : anc M i a = true ↔ Rea M a i := by unfold anc; simp
theorem anc_no {M : List Nat} {i a : Nat} (h : ¬ Rea M a i) : anc M i a = false := by
  rcases e : anc M i a with _ | _
  · rfl
  · exact absurd (anc_iff.1 e) h
/-- It comes behind itself, or behind such. -/
def Stk (M : List Nat) (i : Nat) : Prop := Rea M i i ∨ ∃ k, Rea M k k ∧ Rea M k i
/-- What has been placed, one that is ready after the other. -/
inductive GR (M : List Nat) : Nat → Prop
  | zero : GR M 0
  | step {D i : Nat} : GR M D → isR M D.testBit i = true → GR M (D ||| 2 ^ i)
theorem put_bit (D i j : Nat) : (D ||| 2 ^ i).testBit j = (D.testBit j || decide (i = j)) := by rw [Nat.testBit_or, Nat.testBit_two_pow]
theorem GR.lt {M : List Nat} {D : Nat} (h : GR M D) : D < 4294967296 := by
  induction h with
  | zero => decide
  | step _ hr ih =>
    have := (isR_iff.1 hr).1
    exact put_lt ih (by have := nn_le M; omega)
theorem GR.ok {M : List Nat} {D : Nat} (h : GR M D) : (∀ j, D.testBit j = true → j < nn M) ∧ (∀ j a, D.testBit j = true → Rea M a j → D.testBit a = true) ∧ ∀ j, D.testBit j = true → ¬ Rea M j j := by
  induction h with
  | zero => exact ⟨fun j hj => by simp at hj, fun j a hj => by simp at hj, fun j hj => by simp at hj⟩
  | @step D i _ hr ih =>
    obtain ⟨h1, h2, h3⟩ := ih
    obtain ⟨r1, r2, r3⟩ := isR_iff.1 hr
    have hanc : ∀ a, Rea M a i → D.testBit a = true := fun a ha => by
      cases ha with
      | one q => exact r3 a q
      | step q1 q2 => exact h2 _ a (r3 _ q2) q1
    refine ⟨fun j hj => ?_, fun j a hj ha => ?_, fun j hj hc => ?_⟩
    · rw [put_bit, Bool.or_eq_true, decide_eq_true_eq] at hj
      rcases hj with hj | hj
      · exact h1 j hj
      · rw [← hj]; exact r1
    · rw [put_bit, Bool.or_eq_true, decide_eq_true_eq] at hj
      rw [put_bit]
      rcases hj with hj | hj
      · rw [h2 j a hj ha, Bool.true_or]
      · rw [← hj] at ha; rw [hanc a ha, Bool.true_or]
    · rw [put_bit, Bool.or_eq_true, decide_eq_true_eq] at hj
      rcases hj with hj | hj
      · exact h3 j hj hc
      · rw [← hj] at hc
        rw [hanc i hc] at r2; cases r2
theorem GR.not {M : List Nat} {D i : Nat} (h : GR M D) (hi : D.testBit i = true) : ¬ Stk M i := by
  obtain ⟨_, h2, h3⟩ := h.ok
  rintro (q | ⟨k, q1, q2⟩)
  · exact h3 i hi q
  · exact h3 k (h2 i k hi q2) q1
/-- Nothing is ready any more: whoever isn't placed waits for such a one. -/
theorem rd_none {M : List Nat} {D : Nat} (h : rdn M D = 0) {i : Nat} (hi : i < nn M) (hD : D.testBit i = false) : ∃ k, wt M i k = true ∧ D.testBit k = false := by
  apply Classical.byContradiction
  intro hn
  have : isR M D.testBit i = true := isR_iff.2 ⟨hi, hD, fun k hk => by
    rcases e : D.testBit k with _ | _
    · exact absurd ⟨k, hk, e⟩ hn
    · rfl⟩
  rw [← rdn_bit, h, Nat.zero_testBit] at this
  cases this
theorem stuck_of {M : List Nat} {D : Nat} (h : rdn M D = 0) : ∀ (c i : Nat), cnt (anc M i) (nn M) ≤ c → i < nn M → D.testBit i = false → Stk M i
  | 0, i, hc, hi, hD => by
    obtain ⟨k, hk, _⟩ := rd_none h hi hD
    have := cnt_pos (r := anc M i) (wt_iff.1 hk).2.1 (anc_iff.2 (.one hk))
    omega
  | c + 1, i, hc, hi, hD => by
    obtain ⟨k, hk, hkD⟩ := rd_none h hi hD
    have hkn := (wt_iff.1 hk).2.1
    by_cases e : Rea M k k
    · exact .inr ⟨k, e, .one hk⟩
    · have hlt := cnt_more (r := anc M k) (q := anc M i) (fun a ha => anc_iff.2 (.step (anc_iff.1 ha) hk)) hkn (anc_no e) (anc_iff.2 (.one hk))
      rcases stuck_of h c k (by omega) hkn hkD with q | ⟨m, q1, q2⟩
      · exact absurd q e
      · exact .inr ⟨m, q1, .step q2 hk⟩
theorem place_iff {M : List Nat} {D i : Nat} (h : GR M D) (hz : rdn M D = 0) (hi : i < nn M) : D.testBit i = true ↔ ¬ Stk M i := by
  constructor
  · exact h.not
  · intro hs
    rcases e : D.testBit i with _ | _
    · exact absurd (stuck_of hz _ i (Nat.le_refl _) hi e) hs
    · rfl
/-- Whichever comes first, the same are placed. -/
theorem GR.one {M : List Nat} {D E : Nat} (h : GR M D) (k : GR M E) (hz : rdn M D = 0) (kz : rdn M E = 0) : D = E := by
  apply Nat.eq_of_testBit_eq
  intro i
  rw [Bool.eq_iff_iff]
  by_cases hi : i < nn M
  · rw [place_iff h hz hi, place_iff k kz hi]
  · exact ⟨fun q => absurd (h.ok.1 i q) hi, fun q => absurd (k.ok.1 i q) hi⟩
theorem rd_left {M : List Nat} {D : Nat} (h : lft M D = 0) : rdn M D = 0 := by
  apply Decidable.byContradiction
  intro hn
  obtain ⟨q1, _, q2, _⟩ := rd_first hn
  have := lft_pos q1 q2
  omega
/-- The order as it is gone through. -/
theorem ord_cons {M : List Nat} {f P i : Nat} {l : List Nat} (h : i :: l = ord M f P) : isR M P.testBit i = true ∧ ∃ f', f = f' + 1 ∧ l = ord M f' (P ||| 2 ^ i) := by
  cases f with
  | zero => simp [ord] at h
  | succ f =>
    by_cases e : rdn M P = 0
    · rw [ord_none e] at h; cases h
    · rw [ord_some e] at h
      have h1 := (List.cons.inj h).1
      have h2 := (List.cons.inj h).2
      obtain ⟨_, q, _, _⟩ := rd_first e
      rw [← h1] at q h2
      exact ⟨q, f, rfl, h2⟩
theorem ord_nil {M : List Nat} {f P : Nat} (h : [] = ord M f P) (hl : lft M P ≤ f) : rdn M P = 0 := by
  apply Decidable.byContradiction
  intro e
  obtain ⟨q1, _, q2, _⟩ := rd_first e
  have := lft_pos q1 q2
  obtain ⟨f', rfl⟩ : ∃ f', f = f' + 1 := ⟨f - 1, by omega⟩
  rw [ord_some e] at h; cases h

/-! ### depths -/
theorem mx_congr {d e : List Int} {l : List Nat} (h : ∀ k ∈ l, d.getD k 0 = e.getD k 0) : mx d l = mx e l := by
  unfold mx
  suffices ∀ (l : List Nat) (a : Int), (∀ k ∈ l, d.getD k 0 = e.getD k 0) → l.foldl (fun m k => max m (d.getD k 0)) a = l.foldl (fun m k => max m (e.getD k 0)) a from this l 0 h
  intro l
  induction l with
  | nil => intro a _; rfl
  | cons k l ih =>
    intro a h
    rw [List.foldl_cons, List.foldl_cons, h k (List.mem_cons_self ..)]
    exact ih _ (fun j hj => h j (List.mem_cons_of_mem _ hj))
theorem mx_fold_le (d : List Int) : ∀ (l : List Nat) (a : Int), a ≤ l.foldl (fun m k => max m (d.getD k 0)) a ∧ ∀ k ∈ l, d.getD k 0 ≤ l.foldl (fun m k => max m (d.getD k 0)) a
  | [], a => ⟨Int.le_refl _, fun k hk => by cases hk⟩
  | j :: l, a => by
    obtain ⟨h1, h2⟩ := mx_fold_le d l (max a (d.getD j 0))
    rw [List.foldl_cons]
    refine ⟨by omega, fun k hk => ?_⟩
    rcases List.mem_cons.1 hk with e | e
    · subst e; omega
    · exact h2 k e
theorem mx_ge (d : List Int) (l : List Nat) : 0 ≤ mx d l ∧ ∀ k ∈ l, d.getD k 0 ≤ mx d l := mx_fold_le d l 0
theorem mx_le {d : List Int} {l : List Nat} {b : Int} (hb : 0 ≤ b) (h : ∀ k ∈ l, d.getD k 0 ≤ b) : mx d l ≤ b := by
  unfold mx
  suffices ∀ (l : List Nat) (a : Int), a ≤ b → (∀ k ∈ l, d.getD k 0 ≤ b) → l.foldl (fun m k => max m (d.getD k 0)) a ≤ b from this l 0 hb h
  intro l
  induction l with
  | nil => intro a ha _; exact ha
  | cons k l ih =>
    intro a ha h
    rw [List.foldl_cons]
    have := h k (List.mem_cons_self ..)
    exact ih _ (by omega) (fun j hj => h j (List.mem_cons_of_mem _ hj))
theorem getD_set' {d : List Int} {i : Nat} {x : Int} (hi : i < d.length) (k : Nat) : (d.set i x).getD k 0 = if k = i then x else d.getD k 0 := by
  rw [List.getD_eq_getElem?_getD, List.getD_eq_getElem?_getD, List.getElem?_set]
  by_cases e : i = k
  · subst e; simp [hi]
  · have e' : ¬ k = i := fun q => e q.symm
    simp [e, e']
/-- Depths so far: p are placed. -/
def DP (M : List Nat) (P : Nat) (d : List Int) : Prop :=
  d.length = nn M ∧ (∀ i, P.testBit i = true → i < nn M ∧ d.getD i 0 = mx d (wl M i) + 1 ∧ ∀ k ∈ wl M i, P.testBit k = true) ∧ ∀ i, i < nn M → P.testBit i = false → d.getD i 0 = -1
theorem dp_start (M : List Nat) : DP M 0 (List.replicate (nn M) (-1)) :=
  ⟨List.length_replicate, fun i h => (by simp at h), fun i hi _ => by simp [List.getD, hi]⟩
theorem dp_step {M : List Nat} {P i : Nat} {d : List Int} (h : DP M P d) (hr : isR M P.testBit i = true) : DP M (P ||| 2 ^ i) (d.set i (mx d (wl M i) + 1)) := by
  obtain ⟨h1, h2, h3⟩ := h
  obtain ⟨r1, r2, r3⟩ := isR_iff.1 hr
  have hw : ∀ k ∈ wl M i, P.testBit k = true := fun k hk => r3 k ((mem_wl r1).1 hk)
  have hg := fun k => getD_set' (d := d) (i := i) (x := mx d (wl M i) + 1) (by omega) k
  have same : ∀ l : List Nat, (∀ k ∈ l, P.testBit k = true) → mx (d.set i (mx d (wl M i) + 1)) l = mx d l := fun l hl => mx_congr fun k hk => by
    rw [hg, if_neg (fun e => by rw [← e, hl k hk] at r2; cases r2)]
  refine ⟨by rw [List.length_set]; exact h1, fun j hj => ?_, fun j hj hP => ?_⟩
  · rw [put_bit, Bool.or_eq_true, decide_eq_true_eq] at hj
    by_cases e : i = j
    · subst e
      refine ⟨r1, ?_, fun k hk => by rw [put_bit, hw k hk, Bool.true_or]⟩
      rw [hg, if_pos rfl, same _ hw]
    · have hj' : P.testBit j = true := hj.resolve_right e
      obtain ⟨q1, q2, q3⟩ := h2 j hj'
      refine ⟨q1, ?_, fun k hk => by rw [put_bit, q3 k hk, Bool.true_or]⟩
      rw [hg, if_neg (fun q => e q.symm), same _ q3]
      exact q2
  · rw [put_bit, Bool.or_eq_false_iff, decide_eq_false_iff_not] at hP
    rw [hg, if_neg (fun q => hP.2 q.symm)]
    exact h3 j hj hP.1
theorem dp_all {M : List Nat} : ∀ (f P : Nat) (d : List Int), GR M P → DP M P d → lft M P ≤ f → ∃ P', GR M P' ∧ rdn M P' = 0 ∧ DP M P' (dpl M d (ord M f P))
  | 0, P, d, hg, hd, hl => ⟨P, hg, rd_left (by omega), by simpa [ord, dpl] using hd⟩
  | f + 1, P, d, hg, hd, hl => by
    by_cases e : rdn M P = 0
    · exact ⟨P, hg, e, by rw [ord_none e]; exact hd⟩
    · obtain ⟨q1, q, q2, _⟩ := rd_first e
      have := lft_put q1 q2
      rw [ord_some e]
      exact dp_all f _ _ (.step hg q) (dp_step hd q) (by omega)
theorem dps_spec (M : List Nat) : ∃ P, GR M P ∧ rdn M P = 0 ∧ DP M P (dps M) := dp_all (nn M) 0 _ .zero (dp_start M) (lft_le M 0)
/-- What is placed stands at 1 at least. -/
theorem DP.pos {M : List Nat} {P : Nat} {d : List Int} (h : DP M P d) {i : Nat} (hi : i < nn M) : (P.testBit i = true ∧ 1 ≤ d.getD i 0) ∨ (P.testBit i = false ∧ d.getD i 0 = -1) := by
  rcases e : P.testBit i with _ | _
  · exact .inr ⟨rfl, h.2.2 i hi e⟩
  · have := (h.2.1 i e).2.1
    have := (mx_ge d (wl M i)).1
    exact .inl ⟨rfl, by omega⟩

/-! ### one edge more -/
/-- All that one waits for the other does, too. -/
def Le (M N : List Nat) : Prop := nn M = nn N ∧ ∀ i k, wt M i k = true → wt N i k = true
theorem Le.rea {M N : List Nat} (h : Le M N) {a i : Nat} (q : Rea M a i) : Rea N a i := by
  induction q with
  | one q => exact .one (h.2 _ _ q)
  | step _ q ih => exact .step ih (h.2 _ _ q)
theorem Le.stk {M N : List Nat} (h : Le M N) {i : Nat} (q : Stk M i) : Stk N i := by
  rcases q with q | ⟨k, q1, q2⟩
  · exact .inl (h.rea q)
  · exact .inr ⟨k, h.rea q1, h.rea q2⟩
theorem dps_more {M N : List Nat} (h : Le M N) {i : Nat} (hi : i < nn M) (hb : 0 ≤ (dps N).getD i 0) : 0 ≤ (dps M).getD i 0 ∧ (dps M).getD i 0 ≤ (dps N).getD i 0 := by
  obtain ⟨P, p1, p2, p3⟩ := dps_spec M
  obtain ⟨Q, q1, q2, q3⟩ := dps_spec N
  have pl : ∀ i, i < nn M → Q.testBit i = true → P.testBit i = true := fun i hi hq =>
    (place_iff p1 p2 hi).2 fun hs => (place_iff q1 q2 (by rw [← h.1]; exact hi)).1 hq (h.stk hs)
  have key : ∀ (c : Nat) (i : Nat), i < nn M → Q.testBit i = true → (dps N).getD i 0 ≤ c → (dps M).getD i 0 ≤ (dps N).getD i 0 := by
    intro c
    induction c with
    | zero =>
      intro i hi hq hc
      rcases q3.pos (i := i) (by rw [← h.1]; exact hi) with ⟨_, e⟩ | ⟨e, _⟩
      · omega
      · rw [e] at hq; cases hq
    | succ c ih =>
      intro i hi hq hc
      have hp := pl i hi hq
      obtain ⟨_, a1, a2⟩ := p3.2.1 i hp
      obtain ⟨_, b1, b2⟩ := q3.2.1 i hq
      obtain ⟨m0, m1⟩ := mx_ge (dps N) (wl N i)
      have : mx (dps M) (wl M i) ≤ mx (dps N) (wl N i) := mx_le m0 fun k hk => by
        have hw := (mem_wl hi).1 hk
        have hkn := (wt_iff.1 hw).2.1
        have hkN : k ∈ wl N i := (mem_wl (by rw [← h.1]; exact hi)).2 (h.2 i k hw)
        have hle := m1 k hkN
        have := ih k hkn (b2 k hkN) (by omega)
        omega
      omega
  rcases q3.pos (i := i) (by rw [← h.1]; exact hi) with ⟨e, e1⟩ | ⟨e, e1⟩
  · have hp := pl i hi e
    refine ⟨?_, key ((dps N).getD i 0).toNat i hi e (by omega)⟩
    rcases p3.pos hi with ⟨_, a⟩ | ⟨a, _⟩
    · omega
    · rw [a] at hp; cases hp
  · omega
end Go.Proofs.YtcojpajmeacpiaaDoor.M
