/-
  Plain facts on who can be come to: over edges both ways ('Con'), a rising list of them ('IsR', which is one), and the document's way to it ('insI', 'stp', 'rnd', 'rch'). Nothing is asked but what each fact names.
-/
import Derived.Test.YtpbbamoeaalolaaRows
namespace Go.Proofs.Ytpbbamoeaalolaa.M

abbrev Eg := Int × Int
/-- One edge leads from one to the other, gone over either way. -/
def Adj (es : List Eg) (x y : Int) : Prop := ∃ e ∈ es, (e.1 = x ∧ e.2 = y) ∨ (e.2 = x ∧ e.1 = y)
inductive Con (es : List Eg) (f : Int) : Int → Prop
  | refl : Con es f f
  | step {x y : Int} : Con es f x → Adj es x y → Con es f y
theorem Adj.symm {es : List Eg} {x y : Int} (h : Adj es x y) : Adj es y x := by
  obtain ⟨e, he, h⟩ := h
  refine ⟨e, he, ?_⟩
  rcases h with ⟨a, b⟩ | ⟨a, b⟩
  · exact .inr ⟨b, a⟩
  · exact .inl ⟨b, a⟩
theorem Con.trans {es : List Eg} {f x y : Int} (h : Con es f x) (k : Con es x y) : Con es f y := by
  induction k with
  | refl => exact h
  | step _ a ih => exact ih.step a
theorem Con.symm {es : List Eg} {f x : Int} (h : Con es f x) : Con es x f := by
  induction h with
  | refl => exact .refl
  | step _ a ih => exact (Con.refl.step a.symm).trans ih
theorem Con.mono {es es' : List Eg} (hs : ∀ e ∈ es, e ∈ es') {f x : Int} (h : Con es f x) : Con es' f x := by
  induction h with
  | refl => exact .refl
  | step _ a ih =>
    obtain ⟨e, he, a⟩ := a
    exact ih.step ⟨e, hs e he, a⟩
/-- Closed under edges: all that can be come to from one of them is there. -/
theorem con_in {es : List Eg} {f : Int} {S : List Int} (hf : f ∈ S) (hc : ∀ x ∈ S, ∀ y, Adj es x y → y ∈ S) {x : Int} (h : Con es f x) : x ∈ S := by
  induction h with
  | refl => exact hf
  | step _ a ih => exact hc _ ih _ a

structure IsR (es : List Eg) (f : Int) (R : List Int) : Prop where
  rise : R.Pairwise (· < ·)
  mem : ∀ x, x ∈ R ↔ Con es f x
theorem rise_ext : ∀ {L M : List Int}, L.Pairwise (· < ·) → M.Pairwise (· < ·) → (∀ x, x ∈ L ↔ x ∈ M) → L = M
  | [], [], _, _, _ => rfl
  | [], y :: M, _, _, h => absurd ((h y).2 (by simp)) (by simp)
  | x :: L, [], _, _, h => absurd ((h x).1 (by simp)) (by simp)
  | x :: L, y :: M, h1, h2, h => by
    obtain ⟨a1, a2⟩ := List.pairwise_cons.1 h1
    obtain ⟨b1, b2⟩ := List.pairwise_cons.1 h2
    have e : x = y := by
      rcases List.mem_cons.1 ((h x).1 (by simp)) with e | e
      · exact e
      · rcases List.mem_cons.1 ((h y).2 (by simp)) with e' | e'
        · exact e'.symm
        · have c1 := b1 x e
          have c2 := a1 y e'
          omega
    subst e
    congr 1
    refine rise_ext a2 b2 fun z => ?_
    have nx : x ∉ L := fun e => by have := a1 x e; omega
    have ny : x ∉ M := fun e => by have := b1 x e; omega
    constructor
    · intro hz
      rcases List.mem_cons.1 ((h z).1 (by simp [hz])) with e | e
      · rw [e] at hz; exact absurd hz nx
      · exact e
    · intro hz
      rcases List.mem_cons.1 ((h z).2 (by simp [hz])) with e | e
      · rw [e] at hz; exact absurd hz ny
      · exact e
theorem IsR.one {es : List Eg} {f : Int} {R S : List Int} (h : IsR es f R) (k : IsR es f S) : R = S := rise_ext h.rise k.rise fun x => (h.mem x).trans (k.mem x).symm
/-- Who can be come to comes to just the same. -/
theorem IsR.back {es : List Eg} {f n : Int} {R : List Int} (h : IsR es f R) (hn : n ∈ R) : IsR es n R :=
  ⟨h.rise, fun x => (h.mem x).trans ⟨fun c => ((h.mem n).1 hn).symm.trans c, fun c => ((h.mem n).1 hn).trans c⟩⟩
theorem IsR.self {es : List Eg} {f : Int} {R : List Int} (h : IsR es f R) : f ∈ R := (h.mem f).2 .refl
theorem rise_nodup {R : List Int} (h : R.Pairwise (· < ·)) : R.Nodup := h.imp fun {a b} hab => by rintro rfl; omega

theorem nodup_le : ∀ {l m : List Int}, l.Nodup → (∀ x ∈ l, x ∈ m) → l.length ≤ m.length
  | [], _, _, _ => Nat.zero_le _
  | x :: r, m, hn, h => by
    obtain ⟨h1, h2⟩ := List.nodup_cons.1 hn
    have hx := h x (by simp)
    have := nodup_le (l := r) (m := m.erase x) h2 fun y hy => (List.mem_erase_of_ne (by rintro rfl; exact h1 hy)).2 (h y (by simp [hy]))
    rw [List.length_erase_of_mem hx] at this
    have hp : 0 < m.length := List.length_pos_of_mem hx
    rw [List.length_cons]
    omega
/-- Those that an edge leads from or to. -/
def ends (es : List Eg) : List Int := es.flatMap fun e => [e.1, e.2]
theorem length_ends (es : List Eg) : (ends es).length = 2 * es.length := by
  unfold ends
  induction es with
  | nil => rfl
  | cons e r ih => rw [List.flatMap_cons, List.length_append, ih]; simp; omega
theorem con_ends {es : List Eg} {f x : Int} (h : Con es f x) : x ∈ f :: ends es := by
  cases h with
  | refl => simp
  | step _ a =>
    obtain ⟨e, he, a⟩ := a
    refine List.mem_cons_of_mem _ (List.mem_flatMap.2 ⟨e, he, ?_⟩)
    rcases a with ⟨_, rfl⟩ | ⟨_, rfl⟩ <;> simp
theorem con_len {es : List Eg} {f : Int} {S : List Int} (hn : S.Nodup) (h : ∀ x ∈ S, Con es f x) : S.length ≤ 2 * es.length + 1 := by
  have := nodup_le hn fun x hx => con_ends (h x hx)
  rw [List.length_cons, length_ends] at this
  exact this

/-! ### the document's way -/
def insI (n : Int) : List Int → List Int
  | [] => [n]
  | x :: r => if n < x then n :: x :: r else x :: insI n r
theorem mem_insI {n x : Int} : ∀ {L : List Int}, x ∈ insI n L ↔ x = n ∨ x ∈ L
  | [] => by simp [insI]
  | y :: r => by
    unfold insI
    split
    · simp
    · simp only [List.mem_cons, mem_insI (L := r)]
      constructor <;> rintro (h | h | h) <;> simp [h]
theorem length_insI (n : Int) : ∀ L : List Int, (insI n L).length = L.length + 1
  | [] => rfl
  | y :: r => by
    unfold insI
    split
    · rfl
    · simp [length_insI n r]
theorem rise_insI {n : Int} : ∀ {L : List Int}, L.Pairwise (· < ·) → n ∉ L → (insI n L).Pairwise (· < ·)
  | [], _, _ => List.pairwise_singleton _ _
  | y :: r, h, hk => by
    obtain ⟨h1, h2⟩ := List.pairwise_cons.1 h
    have hne : n ≠ y := fun e => hk (by simp [e])
    have hr : n ∉ r := fun e => hk (by simp [e])
    unfold insI
    split
    · rename_i hb
      refine List.pairwise_cons.2 ⟨fun q hq => ?_, h⟩
      rcases List.mem_cons.1 hq with rfl | hq
      · exact hb
      · have := h1 q hq; omega
    · rename_i hb
      refine List.pairwise_cons.2 ⟨fun q hq => ?_, rise_insI h2 hr⟩
      rcases mem_insI.1 hq with rfl | hq
      · omega
      · exact h1 q hq

def stp (S : List Int) (e : Eg) : List Int :=
  if e.1 ∈ S then (if e.2 ∈ S then S else insI e.2 S) else if e.2 ∈ S then insI e.1 S else S
def rnd (es : List Eg) (S : List Int) : List Int := es.foldl stp S
def rch (es : List Eg) (f : Int) : Nat → List Int
  | 0 => [f]
  | k + 1 => rnd es (rch es f k)

/-- What stays in each step. -/
structure Ok (es : List Eg) (f : Int) (S : List Int) : Prop where
  rise : S.Pairwise (· < ·)
  con : ∀ x ∈ S, Con es f x
  self : f ∈ S
theorem Ok.stp {es : List Eg} {f : Int} {S : List Int} (h : Ok es f S) {e : Eg} (he : e ∈ es) : Ok es f (stp S e) := by
  unfold M.stp
  split
  · rename_i h1
    split
    · exact h
    · rename_i h2
      refine ⟨rise_insI h.rise h2, fun x hx => ?_, mem_insI.2 (.inr h.self)⟩
      rcases mem_insI.1 hx with rfl | hx
      · exact (h.con _ h1).step ⟨e, he, .inl ⟨rfl, rfl⟩⟩
      · exact h.con x hx
  · rename_i h1
    split
    · rename_i h2
      refine ⟨rise_insI h.rise h1, fun x hx => ?_, mem_insI.2 (.inr h.self)⟩
      rcases mem_insI.1 hx with rfl | hx
      · exact (h.con _ h2).step ⟨e, he, .inr ⟨rfl, rfl⟩⟩
      · exact h.con x hx
    · exact h
theorem Ok.fold {es : List Eg} {f : Int} : ∀ {l : List Eg} {S : List Int}, Ok es f S → (∀ e ∈ l, e ∈ es) → Ok es f (l.foldl M.stp S)
  | [], _, h, _ => h
  | e :: r, S, h, hl => Ok.fold (l := r) (h.stp (hl e (by simp))) fun e' he' => hl e' (by simp [he'])
theorem ok_rch (es : List Eg) (f : Int) : ∀ k, Ok es f (rch es f k)
  | 0 => ⟨List.pairwise_singleton _ _, fun x hx => by simp [rch] at hx; subst hx; exact .refl, by simp [rch]⟩
  | k + 1 => (ok_rch es f k).fold fun _ h => h

/-- How many edges lie inside. -/
def cnt (es : List Eg) (S : List Int) : Nat := (es.filter fun e => decide (e.1 ∈ S) && decide (e.2 ∈ S)).length
theorem cnt_le (es : List Eg) (S : List Int) : cnt es S ≤ es.length := List.length_filter_le _ _
theorem cnt_mono {S T : List Int} (h : ∀ x ∈ S, x ∈ T) : ∀ es : List Eg, cnt es S ≤ cnt es T
  | [] => Nat.le_refl _
  | e :: r => by
    have ih := cnt_mono h r
    unfold cnt at ih ⊢
    by_cases c : e.1 ∈ S ∧ e.2 ∈ S
    · rw [List.filter_cons_of_pos (by simp [c]), List.filter_cons_of_pos (by simp [h _ c.1, h _ c.2])]
      simpa using ih
    · rw [List.filter_cons_of_neg (by simpa using c)]
      by_cases d : e.1 ∈ T ∧ e.2 ∈ T
      · rw [List.filter_cons_of_pos (by simp [d])]
        simp; omega
      · rw [List.filter_cons_of_neg (by simpa using d)]
        exact ih
theorem cnt_more {S T : List Int} (h : ∀ x ∈ S, x ∈ T) : ∀ {es : List Eg} {e : Eg}, e ∈ es → ¬ (e.1 ∈ S ∧ e.2 ∈ S) → e.1 ∈ T → e.2 ∈ T → cnt es S + 1 ≤ cnt es T
  | [], _, he, _, _, _ => by simp at he
  | a :: r, e, he, h1, h2, h3 => by
    rcases List.mem_cons.1 he with rfl | he
    · have ih := cnt_mono h r
      unfold cnt at ih ⊢
      rw [List.filter_cons_of_neg (by simpa using h1), List.filter_cons_of_pos (by simp [h2, h3])]
      simpa using ih
    · have ih := cnt_more h (es := r) he h1 h2 h3
      unfold cnt at ih ⊢
      by_cases c : a.1 ∈ S ∧ a.2 ∈ S
      · rw [List.filter_cons_of_pos (by simp [c]), List.filter_cons_of_pos (by simp [h _ c.1, h _ c.2])]
        simpa using ih
      · rw [List.filter_cons_of_neg (by simpa using c)]
        by_cases d : a.1 ∈ T ∧ a.2 ∈ T
        · rw [List.filter_cons_of_pos (by simp [d])]
          simp; omega
        · rw [List.filter_cons_of_neg (by simpa using d)]
          exact ih
theorem stp_sub (S : List Int) (e : Eg) : ∀ x ∈ S, x ∈ stp S e := fun x hx => by
  unfold stp
  split
  · split
    · exact hx
    · exact mem_insI.2 (.inr hx)
  · split
    · exact mem_insI.2 (.inr hx)
    · exact hx
theorem fold_sub : ∀ (l : List Eg) (S : List Int), ∀ x ∈ S, x ∈ l.foldl stp S
  | [], _, _, hx => hx
  | e :: r, S, x, hx => fold_sub r (stp S e) x (stp_sub S e x hx)
/-- A step does nothing to an edge both or none of whose ends are there; else the edge comes to lie inside. -/
theorem stp_cases (S : List Int) (e : Eg) : (stp S e = S ∧ (e.1 ∈ S ↔ e.2 ∈ S)) ∨ (¬ (e.1 ∈ S ∧ e.2 ∈ S) ∧ e.1 ∈ stp S e ∧ e.2 ∈ stp S e) := by
  unfold stp
  by_cases h1 : e.1 ∈ S <;> by_cases h2 : e.2 ∈ S
  · left; simp [h1, h2]
  · right; rw [if_pos h1, if_neg h2]; exact ⟨fun c => h2 c.2, mem_insI.2 (.inr h1), mem_insI.2 (.inl rfl)⟩
  · right; rw [if_neg h1, if_pos h2]; exact ⟨fun c => h1 c.1, mem_insI.2 (.inl rfl), mem_insI.2 (.inr h2)⟩
  · left; simp [h1, h2]
theorem fold_cases {es : List Eg} : ∀ {l : List Eg} {S : List Int}, (∀ e ∈ l, e ∈ es) → (l.foldl stp S = S ∧ ∀ e ∈ l, (e.1 ∈ S ↔ e.2 ∈ S)) ∨ cnt es S + 1 ≤ cnt es (l.foldl stp S)
  | [], _, _ => .inl ⟨rfl, by simp⟩
  | e :: r, S, hl => by
    have hr : ∀ e ∈ r, e ∈ es := fun e' he' => hl e' (by simp [he'])
    rcases stp_cases S e with ⟨h1, h2⟩ | ⟨h1, h2, h3⟩
    · rw [List.foldl_cons, h1]
      rcases fold_cases (S := S) hr with ⟨a, b⟩ | a
      · exact .inl ⟨a, fun e' he' => by
          rcases List.mem_cons.1 he' with rfl | he'
          · exact h2
          · exact b e' he'⟩
      · exact .inr a
    · right
      rw [List.foldl_cons]
      have a := cnt_more (stp_sub S e) (hl e (by simp)) h1 h2 h3
      have b := cnt_mono (fold_sub r (stp S e)) es
      omega
def Shut (es : List Eg) (S : List Int) : Prop := ∀ e ∈ es, (e.1 ∈ S ↔ e.2 ∈ S)
theorem fold_shut {es : List Eg} {S : List Int} (h : Shut es S) : ∀ {l : List Eg}, (∀ e ∈ l, e ∈ es) → l.foldl stp S = S
  | [], _ => rfl
  | e :: r, hl => by
    have h1 : stp S e = S := by
      have := h e (hl e (by simp))
      unfold stp
      by_cases c : e.1 ∈ S
      · rw [if_pos c, if_pos (this.1 c)]
      · rw [if_neg c, if_neg (fun d => c (this.2 d))]
    rw [List.foldl_cons, h1]
    exact fold_shut h fun e' he' => hl e' (by simp [he'])
theorem rch_cases (es : List Eg) (f : Int) : ∀ k, Shut es (rch es f k) ∨ k ≤ cnt es (rch es f k)
  | 0 => .inr (Nat.zero_le _)
  | k + 1 => by
    rcases rch_cases es f k with h | h
    · left
      show Shut es (rnd es (rch es f k))
      unfold rnd
      rw [fold_shut h fun _ h => h]
      exact h
    · rcases fold_cases (es := es) (l := es) (S := rch es f k) fun _ h => h with ⟨a, b⟩ | a
      · left
        show Shut es (rnd es (rch es f k))
        unfold rnd
        rw [a]
        exact b
      · right
        show k + 1 ≤ cnt es (rnd es (rch es f k))
        unfold rnd
        omega
/-- Behind one round more than there are edges all are there that can be come to. -/
theorem rch_is (es : List Eg) (f : Int) : IsR es f (rch es f (es.length + 1)) := by
  have ok := ok_rch es f (es.length + 1)
  have hs : Shut es (rch es f (es.length + 1)) := by
    rcases rch_cases es f (es.length + 1) with h | h
    · exact h
    · have := cnt_le es (rch es f (es.length + 1))
      omega
  refine ⟨ok.rise, fun x => ⟨ok.con x, fun c => con_in ok.self (fun x hx y a => ?_) c⟩⟩
  obtain ⟨e, he, a⟩ := a
  rcases a with ⟨rfl, rfl⟩ | ⟨rfl, rfl⟩
  · exact (hs e he).1 hx
  · exact (hs e he).2 hx

end Go.Proofs.Ytpbbamoeaalolaa.M
