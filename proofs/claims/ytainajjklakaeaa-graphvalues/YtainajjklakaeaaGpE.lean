/-
  A workflow as a value: a plain forest ('flowF'), and what a value says as one ('rdF'); that it is read back, and that what is read is alike. Nothing is asked but what each fact names.
-/
import Derived.Test.YtainajjklakaeaaGpA
import Derived.Test.YtainajjklakaeaaMathV
namespace Go.Proofs.Ytainajjklakaeaa.M

def strsF : List ByteArray → F
  | [] => .nil
  | s :: r => .cons 1 0 s .nil (strsF r)
def ndF (x : Nd) : F := .cons 1 0 x.name .nil (.cons 2 0 ⟨#[]⟩ (strsF x.deps) (.cons 0 x.tries ⟨#[]⟩ .nil (.cons 0 x.lease ⟨#[]⟩ .nil (.cons 0 x.tenant ⟨#[]⟩ .nil (.cons 1 0 x.flow .nil .nil)))))
def nodesF : List Nd → F
  | [] => .nil
  | x :: r => .cons 2 0 ⟨#[]⟩ (ndF x) (nodesF r)
def flowF (nm : ByteArray) (L : List Nd) : F := .cons 1 0 nm .nil (.cons 2 0 ⟨#[]⟩ (nodesF L) .nil)

theorem strsF_len : ∀ l : List ByteArray, (strsF l).len = l.length
  | [] => rfl
  | s :: r => by simp [strsF, F.len, strsF_len r]
theorem nodesF_len : ∀ l : List Nd, (nodesF l).len = l.length
  | [] => rfl
  | s :: r => by simp [nodesF, F.len, nodesF_len r]
theorem strsF_nodes : ∀ l : List ByteArray, (strsF l).nodes = l.length
  | [] => rfl
  | s :: r => by simp [strsF, F.nodes, strsF_nodes r]
theorem ndF_nodes (x : Nd) : (ndF x).nodes = 6 + x.deps.length := by simp [ndF, F.nodes, strsF_nodes]; omega
theorem nodesF_nodes : ∀ {L : List Nd}, (∀ x ∈ L, NdOk x) → (nodesF L).nodes ≤ L.length * 407
  | [], _ => Nat.le_refl _
  | x :: r, h => by
    have h1 := nodesF_nodes (L := r) fun y hy => h y (List.mem_cons_of_mem _ hy)
    have h2 := (h x List.mem_cons_self).2.2.2.1
    simp only [nodesF, F.nodes, ndF_nodes, List.length_cons]
    omega
theorem strsF_snoc : ∀ (l : List ByteArray) (s : ByteArray), strsF (l ++ [s]) = (strsF l).app (.cons 1 0 s .nil .nil)
  | [], _ => rfl
  | x :: r, s => by simp [strsF, F.app, strsF_snoc r s]
theorem nodesF_snoc : ∀ (l : List Nd) (x : Nd), nodesF (l ++ [x]) = (nodesF l).app (.cons 2 0 ⟨#[]⟩ (ndF x) .nil)
  | [], _ => rfl
  | y :: r, x => by simp [nodesF, F.app, nodesF_snoc r x]
theorem strsF_ok : ∀ {l : List ByteArray}, (∀ s ∈ l, s.size ≤ 140737488355328) → (strsF l).ok
  | [], _ => trivial
  | s :: r, h => ⟨⟨by decide, by decide⟩, ⟨by decide, by decide⟩, h s List.mem_cons_self, trivial, strsF_ok fun x hx => h x (List.mem_cons_of_mem _ hx)⟩
theorem ndF_ok {x : Nd} (h : NdOk x) : (ndF x).ok := by
  obtain ⟨h1, h2, h3, _, h4, h5, h6⟩ := h
  have e : (⟨#[]⟩ : ByteArray).size ≤ 140737488355328 := by decide
  exact ⟨⟨by decide, by decide⟩, ⟨by decide, by decide⟩, h1, trivial, ⟨by decide, by decide⟩, ⟨by decide, by decide⟩, e, strsF_ok h3, ⟨by decide, by decide⟩, h4, e, trivial, ⟨by decide, by decide⟩, h5, e, trivial, ⟨by decide, by decide⟩, h6, e, trivial, ⟨by decide, by decide⟩, ⟨by decide, by decide⟩, h2, trivial, trivial⟩
theorem nodesF_ok : ∀ {L : List Nd}, (∀ x ∈ L, NdOk x) → (nodesF L).ok
  | [], _ => trivial
  | x :: r, h => ⟨⟨by decide, by decide⟩, ⟨by decide, by decide⟩, by decide, ndF_ok (h x List.mem_cons_self), nodesF_ok fun y hy => h y (List.mem_cons_of_mem _ hy)⟩
theorem flowF_ok {nm : ByteArray} {L : List Nd} (hn : nm.size ≤ 140737488355328) (h : ∀ x ∈ L, NdOk x) : (flowF nm L).ok :=
  ⟨⟨by decide, by decide⟩, ⟨by decide, by decide⟩, hn, trivial, ⟨by decide, by decide⟩, ⟨by decide, by decide⟩, (by decide : (⟨#[]⟩ : ByteArray).size ≤ 140737488355328), nodesF_ok h, trivial⟩

/-! ### what a value says -/
def sm (n : Int) : Bool := decide (-2147483648 ≤ n ∧ n ≤ 2147483647)
def F.kinds : F → List Int
  | .nil => []
  | .cons k _ _ _ r => k :: r.kinds
theorem F.kinds_len : ∀ f : F, f.kinds.length = f.len
  | .nil => rfl
  | .cons k n s l r => by simp [F.kinds, F.len, F.kinds_len r]
def rdS : F → Option (List ByteArray)
  | .nil => some []
  | .cons k _ s _ r => if k = 1 then (match rdS r with | some l => some (s :: l) | none => none) else none
def rdN1 (k : Int) (l : F) : Option Nd :=
  if k = 2 then match l with
    | .cons k0 _ s0 _ (.cons k1 _ _ l1 (.cons k2 n2 _ _ (.cons k3 n3 _ _ (.cons k4 n4 _ _ (.cons k5 _ s5 _ .nil))))) =>
      if k0 = 1 ∧ k1 = 2 ∧ k2 = 0 ∧ k3 = 0 ∧ k4 = 0 ∧ k5 = 1 then (if sm n2 = true ∧ sm n4 = true then (match rdS l1 with | some ds => some ⟨s0, ds, n2, n3, n4, s5⟩ | none => none) else none) else none
    | _ => none
  else none
def rdL : F → Option (List Nd)
  | .nil => some []
  | .cons k _ _ l r => match rdN1 k l with
    | some x => (match rdL r with | some m => some (x :: m) | none => none)
    | none => none
def rdF (k : Int) (l : F) : Option (ByteArray × List Nd) :=
  if k = 2 then match l with
    | .cons k0 _ s0 _ (.cons k1 _ _ l1 .nil) => if k0 = 1 ∧ k1 = 2 then (match rdL l1 with | some m => some (s0, m) | none => none) else none
    | _ => none
  else none

theorem rdS_back : ∀ l : List ByteArray, rdS (strsF l) = some l
  | [] => rfl
  | s :: r => by simp [strsF, rdS, rdS_back r]
theorem rdN_back {x : Nd} (h : sm x.tries = true ∧ sm x.tenant = true) : rdN1 2 (ndF x) = some x := by simp [rdN1, ndF, h.1, h.2, rdS_back]
theorem rdN_none {x : Nd} (h : ¬ (sm x.tries = true ∧ sm x.tenant = true)) : rdN1 2 (ndF x) = none := by
  unfold rdN1 ndF
  rw [if_pos rfl]
  simp only [and_self, if_true]
  rw [if_neg h]
theorem rdL_back : ∀ {L : List Nd}, (∀ x ∈ L, sm x.tries = true ∧ sm x.tenant = true) → rdL (nodesF L) = some L
  | [], _ => rfl
  | x :: r, h => by simp [nodesF, rdL, rdN_back (h x List.mem_cons_self), rdL_back (L := r) fun y hy => h y (List.mem_cons_of_mem _ hy)]
theorem rdL_none : ∀ {L : List Nd} {x : Nd}, x ∈ L → ¬ (sm x.tries = true ∧ sm x.tenant = true) → rdL (nodesF L) = none
  | y :: r, x, hx, h => by
    rcases List.mem_cons.1 hx with e | hx
    · subst e
      simp [nodesF, rdL, rdN_none h]
    · have := rdL_none hx h
      simp only [nodesF, rdL, this]
      split <;> rfl
theorem rdF_back {nm : ByteArray} {L : List Nd} (h : ∀ x ∈ L, sm x.tries = true ∧ sm x.tenant = true) : rdF 2 (flowF nm L) = some (nm, L) := by simp [rdF, flowF, rdL_back h]
theorem rdF_none {nm : ByteArray} {L : List Nd} {x : Nd} (hx : x ∈ L) (h : ¬ (sm x.tries = true ∧ sm x.tenant = true)) : rdF 2 (flowF nm L) = none := by simp [rdF, flowF, rdL_none hx h]

theorem eqS : ∀ {f : F} {l : List ByteArray}, rdS f = some l → eqF (strsF l) f = true
  | .nil, l, h => by simp only [rdS, Option.some.injEq] at h; subst h; rfl
  | .cons k n s g r, l, h => by
    unfold rdS at h
    by_cases c : k = 1
    · rw [if_pos c] at h
      rcases e : rdS r with _ | m
      · rw [e] at h; cases h
      · rw [e] at h
        simp only [Option.some.injEq] at h
        subst h c
        simp [strsF, eqF, eq1, eqS e]
    · rw [if_neg c] at h; cases h
theorem rdN_form {k : Int} {l : F} {x : Nd} (h : rdN1 k l = some x) : k = 2 ∧ ∃ n0 g0 n1 s1 l1 s2 g2 s3 g3 s4 g4 n5 g5, l = .cons 1 n0 x.name g0 (.cons 2 n1 s1 l1 (.cons 0 x.tries s2 g2 (.cons 0 x.lease s3 g3 (.cons 0 x.tenant s4 g4 (.cons 1 n5 x.flow g5 .nil))))) ∧ rdS l1 = some x.deps ∧ sm x.tries = true ∧ sm x.tenant = true := by
  unfold rdN1 at h
  by_cases c : k = 2
  · rw [if_pos c] at h
    refine ⟨c, ?_⟩
    split at h
    · rename_i k0 n0 s0 g0 k1 n1 s1 l1 k2 n2 s2 g2 k3 n3 s3 g3 k4 n4 s4 g4 k5 n5 s5 g5
      split at h
      · rename_i hk
        obtain ⟨e0, e1, e2, e3, e4, e5⟩ := hk
        split at h
        · rename_i hs
          rcases e : rdS l1 with _ | ds
          · rw [e] at h; cases h
          · rw [e] at h
            simp only [Option.some.injEq] at h
            subst h e0 e1 e2 e3 e4 e5
            exact ⟨n0, g0, n1, s1, l1, s2, g2, s3, g3, s4, g4, n5, g5, rfl, e, hs.1, hs.2⟩
        · cases h
      · cases h
    · cases h
  · rw [if_neg c] at h; cases h
theorem eqN {k : Int} {l : F} {x : Nd} (h : rdN1 k l = some x) : k = 2 ∧ eqF (ndF x) l = true := by
  obtain ⟨hk, n0, g0, n1, s1, l1, s2, g2, s3, g3, s4, g4, n5, g5, rfl, hd, _⟩ := rdN_form h
  refine ⟨hk, ?_⟩
  simp [ndF, eqF, eq1, eqS hd]
theorem eqL : ∀ {f : F} {L : List Nd}, rdL f = some L → eqF (nodesF L) f = true
  | .nil, L, h => by simp only [rdL, Option.some.injEq] at h; subst h; rfl
  | .cons k n s l r, L, h => by
    unfold rdL at h
    rcases e : rdN1 k l with _ | x
    · rw [e] at h; cases h
    · rw [e] at h
      rcases e2 : rdL r with _ | m
      · rw [e2] at h; cases h
      · rw [e2] at h
        simp only [Option.some.injEq] at h
        subst h
        obtain ⟨hk, he⟩ := eqN e
        subst hk
        simp [nodesF, eqF, eq1, he, eqL e2]
theorem rdF_form {k : Int} {l : F} {nm : ByteArray} {L : List Nd} (h : rdF k l = some (nm, L)) : k = 2 ∧ ∃ n0 g0 n1 s1 l1, l = .cons 1 n0 nm g0 (.cons 2 n1 s1 l1 .nil) ∧ rdL l1 = some L := by
  unfold rdF at h
  by_cases c : k = 2
  · rw [if_pos c] at h
    refine ⟨c, ?_⟩
    split at h
    · rename_i k0 n0 s0 g0 k1 n1 s1 l1
      split at h
      · rename_i hk
        obtain ⟨e0, e1⟩ := hk
        rcases e : rdL l1 with _ | m
        · rw [e] at h; cases h
        · rw [e] at h
          simp only [Option.some.injEq, Prod.mk.injEq] at h
          obtain ⟨h1, h2⟩ := h
          subst h1 h2 e0 e1
          exact ⟨n0, g0, n1, s1, l1, rfl, e⟩
      · cases h
    · cases h
  · rw [if_neg c] at h; cases h
theorem eqV {k n : Int} {s : ByteArray} {l : F} {nm : ByteArray} {L : List Nd} (h : rdF k l = some (nm, L)) : eq1 2 0 ⟨#[]⟩ k n s (eqF (flowF nm L) l) = true := by
  obtain ⟨hk, n0, g0, n1, s1, l1, rfl, hL⟩ := rdF_form h
  subst hk
  simp [eq1, flowF, eqF, eqL hL]
theorem rdS_ok : ∀ {f : F} {l : List ByteArray}, rdS f = some l → f.ok → (∀ s ∈ l, s.size ≤ 140737488355328) ∧ l.length = f.len
  | .nil, l, h, _ => by simp only [rdS, Option.some.injEq] at h; subst h; exact ⟨fun _ h => (by cases h), rfl⟩
  | .cons k n s g r, l, h, ho => by
    unfold rdS at h
    by_cases c : k = 1
    · rw [if_pos c] at h
      rcases e : rdS r with _ | m
      · rw [e] at h; cases h
      · rw [e] at h
        simp only [Option.some.injEq] at h
        subst h
        obtain ⟨h1, h2⟩ := rdS_ok e ho.2.2.2.2
        refine ⟨fun x hx => ?_, by simp [F.len, h2]⟩
        rcases List.mem_cons.1 hx with rfl | hx
        · exact ho.2.2.1
        · exact h1 x hx
    · rw [if_neg c] at h; cases h
theorem rdN_ok {k : Int} {l : F} {x : Nd} (h : rdN1 k l = some x) (ho : l.ok) (hl : l.nodes ≤ 400) : NdOk x := by
  obtain ⟨_, n0, g0, n1, s1, l1, s2, g2, s3, g3, s4, g4, n5, g5, rfl, hd, _⟩ := rdN_form h
  obtain ⟨a0, a1, a2, _, b0, b1, b2, b3, c0, c1, c2, _, d0, d1, d2, _, e0, e1, e2, _, f0, f1, f2, _⟩ := ho
  obtain ⟨p1, p2⟩ := rdS_ok hd b3
  have hn := F.len_nodes l1
  simp only [F.nodes] at hl
  exact ⟨a2, f2, p1, by omega, c1, d1, e1⟩
theorem rdL_ok : ∀ {f : F} {L : List Nd}, rdL f = some L → f.ok → f.nodes ≤ 400 → (∀ x ∈ L, NdOk x) ∧ L.length = f.len
  | .nil, L, h, _, _ => by simp only [rdL, Option.some.injEq] at h; subst h; exact ⟨fun _ h => (by cases h), rfl⟩
  | .cons k n s l r, L, h, ho, hl => by
    unfold rdL at h
    rcases e : rdN1 k l with _ | x
    · rw [e] at h; cases h
    · rw [e] at h
      rcases e2 : rdL r with _ | m
      · rw [e2] at h; cases h
      · rw [e2] at h
        simp only [Option.some.injEq] at h
        subst h
        simp only [F.nodes] at hl
        have h1 := rdN_ok e ho.2.2.2.1 (by omega)
        obtain ⟨h2, h3⟩ := rdL_ok e2 ho.2.2.2.2 (by omega)
        refine ⟨fun y hy => ?_, by simp [F.len, h3]⟩
        rcases List.mem_cons.1 hy with rfl | hy
        · exact h1
        · exact h2 y hy

end Go.Proofs.Ytainajjklakaeaa.M
