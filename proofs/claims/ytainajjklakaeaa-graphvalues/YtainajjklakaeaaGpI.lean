/-
  Two rows of nodes that grow side by side, each in a block of its own, beside what must stay; nodes as cells, one behind the other ('NF'), and that a row of them is nodes that a slice holds. No Go text is in sight.
-/
import Derived.Test.YtainajjklakaeaaMathN
import Derived.Test.YtainajjklakaeaaGpM
import Derived.Deep.AppendLies
namespace Go.Proofs.Ytainajjklakaeaa.M
open Go.RowKit

/-- Two rows, of types e1 and e2, each in a block of its own from base on; what lies in S lies from base on, in neither. -/
structure Iv6 (e1 e2 : TypeId) (base : Nat) (S : Nat → Prop) (L1 L2 : Value) (n1 n2 : Nat) (xs1 xs2 : List Value) (X : World) : Prop where
  own1 : X.ownsRow base e1 6 L1 n1 xs1
  own2 : X.ownsRow base e2 6 L2 n2 xs2
  apart : L2.ownBlock = none ∨ L2.ownBlock ≠ L1.ownBlock
  kids : ∀ g, S g → base ≤ g ∧ g < X.heap.size ∧ L1.ownBlock ≠ some g ∧ L2.ownBlock ≠ some g
  here : base ≤ X.heap.size

section
variable {e1 e2 : TypeId} {base : Nat} {S : Nat → Prop} {L1 L2 : Value} {n1 n2 : Nat} {xs1 xs2 : List Value} {X Y : World}

theorem Iv6.grow (h : Iv6 e1 e2 base S L1 L2 n1 n2 xs1 xs2 X) (g : X.grownBy Y none) : Iv6 e1 e2 base S L1 L2 n1 n2 xs1 xs2 Y :=
  ⟨h.own1.kept g (by cases hv : L1.ownBlock <;> simp), h.own2.kept g (by cases hv : L2.ownBlock <;> simp), h.apart, fun x hx => ⟨(h.kids x hx).1, Nat.lt_of_lt_of_le (h.kids x hx).2.1 g.size, (h.kids x hx).2.2⟩, Nat.le_trans h.here g.size⟩

theorem Iv6.one {g n1' cap : Nat} {xs1' : List Value} (h : Iv6 e1 e2 base S L1 L2 n1 n2 xs1 xs2 X) (ho : Y.ownsRow base e1 6 (.slice (some ⟨g, 0, none⟩) n1' cap) n1' xs1') (hg : X.grownBy Y L1.ownBlock) (ha : L1.ownBlock = some g ∨ g = X.heap.size) :
    Iv6 e1 e2 base S (.slice (some ⟨g, 0, none⟩) n1' cap) L2 n1' n2 xs1' xs2 Y := by
  refine ⟨ho, h.own2.kept hg h.apart, ?_, fun x hx => ?_, Nat.le_trans h.here hg.size⟩
  · show L2.ownBlock = none ∨ L2.ownBlock ≠ some g
    rcases ha with ha | ha
    · rw [← ha]; exact h.apart
    · right
      intro e
      have := (h.own2.lt g e).2
      omega
  · obtain ⟨a, b, c, d⟩ := h.kids x hx
    refine ⟨a, Nat.lt_of_lt_of_le b hg.size, ?_, d⟩
    show some g ≠ some x
    rcases ha with ha | ha
    · rw [← ha]; exact c
    · intro e; cases e; omega

theorem Iv6.two {g n2' cap : Nat} {xs2' : List Value} (h : Iv6 e1 e2 base S L1 L2 n1 n2 xs1 xs2 X) (ho : Y.ownsRow base e2 6 (.slice (some ⟨g, 0, none⟩) n2' cap) n2' xs2') (hg : X.grownBy Y L2.ownBlock) (ha : L2.ownBlock = some g ∨ g = X.heap.size) :
    Iv6 e1 e2 base S L1 (.slice (some ⟨g, 0, none⟩) n2' cap) n1 n2' xs1 xs2' Y := by
  refine ⟨h.own1.kept hg ?_, ho, ?_, fun x hx => ?_, Nat.le_trans h.here hg.size⟩
  · cases hv : L1.ownBlock with
    | none => exact .inl rfl
    | some x =>
      right
      rcases h.apart with h2 | h2
      · rw [h2]; simp
      · rw [← hv]; exact fun e => h2 e.symm
  · show some g = none ∨ some g ≠ L1.ownBlock
    right
    rcases ha with ha | ha
    · rw [← ha]
      rcases h.apart with h2 | h2
      · rw [h2] at ha; cases ha
      · exact h2
    · intro e
      have := (h.own1.lt g e.symm).2
      omega
  · obtain ⟨a, b, c, d⟩ := h.kids x hx
    refine ⟨a, Nat.lt_of_lt_of_le b hg.size, c, ?_⟩
    show some g ≠ some x
    rcases ha with ha | ha
    · rw [← ha]; exact d
    · intro e; cases e; omega

theorem far6_one (h : Iv6 e1 e2 base S L1 L2 n1 n2 xs1 xs2 X) (g : X.grownBy Y L1.ownBlock) : Far base S X Y := ⟨g.os, g.tape, g.output, g.size, fun k hk hc => g.block k hk (fun e => by
  rcases hc with hc | hc
  · have := (h.own1.lt k e.symm).1; omega
  · exact (h.kids k hc).2.2.1 e.symm)⟩
theorem far6_two (h : Iv6 e1 e2 base S L1 L2 n1 n2 xs1 xs2 X) (g : X.grownBy Y L2.ownBlock) : Far base S X Y := ⟨g.os, g.tape, g.output, g.size, fun k hk hc => g.block k hk (fun e => by
  rcases hc with hc | hc
  · have := (h.own2.lt k e.symm).1; omega
  · exact (h.kids k hc).2.2.2 e.symm)⟩

end

end Go.Proofs.Ytainajjklakaeaa.M
namespace Go.Proofs.Ytainajjklakaeaa.Wgp
open Go.ChangeShapes Go.WideShapes Go.ChangeAt Go.RowKit Go.Proofs.Ytainajjklakaeaa.M Go.Proofs.Ytainajjklakaeaa.Wg

/-- Deps that lie in blocks of S. -/
def DpS (w : World) (S : Nat → Prop) (x : Nd) (da : Option Addr) (dc : Nat) : Prop := x.deps.length ≤ dc ∧ dc ≤ 9223372036854775807 ∧ (x.deps = [] ∨ ∃ g, da = some ⟨g, 0, none⟩ ∧ S g ∧ g < w.heap.size ∧ ∀ (i : Nat) s, x.deps[i]? = some s → w.cell? ⟨g, i, none⟩ = some (.string s))
theorem DpS.dp {w : World} {S : Nat → Prop} {x : Nd} {da : Option Addr} {dc : Nat} (h : DpS w S x da dc) : Dp w x da dc := by
  refine ⟨h.1, h.2.1, ?_⟩
  rcases h.2.2 with h | ⟨g, h1, _, h2, h3⟩
  · exact .inl h
  · exact .inr ⟨g, h1, h2, h3⟩
theorem DpS.far {w w' : World} {S S' : Nat → Prop} {x : Nd} {da : Option Addr} {dc : Nat} (h : DpS w S x da dc) (hs : ∀ g, S g → S' g) (hz : w.heap.size ≤ w'.heap.size) (hk : ∀ g, S g → g < w.heap.size → w'.heap[g]? = w.heap[g]?) : DpS w' S' x da dc := by
  refine ⟨h.1, h.2.1, ?_⟩
  rcases h.2.2 with h | ⟨g, h1, h2, h3, h4⟩
  · exact .inl h
  · exact .inr ⟨g, h1, hs g h2, Nat.lt_of_lt_of_le h3 hz, fun i s hi => (World.cell?_of_block (a := ⟨g, i, none⟩) (hk g h2 h3)).trans (h4 i s hi)⟩
/-- Nodes as cells, one behind the other. -/
def NF (w : World) (S : Nat → Prop) : List Nd → List Value → Prop
  | [], xs => xs = []
  | x :: r, xs => ∃ da dc ys, xs = [.string x.name, .slice da x.deps.length dc, .int .i64 x.tries, .int .i64 x.lease, .int .i64 x.tenant, .string x.flow] ++ ys ∧ DpS w S x da dc ∧ NF w S r ys
theorem NF.far {w w' : World} {S S' : Nat → Prop} (hs : ∀ g, S g → S' g) (hz : w.heap.size ≤ w'.heap.size) (hk : ∀ g, S g → g < w.heap.size → w'.heap[g]? = w.heap[g]?) : ∀ {M : List Nd} {xs : List Value}, NF w S M xs → NF w' S' M xs
  | [], _, h => h
  | _ :: _, _, ⟨da, dc, ys, h1, h2, h3⟩ => ⟨da, dc, ys, h1, h2.far hs hz hk, NF.far hs hz hk h3⟩
theorem NF.snoc {w : World} {S : Nat → Prop} {x : Nd} {da : Option Addr} {dc : Nat} (hx : DpS w S x da dc) : ∀ {M : List Nd} {xs : List Value}, NF w S M xs → NF w S (M ++ [x]) (xs ++ [.string x.name, .slice da x.deps.length dc, .int .i64 x.tries, .int .i64 x.lease, .int .i64 x.tenant, .string x.flow])
  | [], xs, h => by
    have h : xs = [] := h
    subst h
    exact ⟨da, dc, [], rfl, hx, rfl⟩
  | y :: r, xs, ⟨ea, ec, ys, h1, h2, h3⟩ => by
    subst h1
    exact ⟨ea, ec, ys ++ _, by simp, h2, NF.snoc hx h3⟩
theorem NF.at {w : World} {S : Nat → Prop} : ∀ {M : List Nd} {xs : List Value}, NF w S M xs → ∀ (i : Nat) x, M[i]? = some x → ∃ da dc, DpS w S x da dc ∧ ∀ k v, [Value.string x.name, .slice da x.deps.length dc, .int .i64 x.tries, .int .i64 x.lease, .int .i64 x.tenant, .string x.flow][k]? = some v → xs[i * 6 + k]? = some v
  | [], _, _, i, x, hx => by simp at hx
  | y :: r, xs, ⟨da, dc, ys, h1, h2, h3⟩, 0, x, hx => by
    simp at hx
    subst hx
    subst h1
    refine ⟨da, dc, h2, fun k v hv => ?_⟩
    have hk := (List.getElem?_eq_some_iff.1 hv).1
    rw [Nat.zero_mul, Nat.zero_add, List.getElem?_append_left hk]
    exact hv
  | y :: r, xs, ⟨da, dc, ys, h1, h2, h3⟩, i + 1, x, hx => by
    obtain ⟨ea, ec, k1, k2⟩ := NF.at h3 i x (by simpa using hx)
    subst h1
    refine ⟨ea, ec, k1, fun k v hv => ?_⟩
    rw [List.getElem?_append_right (by simp; omega)]
    have : (i + 1) * 6 + k - 6 = i * 6 + k := by omega
    simp only [List.length_cons, List.length_nil]
    rw [this]
    exact k2 k v hv
/-- A row of nodes that is owned holds them. -/
theorem ns_own {w : World} {base e : Nat} {S : Nat → Prop} {q : Option Addr} {d : Nat} {M : List Nd} {xs : List Value} (h : w.ownsRow base e 6 (.slice q M.length d) M.length xs) (hn : NF w S M xs) : Ns w q M ∧ M.length ≤ d ∧ d ≤ maxLen := by
  rcases h.2 with ⟨h1, h2⟩ | ⟨g, cap, cur, h1, hb, hg, hc, hm, hs, ht⟩
  · injection h1 with h1 h3 h4
    exact ⟨.inl (List.length_eq_zero_iff.1 h2), by omega, by unfold maxLen; omega⟩
  · injection h1 with h1 h3 h4
    subst h1 h4
    refine ⟨.inr ⟨g, rfl, lt_of_heap hg, fun i x hx => ?_⟩, hc, hm⟩
    obtain ⟨da, dc, k1, k2⟩ := hn.at i x hx
    have hi := (List.getElem?_eq_some_iff.1 hx).1
    have key : ∀ k v, [Value.string x.name, .slice da x.deps.length dc, .int .i64 x.tries, .int .i64 x.lease, .int .i64 x.tenant, .string x.flow][k]? = some v → w.cell? ⟨g, i * 6 + k, none⟩ = some v := fun k v hv => by
      have hk := (List.getElem?_eq_some_iff.1 hv).1
      simp only [List.length_cons, List.length_nil] at hk
      rw [h.cellAt (i * 6 + k) (by omega)]
      exact k2 k v hv
    exact ⟨da, dc, ⟨key 0 _ rfl, key 1 _ rfl, key 2 _ rfl, key 3 _ rfl, key 4 _ rfl, key 5 _ rfl⟩, k1.dp⟩

end Go.Proofs.Ytainajjklakaeaa.Wgp
