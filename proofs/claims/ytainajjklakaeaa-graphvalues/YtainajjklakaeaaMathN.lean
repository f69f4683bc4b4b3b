/-
  Two rows of values that grow side by side, each in a block of its own, beside what must stay: how an append to one leaves the other, and all that must stay. No Go text is in sight.
-/
import Derived.Test.YtainajjklakaeaaMathV
import Derived.Laws.AppendOwn
namespace Go.Proofs.Ytainajjklakaeaa.M
open Go.RowKit

theorem grown_refl (X : World) (r : Option Nat) : X.grownBy X r := ⟨rfl, rfl, rfl, Nat.le_refl _, fun _ _ _ => rfl⟩
theorem grown_trans {X Y Z : World} {r : Option Nat} (h : X.grownBy Y r) (k : Y.grownBy Z r) : X.grownBy Z r :=
  ⟨k.os.trans h.os, k.tape.trans h.tape, k.output.trans h.output, Nat.le_trans h.size k.size, fun i hi hr => (k.block i (Nat.lt_of_lt_of_le hi h.size) hr).trans (h.block i hi hr)⟩
theorem grown_some {X Y : World} (h : X.grownBy Y none) (r : Option Nat) : X.grownBy Y r := ⟨h.os, h.tape, h.output, h.size, fun i hi _ => h.block i hi (by simp)⟩
theorem grown1 (X : World) (o : Obj) : X.grownBy (X.alloc o) none := ⟨rfl, rfl, rfl, by simp, fun k hk _ => Below.heap_alloc X o k hk⟩
theorem grown2 (X : World) (o o' : Obj) : X.grownBy ((X.alloc o).alloc o') none := grown_trans (grown1 X o) (grown1 _ o')
theorem grown_drew {X Y : World} {r : Option Nat} (h : X.grownBy Y r) : X.grownBy Y.drew r := ⟨h.os, h.tape, h.output, h.size, h.block⟩
theorem grown1d (X : World) (o : Obj) : X.drew.grownBy (X.alloc o).drew none := ⟨rfl, rfl, rfl, by show X.heap.size ≤ (X.alloc o).heap.size; simp, fun k hk _ => Below.heap_alloc X o k hk⟩
theorem put4_kept (w : World) (g j : Nat) (a b c d : Value) : w.grownBy (put4 w g j a b c d) (some g) :=
  ⟨rfl, rfl, rfl, Nat.le_of_eq put4_size.symm, fun _ _ hk => put4_other (fun e => hk (by rw [e]))⟩
theorem grown_below {X Y : World} (h : Below X.heap.size X Y) : X.grownBy Y none := ⟨h.os, h.tape, h.output, h.size, fun k hk _ => h.block k hk⟩
theorem below_grown {X Y : World} (h : X.grownBy Y none) : Below X.heap.size X Y := ⟨h.os, h.tape, h.output, h.size, fun k hk => h.block k hk (by simp)⟩

/-- Two rows, of types e1 and e2, each in a block of its own from base on; what lies in S lies from base on, in neither. -/
structure Inv (e1 e2 : TypeId) (base : Nat) (S : Nat → Prop) (L1 L2 : Value) (n1 n2 : Nat) (xs1 xs2 : List Value) (X : World) : Prop where
  own1 : X.ownsRow base e1 4 L1 n1 xs1
  own2 : X.ownsRow base e2 4 L2 n2 xs2
  apart : L2.ownBlock = none ∨ L2.ownBlock ≠ L1.ownBlock
  kids : ∀ g, S g → base ≤ g ∧ g < X.heap.size ∧ L1.ownBlock ≠ some g ∧ L2.ownBlock ≠ some g
  here : base ≤ X.heap.size

/-- What lies below base, or in S, has stayed. -/
structure Far (base : Nat) (S : Nat → Prop) (X Y : World) : Prop where
  os : Y.os = X.os
  tape : Y.tape = X.tape
  output : Y.output = X.output
  size : X.heap.size ≤ Y.heap.size
  stay : ∀ k, k < X.heap.size → (k < base ∨ S k) → Y.heap[k]? = X.heap[k]?

section
variable {e1 e2 : TypeId} {base : Nat} {S : Nat → Prop} {L1 L2 : Value} {n1 n2 : Nat} {xs1 xs2 : List Value} {X Y : World}

theorem Inv.grow (h : Inv e1 e2 base S L1 L2 n1 n2 xs1 xs2 X) (g : X.grownBy Y none) : Inv e1 e2 base S L1 L2 n1 n2 xs1 xs2 Y :=
  ⟨h.own1.kept g (by cases hv : L1.ownBlock <;> simp), h.own2.kept g (by cases hv : L2.ownBlock <;> simp), h.apart, fun x hx => ⟨(h.kids x hx).1, Nat.lt_of_lt_of_le (h.kids x hx).2.1 g.size, (h.kids x hx).2.2⟩, Nat.le_trans h.here g.size⟩

theorem Inv.one {g n1' cap : Nat} {xs1' : List Value} (h : Inv e1 e2 base S L1 L2 n1 n2 xs1 xs2 X) (ho : Y.ownsRow base e1 4 (.slice (some ⟨g, 0, none⟩) n1' cap) n1' xs1') (hg : X.grownBy Y L1.ownBlock) (ha : L1.ownBlock = some g ∨ g = X.heap.size) :
    Inv e1 e2 base S (.slice (some ⟨g, 0, none⟩) n1' cap) L2 n1' n2 xs1' xs2 Y := by
  refine ⟨ho, h.own2.kept hg h.apart, ?_, fun x hx => ?_, Nat.le_trans h.here hg.size⟩
  · show L2.ownBlock = none ∨ L2.ownBlock ≠ some g
    rcases ha with ha | ha
    · rw [← ha]; exact h.apart
    · right
      intro e
      have := (h.own2.lt g e).2
      omega
  · obtain ⟨a, b, c, d⟩ := h.kids x hx
    refine ⟨a, Nat.lt_of_lt_of_le b hg.size, ?_, d⟩
    show some g ≠ some x
    rcases ha with ha | ha
    · rw [← ha]; exact c
    · intro e; cases e; omega

theorem Inv.two {g n2' cap : Nat} {xs2' : List Value} (h : Inv e1 e2 base S L1 L2 n1 n2 xs1 xs2 X) (ho : Y.ownsRow base e2 4 (.slice (some ⟨g, 0, none⟩) n2' cap) n2' xs2') (hg : X.grownBy Y L2.ownBlock) (ha : L2.ownBlock = some g ∨ g = X.heap.size) :
    Inv e1 e2 base S L1 (.slice (some ⟨g, 0, none⟩) n2' cap) n1 n2' xs1 xs2' Y := by
  refine ⟨h.own1.kept hg ?_, ho, ?_, fun x hx => ?_, Nat.le_trans h.here hg.size⟩
  · cases hv : L1.ownBlock with
    | none => exact .inl rfl
    | some x =>
      right
      rcases h.apart with h2 | h2
      · rw [h2]; simp
      · rw [← hv]; exact fun e => h2 e.symm
  · show some g = none ∨ some g ≠ L1.ownBlock
    right
    rcases ha with ha | ha
    · rw [← ha]
      rcases h.apart with h2 | h2
      · rw [h2] at ha; cases ha
      · exact h2
    · intro e
      have := (h.own1.lt g e.symm).2
      omega
  · obtain ⟨a, b, c, d⟩ := h.kids x hx
    refine ⟨a, Nat.lt_of_lt_of_le b hg.size, c, ?_⟩
    show some g ≠ some x
    rcases ha with ha | ha
    · rw [← ha]; exact d
    · intro e; cases e; omega

theorem Far.trans {Z : World} (h : Far base S X Y) (k : Far base S Y Z) : Far base S X Z :=
  ⟨k.os.trans h.os, k.tape.trans h.tape, k.output.trans h.output, Nat.le_trans h.size k.size, fun i hi hk => (k.stay i (Nat.lt_of_lt_of_le hi h.size) hk).trans (h.stay i hi hk)⟩
theorem far_grow (g : X.grownBy Y none) : Far base S X Y := ⟨g.os, g.tape, g.output, g.size, fun k hk _ => g.block k hk (by simp)⟩
theorem far_one (h : Inv e1 e2 base S L1 L2 n1 n2 xs1 xs2 X) (g : X.grownBy Y L1.ownBlock) : Far base S X Y := ⟨g.os, g.tape, g.output, g.size, fun k hk hc => g.block k hk (fun e => by
  rcases hc with hc | hc
  · have := (h.own1.lt k e.symm).1; omega
  · exact (h.kids k hc).2.2.1 e.symm)⟩
theorem far_two (h : Inv e1 e2 base S L1 L2 n1 n2 xs1 xs2 X) (g : X.grownBy Y L2.ownBlock) : Far base S X Y := ⟨g.os, g.tape, g.output, g.size, fun k hk hc => g.block k hk (fun e => by
  rcases hc with hc | hc
  · have := (h.own2.lt k e.symm).1; omega
  · exact (h.kids k hc).2.2.2 e.symm)⟩

theorem Far.cell (h : Far base S X Y) {k j : Nat} {v : Value} (hc : X.cell? ⟨k, j, none⟩ = some v) (hk : k < base ∨ S k) : Y.cell? ⟨k, j, none⟩ = some v :=
  (World.cell?_of_block (a := ⟨k, j, none⟩) (h.stay k (World.block_lt_of_cell? X ⟨k, j, none⟩ hc) hk)).trans hc
theorem Far.fits (h : Far base S X Y) {f : F} {xs : List Value} (hf : Fits X S f xs) : Fits Y S f xs := fits_of (fun _ h => h) (fun g hg _ ho => (h.stay g (lt_of_heap ho) (.inr hg)).trans ho) hf
theorem Far.rd (h : Far base S X Y) {f : F} {L : Value} (hf : Rd X S L f) : Rd Y S L f := rd_of (fun _ h => h) (fun g hg _ ho => (h.stay g (lt_of_heap ho) (.inr hg)).trans ho) hf

/-- A row that is owned reads as what it holds. -/
theorem rd_own {e : TypeId} {A : Nat → Prop} {p : Option Addr} {cap : Nat} {f : F} {xs : List Value} (h : X.ownsRow base e 4 (.slice p f.len cap) f.len xs) (hf : Fits X S f xs) (hA : ∀ g, S g → A g) (hb : ∀ g, base ≤ g → A g) : Rd X A (.slice p f.len cap) f := by
  rcases h.2 with ⟨h1, h2⟩ | ⟨g, cap', cur, h1, h2, h3, h4, h5, _, h6⟩
  · refine .inl ⟨h1, ?_⟩
    cases f with
    | nil => rfl
    | cons => simp [F.len] at h2
  · rw [h1]
    refine rd_row h3 (hb g h2) hA ?_ h4 h5
    rw [h6]
    exact hf
end

/-- The two values under way: their heads in blocks b8 and b9, their lists in rows of their own. -/
def St (e1 e2 : TypeId) (base b8 b9 : Nat) (k m : Int) (s : ByteArray) (f : F) (X : World) : Prop :=
  ∃ (S : Nat → Prop) (p1 p2 : Option Addr) (c1 c2 : Nat) (xs1 xs2 : List Value),
    X.heap[b8]? = some (.cells #[.int .i64 k, .int .i64 m, .string s, .slice p1 f.len c1] e1 (0, 0)) ∧ X.heap[b9]? = some (.cells #[.int .i64 k, .int .i64 m, .string s, .slice p2 f.len c2] e2 (0, 0)) ∧
    Inv e1 e2 base S (.slice p1 f.len c1) (.slice p2 f.len c2) f.len f.len xs1 xs2 X ∧ Fits X S f xs1 ∧ Fits X S f xs2

/-- What else lies there: the number of items gone through, the two results' places, the item. -/
def Env (ti e1 e2 tm : TypeId) (W : World) (ba at_ : Nat) (k m c : Int) (s : ByteArray) (X : World) : Prop :=
  W.grownBy X (some ba) ∧ W.heap.size + 5 ≤ X.heap.size ∧ X.heap[ba]? = some (.cells #[.int .i64 (at_ : Int)] ti (0, 0)) ∧
    X.heap[W.heap.size]? = some (.cells #[.int .i64 0, .int .i64 0, .string ⟨#[]⟩, .slice none 0 0] e1 (0, 0)) ∧ X.heap[W.heap.size + 1]? = some (.cells #[.int .i64 0, .int .i64 0, .string ⟨#[]⟩, .slice none 0 0] e2 (0, 0)) ∧
    X.heap[W.heap.size + 2]? = some (.cells #[.int .i64 k, .int .i64 m, .string s, .int .i64 c] tm (0, 0))

end Go.Proofs.Ytainajjklakaeaa.M
