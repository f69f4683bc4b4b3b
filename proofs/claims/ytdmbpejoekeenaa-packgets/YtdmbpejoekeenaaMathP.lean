/-
  One value under way, its head in a block, its list in a row of its own: behind an inner call, behind an append. No Go text is in sight.
-/
import Derived.Test.YtdmbpejoekeenaaMathN
namespace Go.Proofs.Ytdmbpejoekeenaa.M
open Go.RowKit

/-- One value under way. -/
def St1 (e : TypeId) (base b : Nat) (f : F) (S : Nat → Prop) (p : Option Addr) (c : Nat) (xs : List Value) (X : World) : Prop :=
  X.heap[b]? = some (.cells #[.int .i64 2, .int .i64 0, .string ⟨#[]⟩, .slice p f.len c] e (0, 0)) ∧ Inv e e base S (.slice p f.len c) (.slice none 0 0) f.len 0 xs [] X ∧ Fits X S f xs

theorem st1_nil {e : TypeId} {base b : Nat} {X : World} (h : X.heap[b]? = some (.cells #[.int .i64 2, .int .i64 0, .string ⟨#[]⟩, .slice none 0 0] e (0, 0))) (hb : base ≤ X.heap.size) : St1 e base b .nil (fun _ => False) none 0 [] X :=
  ⟨h, ⟨World.ownsRow_nil _ _ _ _, World.ownsRow_nil _ _ _ _, .inl rfl, fun _ h => h.elim, hb⟩, rfl⟩

section
variable {e : TypeId} {base b : Nat} {f l : F} {S : Nat → Prop} {p p1 : Option Addr} {c c1 : Nat} {xs : List Value} {wr w2 X Y : World} {k n : Int} {s : ByteArray}

/-- Behind an inner call: its value beside the one under way. -/
theorem joined1 (h : St1 e base b f S p c xs wr) (g : wr.grownBy w2 none) (R : Rd w2 (fun g => wr.heap.size ≤ g) (.slice p1 l.len c1) l) (hX : X = w2.alloc (.cells #[.int .i64 k, .int .i64 n, .string s, .slice p1 l.len c1] e)) :
    ∃ S' : Nat → Prop, St1 e base b f S' p c xs X ∧ Rd X S' (.slice p1 l.len c1) l ∧ X.heap[w2.heap.size]? = some (.cells #[.int .i64 k, .int .i64 n, .string s, .slice p1 l.len c1] e (0, 0)) ∧ S' w2.heap.size ∧ X.heap.size = w2.heap.size + 1 ∧ wr.grownBy X none := by
  obtain ⟨a1, hI, f1⟩ := h
  have gx : w2.grownBy X none := by rw [hX]; exact grown1 _ _
  have gw : wr.grownBy X none := grown_trans g gx
  have hz : X.heap.size = w2.heap.size + 1 := by rw [hX]; simp
  have hh := hI.here
  have hgs := g.size
  have hI' := hI.grow gw
  refine ⟨fun x => S x ∨ (wr.heap.size ≤ x ∧ x < X.heap.size), ⟨(gw.block b (lt_of_heap a1) (by simp)).trans a1, ⟨hI'.own1, hI'.own2, hI'.apart, ?_, hI'.here⟩, fits_of (fun _ h => .inl h) (fun x hx o ho => (gw.block x (lt_of_heap ho) (by simp)).trans ho) f1⟩, ?_, ?_, .inr ⟨hgs, by omega⟩, hz, gw⟩
  · rintro x (hx | ⟨hx1, hx2⟩)
    · exact hI'.kids x hx
    · refine ⟨by omega, hx2, ?_, by simp [Value.ownBlock]⟩
      intro e; have := (hI.own1.lt x e).2; omega
  · exact rd_of (fun x h => .inr ⟨h.1, Nat.lt_of_lt_of_le h.2 gx.size⟩) (fun x h o ho => (gx.block x h.2 (by simp)).trans ho) (rd_size R)
  · rw [hX]; exact heap_alloc_new w2 _

/-- Behind the append, and the store of what it gave. -/
theorem ended1 {g1 t1 : Nat} (lb : b < base) (h : St1 e base b f S p c xs X) (R : Rd X S (.slice p1 l.len c1) l) (hF : Far base S X Y)
    (hI : Inv e e base S (.slice (some ⟨g1, 0, none⟩) (f.len + 1) t1) (.slice none 0 0) (f.len + 1) 0 (xs ++ [.int .i64 k, .int .i64 n, .string s, .slice p1 l.len c1]) [] Y) :
    St1 e base b (f.app (.cons k n s l .nil)) S (some ⟨g1, 0, none⟩) t1 (xs ++ [.int .i64 k, .int .i64 n, .string s, .slice p1 l.len c1]) (Y.setCell ⟨b, 3, none⟩ (.slice (some ⟨g1, 0, none⟩) (f.len + 1) t1)) := by
  obtain ⟨a1, _, f1⟩ := h
  have hlen : (f.app (.cons k n s l .nil)).len = f.len + 1 := by rw [F.len_app]; rfl
  have y8 := (hF.stay b (lt_of_heap a1) (.inl lb)).trans a1
  have z8 := heap_set1 y8 3 (.slice (some ⟨g1, 0, none⟩) (f.len + 1) t1)
  have hoth : ∀ j, j ≠ b → (Y.setCell ⟨b, 3, none⟩ (.slice (some ⟨g1, 0, none⟩) (f.len + 1) t1)).heap[j]? = Y.heap[j]? := fun j hj => Below.heap_setCell _ _ _ _ hj
  have hsz : (Y.setCell ⟨b, 3, none⟩ (.slice (some ⟨g1, 0, none⟩) (f.len + 1) t1)).heap.size = Y.heap.size := by simp [World.setCell]
  have hS : ∀ x, S x → ∀ o, Y.heap[x]? = some o → (Y.setCell ⟨b, 3, none⟩ (.slice (some ⟨g1, 0, none⟩) (f.len + 1) t1)).heap[x]? = some o := fun x hx o ho => (hoth x (by have := (hI.kids x hx).1; omega)).trans ho
  have own : ∀ {v : Value} {n : Nat} {xs : List Value}, Y.ownsRow base e 4 v n xs → (Y.setCell ⟨b, 3, none⟩ (.slice (some ⟨g1, 0, none⟩) (f.len + 1) t1)).ownsRow base e 4 v n xs := by
    intro v n xs h
    refine ⟨h.1, ?_⟩
    rcases h.2 with h2 | ⟨gg, cap, cur, h1, h2, h3, h4⟩
    · exact .inl h2
    · exact .inr ⟨gg, cap, cur, h1, h2, (hoth gg (by omega)).trans h3, h4⟩
  refine ⟨?_, ?_, ?_⟩
  · rw [hlen, z8]; simp
  · rw [hlen]
    exact ⟨own hI.own1, own hI.own2, hI.apart, fun x hx => ⟨(hI.kids x hx).1, by rw [hsz]; exact (hI.kids x hx).2.1, (hI.kids x hx).2.2⟩, by rw [hsz]; exact hI.here⟩
  · exact fits_app (fits_of (fun _ h => h) hS (hF.fits f1)) (fits_one (rd_of (fun _ h => h) hS (hF.rd R)))
end

end Go.Proofs.Ytdmbpejoekeenaa.M
