/-
  A law's state, what a step is asked with, and the program's state, each in its block: what is known of them behind calls and new blocks.
-/
import Derived.Test.YtjpglfnmapncmaaNdC
import Derived.Test.YtjpglfnmapncmaaNdV
namespace Go.Proofs.Ytjpglfnmapncmaa.Wnd
open Go.ChangeShapes Go.WideShapes Go.ChangeAt Go.RowKit Go.Proofs.Ytjpglfnmapncmaa.M Go.Proofs.Ytjpglfnmapncmaa.Wnv

/-- What is asked, in its block. -/
def Cex (w : World) (b : Nat) (n l y z : Int) (ok : Bool) : Prop := ∃ T, w.heap[b]? = some (.cells #[.int .i64 n, .int .i64 l, .int .i64 y, .int .i64 z, .bool ok] T (0, 0))
theorem Cex.new (w : World) (n l y z : Int) (ok : Bool) (T : TypeId) : Cex (w.alloc (.cells #[.int .i64 n, .int .i64 l, .int .i64 y, .int .i64 z, .bool ok] T)) w.heap.size n l y z ok := ⟨T, heap_new w _⟩
theorem Cex.lt {w : World} {b : Nat} {n l y z : Int} {ok : Bool} (h : Cex w b n l y z ok) : b < w.heap.size := by
  obtain ⟨T, h⟩ := h
  exact heap_lt h
theorem Cex.below {w w' : World} {b : Nat} {n l y z : Int} {ok : Bool} (h : Cex w b n l y z ok) {m : Nat} (B : Below m w w') (hn : b < m) : Cex w' b n l y z ok := by
  obtain ⟨T, h⟩ := h
  exact ⟨T, (B.block b hn).trans h⟩
theorem Cex.al {w : World} {b : Nat} {n l y z : Int} {ok : Bool} (h : Cex w b n l y z ok) (o : Obj) : Cex (w.alloc o) b n l y z ok := h.below ((Below.refl _ _).alloc (Nat.le_refl _) _) h.lt
theorem Cex.cells {w : World} {b : Nat} {n l y z : Int} {ok : Bool} (h : Cex w b n l y z ok) : w.cell? ⟨b, 0, none⟩ = some (.int .i64 n) ∧ w.cell? ⟨b, 1, none⟩ = some (.int .i64 l) ∧ w.cell? ⟨b, 2, none⟩ = some (.int .i64 y) ∧ w.cell? ⟨b, 3, none⟩ = some (.int .i64 z) ∧ w.cell? ⟨b, 4, none⟩ = some (.bool ok) ∧ b < w.heap.size := by
  have hl := h.lt
  obtain ⟨T, h⟩ := h
  refine ⟨?_, ?_, ?_, ?_, ?_, hl⟩
  all_goals simp [World.cell?, h]

theorem Cel.call {w w' : World} {b : Nat} {p t u a : Int} (h : Cel w b p t u a) (B : Below w.heap.size w w') : Cel w' b p t u a := h.below B h.lt

/-- A law's memory: its two arguments, and what it found. -/
structure Kq (W w : World) (S X : Nat) (s : NS) (x : As) : Prop where
  s : Cel w S s.p s.t s.u s.a
  x : Cex w X x.n x.l x.y x.z x.ok
  b : Below W.heap.size W w
theorem Kq.call {W w w' : World} {S X : Nat} {s : NS} {x : As} (h : Kq W w S X s x) (b : Below w.heap.size w w') : Kq W w' S X s x := ⟨h.s.below b h.s.lt, h.x.below b h.x.lt, h.b.trans (b.mono h.b.size)⟩
theorem Kq.al {W w : World} {S X : Nat} {s : NS} {x : As} (h : Kq W w S X s x) (o : Obj) : Kq W (w.alloc o) S X s x := h.call ((Below.refl _ _).alloc (Nat.le_refl _) _)
theorem Kq.drew {W w : World} {S X : Nat} {s : NS} {x : As} (h : Kq W w S X s x) : Kq W w.drew S X s x := ⟨h.s, h.x, h.b.drew⟩
theorem Kq.start (W : World) (s : NS) (x : As) (T U : TypeId) : Kq W ((W.alloc (.cells #[.int .i64 s.p, .int .i64 s.t, .int .i64 s.u, .int .i64 s.a] T)).alloc (.cells #[.int .i64 x.n, .int .i64 x.l, .int .i64 x.y, .int .i64 x.z, .bool x.ok] U)) W.heap.size (W.heap.size + 1) s x := by
  refine ⟨(Cel.new W _ _ _ _ T).al _, ?_, ((Below.refl _ _).alloc (Nat.le_refl _) _).alloc (by simp) _⟩
  have h := Cex.new (W.alloc (.cells #[.int .i64 s.p, .int .i64 s.t, .int .i64 s.u, .int .i64 s.a] T)) x.n x.l x.y x.z x.ok U
  rwa [World.size_alloc] at h
end Go.Proofs.Ytjpglfnmapncmaa.Wnd
