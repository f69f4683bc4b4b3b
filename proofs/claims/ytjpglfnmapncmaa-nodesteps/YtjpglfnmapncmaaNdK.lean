/-
  A law's state, what a step is asked with, and the program's state, each in its block: what is known of them behind calls and new blocks.
-/
import Derived.Test.YtjpglfnmapncmaaNdC
import Derived.Test.YtjpglfnmapncmaaNdV
namespace Go.Proofs.Ytjpglfnmapncmaa.Wnd
open Go.ChangeShapes Go.WideShapes Go.ChangeAt Go.RowKit Go.Proofs.Ytjpglfnmapncmaa.M Go.Proofs.Ytjpglfnmapncmaa.Wnv

/-- What is asked, in its block. -/
def Cex (w : World) (b : Nat) (n l y z : Int) (ok : Bool) : Prop := ∃ T, w.heap[b]? = some (.cells #[.int .i64 n, .int .i64 l, .int .i64 y, .int .i64 z, .bool ok] T (0, 0))
theorem Cex.new (w : World) (n l y z : Int) (ok : Bool) (T : TypeId) : Cex (w.alloc (.cells #[.int .i64 n, .int .i64 l, .int .i64 y, .int .i64 z, .bool ok] T)) w.heap.size n l y z ok := ⟨T, heap_new w _⟩
theorem Cex.lt {w : World} {b : Nat} {n l y z : Int} {ok : Bool} (h : Cex w b n l y z ok) : b < w.heap.size := by
  obtain ⟨T, h⟩ := h
  exact heap_lt h
theorem Cex.below {w w' : World} {b : Nat} {n l y z : Int} {ok : Bool} (h : Cex w b n l y z ok) {m : Nat} (B : Below m w w') (hn : b < m) : Cex w' b n l y z ok := by
  obtain ⟨T, h⟩ := h
  exact ⟨T, (B.block b hn).trans h⟩
theorem Cex.al {w : World} {b : Nat} {n l y z : Int} {ok : Bool} (h : Cex w b n l y z ok) (o : Obj) : Cex (w.alloc o) b n l y z ok := h.below ((Below.refl _ _).alloc (Nat.le_refl _) _) h.lt
theorem Cex.cells {w : World} {b : Nat} {n l y z : Int} {ok : Bool} (h : Cex w b n l y z ok) : w.cell? ⟨b, 0, none⟩ = some (.int .i64 n) ∧ w.cell? ⟨b, 1, none⟩ = some (.int .i64 l) ∧ w.cell? ⟨b, 2, none⟩ = some (.int .i64 y) ∧ w.cell? ⟨b, 3, none⟩ = some (.int .i64 z) ∧ w.cell? ⟨b, 4, none⟩ = some (.bool ok) ∧ b < w.heap.size := by
  have hl := h.lt
  obtain ⟨T, h⟩ := h
  refine ⟨?_, ?_, ?_, ?_, ?_, hl⟩
  all_goals simp [World.cell?, h]

theorem Cel.call {w w' : World} {b : Nat} {p t u a : Int} (h : Cel w b p t u a) (B : Below w.heap.size w w') : Cel w' b p t u a := h.below B h.lt

/-- A law's memory: its two arguments, and what it found. -/
structure Kq (W w : World) (S X : Nat) (s : NS) (x : As) : Prop where
  s : Cel w S s.p s.t s.u s.a
  x : Cex w X x.n x.l x.y x.z x.ok
  b : Below W.heap.size W w
theorem Kq.call {W w w' : World} {S X : Nat} {s : NS} {x : As} (h : Kq W w S X s x) (b : Below w.heap.size w w') : Kq W w' S X s x := ⟨h.s.below b h.s.lt, h.x.below b h.x.lt, h.b.trans (b.mono h.b.size)⟩
theorem Kq.al {W w : World} {S X : Nat} {s : NS} {x : As} (h : Kq W w S X s x) (o : Obj) : Kq W (w.alloc o) S X s x := h.call ((Below.refl _ _).alloc (Nat.le_refl _) _)
theorem Kq.drew {W w : World} {S X : Nat} {s : NS} {x : As} (h : Kq W w S X s x) : Kq W w.drew S X s x := ⟨h.s, h.x, h.b.drew⟩
theorem Kq.start (W : World) (s : NS) (x : As) (T U : TypeId) : Kq W ((W.alloc (.cells #[.int .i64 s.p, .int .i64 s.t, .int .i64 s.u, .int .i64 s.a] T)).alloc (.cells #[.int .i64 x.n, .int .i64 x.l, .int .i64 x.y, .int .i64 x.z, .bool x.ok] U)) W.heap.size (W.heap.size + 1) s x := by
  refine ⟨(Cel.new W _ _ _ _ T).al _, ?_, ((Below.refl _ _).alloc (Nat.le_refl _) _).alloc (by simp) _⟩
  have h := Cex.new (W.alloc (.cells #[.int .i64 s.p, .int .i64 s.t, .int .i64 s.u, .int .i64 s.a] T)) x.n x.l x.y x.z x.ok U
  rwa [World.size_alloc] at h
/-- Four numbers put into a block, one by one. -/
abbrev putN (w : World) (C : Nat) (p t u a : Int) : World := (((w.setCell ⟨C, 0, none⟩ (.int .i64 p)).setCell ⟨C, 1, none⟩ (.int .i64 t)).setCell ⟨C, 2, none⟩ (.int .i64 u)).setCell ⟨C, 3, none⟩ (.int .i64 a)
theorem putN_other {w : World} {C b : Nat} (h : C ≠ b) (p t u a : Int) : (putN w C p t u a).heap[b]? = w.heap[b]? := by
  unfold putN
  rw [Below.heap_setCell _ _ _ _ (Ne.symm h), Below.heap_setCell _ _ _ _ (Ne.symm h), Below.heap_setCell _ _ _ _ (Ne.symm h), Below.heap_setCell _ _ _ _ (Ne.symm h)]
theorem Cel.put {w : World} {C : Nat} {q r v b : Int} (h : Cel w C q r v b) (p t u a : Int) : Cel (putN w C p t u a) C p t u a := by
  obtain ⟨T, hc⟩ := h
  refine ⟨T, ?_⟩
  simp [World.setCell, Array.getElem?_modify, hc]
theorem Cel.away {w : World} {B C : Nat} {q r v b : Int} (h : Cel w B q r v b) (hne : C ≠ B) (p t u a : Int) : Cel (putN w C p t u a) B q r v b := by
  obtain ⟨T, hc⟩ := h
  exact ⟨T, (putN_other hne _ _ _ _).trans hc⟩
theorem Kq.put {W w : World} {S X C : Nat} {s : NS} {x : As} (h : Kq W w S X s x) (hs : C ≠ S) (hx : C ≠ X) (hl : W.heap.size ≤ C) (p t u a : Int) : Kq W (putN w C p t u a) S X s x := by
  obtain ⟨T, hc⟩ := h.x
  exact ⟨h.s.away hs _ _ _ _, ⟨T, (putN_other hx _ _ _ _).trans hc⟩, (((h.b.setCell hl _).setCell hl _).setCell hl _).setCell hl _⟩
/-- Two numbers in a block. -/
def Two (w : World) (b : Nat) (y t : Int) : Prop := ∃ T, w.heap[b]? = some (.cells #[.int .i64 y, .int .i64 t] T (0, 0))
theorem Two.new (w : World) (y t : Int) (T : TypeId) : Two (w.alloc (.cells #[.int .i64 y, .int .i64 t] T)) w.heap.size y t := ⟨T, heap_new w _⟩
theorem Two.lt {w : World} {b : Nat} {y t : Int} (h : Two w b y t) : b < w.heap.size := by
  obtain ⟨T, h⟩ := h
  exact heap_lt h
theorem Two.call {w w' : World} {b : Nat} {y t : Int} (h : Two w b y t) (B : Below w.heap.size w w') : Two w' b y t := by
  have hl := h.lt
  obtain ⟨T, h⟩ := h
  exact ⟨T, (B.block b hl).trans h⟩
theorem Two.away {w : World} {B C : Nat} {y t : Int} (h : Two w B y t) (hne : C ≠ B) (q r v b : Int) : Two (putN w C q r v b) B y t := by
  obtain ⟨T, hc⟩ := h
  exact ⟨T, (putN_other hne _ _ _ _).trans hc⟩
theorem Two.at {w : World} {b : Nat} {y t : Int} (h : Two w b y t) {k : Nat} (hk : k < 2) : ∃ r, (r = y ∨ r = t) ∧ w.cell? ⟨b, k, none⟩ = some (.int .i64 r) := by
  obtain ⟨T, h⟩ := h
  rcases (show k = 0 ∨ k = 1 by omega) with rfl | rfl
  · exact ⟨y, .inl rfl, by simp [World.cell?, h]⟩
  · exact ⟨t, .inr rfl, by simp [World.cell?, h]⟩
end Go.Proofs.Ytjpglfnmapncmaa.Wnd
