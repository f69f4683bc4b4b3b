/-
  The walk of the law ShaPads: it returns true, and nothing that was in memory has turned. Conditions: none but that each number fits its kind.
-/
import Derived.Test.YtoehnncepboboaaRows
import Derived.Test.YtoehnncepboboaaSPad
import Derived.Test.YtoehnncepboboaaEq8
import Derived.WalkKit
import Derived.ProofKit
import Derived.OpenShut
import Derived.Deep.RegionHeld3
namespace Go.Proofs.Ytoehnncepboboaa.Wh
open Go.ChangeShapes Go.WideShapes Go.ChangeAt Go.RowKit Go.Proofs.Ytoehnncepboboaa.M

/-- A block holds eight words; nothing below it has turned. -/
def Inv (w0 : World) (b t : Nat) (l : List Nat) (w : World) : Prop := w.heap[b]? = some (.cells (c32 l) t (0, 0)) ∧ w0.heap.size ≤ b ∧ Below w0.heap.size w0 w
theorem Inv.drew {w0 w : World} {b t : Nat} {l : List Nat} (h : Inv w0 b t l w) : Inv w0 b t l w.drew := ⟨h.1, h.2.1, h.2.2.drew⟩
theorem Inv.below {w0 w w' : World} {b t : Nat} {l : List Nat} (h : Inv w0 b t l w) (hb : Below w.heap.size w w') : Inv w0 b t l w' :=
  ⟨(hb.block b (Array.getElem?_eq_some_iff.1 h.1).1).trans h.1, h.2.1, h.2.2.trans (hb.mono h.2.2.size)⟩
theorem Inv.cells {w0 w : World} {p t a b c d e f g h : Nat} (k : Inv w0 p t [a, b, c, d, e, f, g, h] w) :
    w.cell? ⟨p, 0, none⟩ = some (.int .u32 (a : Int)) ∧ w.cell? ⟨p, 1, none⟩ = some (.int .u32 (b : Int)) ∧ w.cell? ⟨p, 2, none⟩ = some (.int .u32 (c : Int)) ∧ w.cell? ⟨p, 3, none⟩ = some (.int .u32 (d : Int)) ∧
    w.cell? ⟨p, 4, none⟩ = some (.int .u32 (e : Int)) ∧ w.cell? ⟨p, 5, none⟩ = some (.int .u32 (f : Int)) ∧ w.cell? ⟨p, 6, none⟩ = some (.int .u32 (g : Int)) ∧ w.cell? ⟨p, 7, none⟩ = some (.int .u32 (h : Int)) := by
  have K : ∀ j, w.cell? ⟨p, j, none⟩ = (c32 [a, b, c, d, e, f, g, h])[j]? := fun j => cell_of_row w p j _ _ _ k.1
  exact ⟨K 0, K 1, K 2, K 3, K 4, K 5, K 6, K 7⟩

set_option maxHeartbeats 4000000 in
theorem padsAt (n a b c d e f g h : Nat) (P T : ByteArray) (w : World)
    (C1 : Hid (∀ W, Inv w w.heap.size 24 [a, b, c, d, e, f, g, h] W → Calls Try.prog 4 #[] W fun e_ w' => e_ = .returned (.agg (c32 beg)) ∧ Inv w w.heap.size 24 [a, b, c, d, e, f, g, h] w'))
    (C2 : Hid (∀ W, Inv w w.heap.size 24 [a, b, c, d, e, f, g, h] W → Calls Try.prog 5 #[] W fun e_ w' => e_ = .returned (.agg (c32 beg)) ∧ Inv w w.heap.size 24 [a, b, c, d, e, f, g, h] w'))
    (C3 : Hid (∀ W, Inv w w.heap.size 24 [a, b, c, d, e, f, g, h] W → Calls Try.prog 6 #[.int .u64 (n : Int)] W fun e_ w' => e_ = .returned (.string P) ∧ Inv w w.heap.size 24 [a, b, c, d, e, f, g, h] w'))
    (C4 : Hid (∀ W, Inv w w.heap.size 24 [a, b, c, d, e, f, g, h] W → Calls Try.prog 7 #[.int .u64 (n : Int)] W fun e_ w' => e_ = .returned (.string P) ∧ Inv w w.heap.size 24 [a, b, c, d, e, f, g, h] w'))
    (C5 : Hid (∀ W, Inv w w.heap.size 24 [a, b, c, d, e, f, g, h] W → Calls Try.prog 8 #[.agg (c32 [a, b, c, d, e, f, g, h])] W fun e_ w' => e_ = .returned (.string T) ∧ Inv w w.heap.size 24 [a, b, c, d, e, f, g, h] w'))
    (C6 : Hid (∀ W, Inv w w.heap.size 24 [a, b, c, d, e, f, g, h] W → Calls Try.prog 9 #[.agg (c32 [a, b, c, d, e, f, g, h])] W fun e_ w' => e_ = .returned (.string T) ∧ Inv w w.heap.size 24 [a, b, c, d, e, f, g, h] w')) :
    Calls Try.prog 3 #[.int .u64 (n : Int), .agg (c32 [a, b, c, d, e, f, g, h])] w fun e w' => e = .returned (.bool true) ∧ Below w.heap.size w w' := by
  have hI : Inv w w.heap.size 24 [a, b, c, d, e, f, g, h] (w.alloc (.cells (c32 [a, b, c, d, e, f, g, h]) 24)) := ⟨heap_alloc_new w _, Nat.le_refl _, (Below.refl _ _).alloc (Nat.le_refl _) _⟩
  have heq := eqStates beg beg_len
  go_enter Try.func3, Try.ntmps3
  go_wp2
  go_region_held3 (fun w' => w'.cell? ⟨w.heap.size, 0, none⟩ = some (.int .u32 (a : Int)) ∧ w'.cell? ⟨w.heap.size, 1, none⟩ = some (.int .u32 (b : Int)) ∧ w'.cell? ⟨w.heap.size, 2, none⟩ = some (.int .u32 (c : Int)) ∧ w'.cell? ⟨w.heap.size, 3, none⟩ = some (.int .u32 (d : Int)) ∧ w'.cell? ⟨w.heap.size, 4, none⟩ = some (.int .u32 (e : Int)) ∧ w'.cell? ⟨w.heap.size, 5, none⟩ = some (.int .u32 (f : Int)) ∧ w'.cell? ⟨w.heap.size, 6, none⟩ = some (.int .u32 (g : Int)) ∧ w'.cell? ⟨w.heap.size, 7, none⟩ = some (.int .u32 (h : Int)))
    (first | exact Inv.cells (by assumption) | exact Inv.cells (Inv.drew (by assumption)) | exact Inv.cells (Inv.drew (Inv.drew (by assumption))) | go_keep)
    (first
      | (go_at_call 4; refine (C1.out _ ?_).mono ?_; (first | assumption | exact Inv.drew (by assumption) | exact Inv.drew (Inv.drew (by assumption)) | exact Inv.drew (Inv.drew (Inv.drew (by assumption)))); rintro e_ w1 ⟨rfl, hI⟩)
      | (go_at_call 5; refine (C2.out _ ?_).mono ?_; (first | assumption | exact Inv.drew (by assumption) | exact Inv.drew (Inv.drew (by assumption)) | exact Inv.drew (Inv.drew (Inv.drew (by assumption)))); rintro e_ w1 ⟨rfl, hI⟩)
      | (go_at_call 6; refine (C3.out _ ?_).mono ?_; (first | assumption | exact Inv.drew (by assumption) | exact Inv.drew (Inv.drew (by assumption)) | exact Inv.drew (Inv.drew (Inv.drew (by assumption)))); rintro e_ w1 ⟨rfl, hI⟩)
      | (go_at_call 7; refine (C4.out _ ?_).mono ?_; (first | assumption | exact Inv.drew (by assumption) | exact Inv.drew (Inv.drew (by assumption)) | exact Inv.drew (Inv.drew (Inv.drew (by assumption)))); rintro e_ w1 ⟨rfl, hI⟩)
      | (go_at_call 8; refine (C5.out _ ?_).mono ?_; (first | assumption | exact Inv.drew (by assumption) | exact Inv.drew (Inv.drew (by assumption)) | exact Inv.drew (Inv.drew (Inv.drew (by assumption)))); rintro e_ w1 ⟨rfl, hI⟩)
      | (go_at_call 9; refine (C6.out _ ?_).mono ?_; (first | assumption | exact Inv.drew (by assumption) | exact Inv.drew (Inv.drew (by assumption)) | exact Inv.drew (Inv.drew (Inv.drew (by assumption)))); rintro e_ w1 ⟨rfl, hI⟩))
  all_goals (go_wp2; go_ret; exact ⟨rfl, hI.2.2⟩)

theorem pads (n : Nat) (l : List Nat) (w : World) (hn : n < 18446744073709551616) (hl : l.length = 8) (hW : W32 l) :
    Calls Try.prog 3 #[.int .u64 (n : Int), .agg (c32 l)] w fun e w' => e = .returned (.bool true) ∧ Below w.heap.size w w' := by
  obtain ⟨a, b, c, d, e, f, g, h, rfl⟩ := eight hl
  exact padsAt n a b c d e f g h (pdB n) (txB [a, b, c, d, e, f, g, h] 8) w
    (fun W hW' => (begin_ W).mono fun _ _ ⟨h1, h2⟩ => ⟨h1, hW'.below h2⟩)
    (fun W hW' => (beginRef W).mono fun _ _ ⟨h1, h2⟩ => ⟨h1, hW'.below h2⟩)
    (fun W hW' => (pad n W).mono fun _ _ ⟨h1, h2⟩ => ⟨h1, hW'.below h2⟩)
    (fun W hW' => (padRef n W hn).mono fun _ _ ⟨h1, h2⟩ => ⟨h1, hW'.below h2⟩)
    (fun W hW' => (text _ W hl hW).mono fun _ _ ⟨h1, h2⟩ => ⟨h1, hW'.below h2⟩)
    (fun W hW' => (textRef _ W hl hW).mono fun _ _ ⟨h1, h2⟩ => ⟨h1, hW'.below h2⟩)

end Go.Proofs.Ytoehnncepboboaa.Wh
