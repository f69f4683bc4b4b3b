/-
  The contracts of compareKeys and of the two closures that compare edges. Nothing is asked but what each fact names.
-/
import Derived.Test.YtpbbamoeaalolaaGtL
import Derived.Sort.Grow
namespace Go.Proofs.Ytpbbamoeaalolaa.Wg
open Go.ChangeShapes Go.WideShapes Go.ChangeAt Go.RowKit Go.Proofs.Ytpbbamoeaalolaa.M Go.Sort

theorem cell_new {w : World} {cs : Array Value} {T B i : Nat} {v : Value} (hB : w.heap.size = B) (h : cs[i]? = some v) : (w.alloc (.cells cs T)).cell? ⟨B, i, none⟩ = some v := by
  subst hB
  unfold World.cell?
  rw [(MapKept.heap_alloc w _).1]
  exact h
theorem cell_newD {w : World} {cs : Array Value} {T B i : Nat} {v : Value} (hB : w.heap.size = B) (h : cs[i]? = some v) : (w.alloc (.cells cs T)).drew.cell? ⟨B, i, none⟩ = some v := cell_new hB h

set_option maxRecDepth 100000 in
theorem byFirst (x y : Ed) (w : World) : Calls Try.prog 39 #[.agg #[.int .i64 x.1, .int .i64 x.2], .agg #[.int .i64 y.1, .int .i64 y.2]] w fun e w' => e = .returned (.int .i64 (Lib.compareInt x.1 y.1)) ∧ ∃ q os', w' = grow (w.drewN q) os' := by
  have C : Hid _ := fun W => cmpInt x.1 y.1 W
  generalize Lib.compareInt x.1 y.1 = r at C
  go_enter Try.func39, Try.ntmps39
  go_wp2_with (go_at_call 36; refine (C.out _).mono ?_; rintro e w' ⟨rfl, rfl⟩)
  go_ret
  exact ⟨rfl, 0, _, by rw [alloc_eq_grow, alloc_eq_grow, grow_grow]; rfl⟩

set_option maxRecDepth 100000 in
theorem toNumber (x : Ed) (n : Int) (w : World) : Calls Try.prog 41 #[.agg #[.int .i64 x.1, .int .i64 x.2], .int .i64 n] w fun e w' => e = .returned (.int .i64 (Lib.compareInt x.1 n)) ∧ Below w.heap.size w w' := by
  have C : Hid _ := fun W => cmpInt x.1 n W
  generalize Lib.compareInt x.1 n = r at C
  go_enter Try.func41, Try.ntmps41
  go_wp2_with (go_at_call 36; refine (C.out _).mono ?_; rintro e w' ⟨rfl, rfl⟩)
  go_ret
  exact ⟨rfl, (Below.refl _ _).alloc (Nat.le_refl _) _⟩

set_option maxRecDepth 100000 in
set_option maxHeartbeats 800000 in
theorem compareKeys (x y : Ky) (w : World) : Calls Try.prog 26 #[.agg #[.int .i64 x.1, .string x.2], .agg #[.int .i64 y.1, .string y.2]] w fun e w' => e = .returned (.int .i64 (kcf x y)) ∧ ∃ q os', w' = grow (w.drewN q) os' := by
  have C1 : Hid _ := hid fun W => cmpInt x.1 y.1 W
  have C2 : Hid _ := hid fun W => cmpStr x.2 y.2 W
  unfold kcf
  generalize Lib.compareInt x.1 y.1 = r at C1 ⊢
  generalize Lib.compareBytes x.2.data.toList y.2.data.toList = q at C2 ⊢
  have C3 : Hid _ := hid fun g W h0 h1 => or2 g r q W h0 h1
  generalize (if r = 0 then q else r) = R at C3 ⊢
  go_enter Try.func26, Try.ntmps26
  go_wp2
  go_region_held3 (fun W => W.cell? ⟨w.heap.size, 0, none⟩ = some (.int .i64 x.1) ∧ W.cell? ⟨w.heap.size, 1, none⟩ = some (.string x.2) ∧ W.cell? ⟨w.heap.size + 1, 0, none⟩ = some (.int .i64 y.1) ∧ W.cell? ⟨w.heap.size + 1, 1, none⟩ = some (.string y.2))
    (go_keep)
    (first | (go_at_call 36; refine (C1.out _).mono ?_; rintro e w' ⟨rfl, rfl⟩) | (go_at_call 37; refine (C2.out _).mono ?_; rintro e w' ⟨rfl, rfl⟩) | (go_at_call 35; refine (C3.out _ _ (cell_newD (by simp) rfl) (cell_newD (by simp) rfl)).mono ?_; rintro e w' ⟨rfl, rfl⟩))
  all_goals
    go_wp2
    go_ret
    exact ⟨rfl, 1, _, by rw [alloc_eq_grow, alloc_eq_grow, alloc_eq_grow, grow_grow, grow_grow]; rfl⟩

end Go.Proofs.Ytpbbamoeaalolaa.Wg
