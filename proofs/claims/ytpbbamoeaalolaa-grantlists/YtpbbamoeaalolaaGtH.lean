/-
  The contract of a table's Has. Nothing is asked but what each fact names.
-/
import Derived.Test.YtpbbamoeaalolaaGtW
namespace Go.Proofs.Ytpbbamoeaalolaa.Wg
open Go.ChangeShapes Go.WideShapes Go.ChangeAt Go.RowKit Go.Proofs.Ytpbbamoeaalolaa.M Go.Maps

theorem heap_alloc_new (w : World) (o : Obj) : (w.alloc o).heap[w.heap.size]? = some o := (MapKept.heap_alloc w o).1
theorem heap_alloc_old (w : World) (o : Obj) {g : Nat} (h : g < w.heap.size) : (w.alloc o).heap[g]? = w.heap[g]? := (MapKept.heap_alloc w o).2 g h

set_option maxRecDepth 100000 in
set_option maxHeartbeats 400000 in
theorem has {w : World} {s : Nat} {F : Nat → Prop} {L : List Ky} (h : TbL w s F L) {k : Ky} (hk : KOk k) :
    Calls Try.prog 18 #[.pointer (some ⟨s, 0, none⟩), .agg #[.int .i64 k.1, .string k.2]] w fun e w' => e = .returned (.bool (decide (k ∈ L))) ∧ Below w.heap.size w w' := by
  have hs := h.lt
  rcases h.rep with ⟨h1, h2⟩ | ⟨b, D, h1, h2, h3, h4⟩
  · have c0 := blk_cell (l := [.map none]) h1 (i := 0) rfl
    have HL : ∀ W, _ := fun W => look_nil' W hk
    have e : decide (k ∈ L) = false := by rw [h2]; rfl
    rw [e]
    clear h h1 h2 e
    go_enter Try.func18, Try.ntmps18
    go_wp2
    go_region
    all_goals
      go_wp2
      go_ret
      exact ⟨rfl, (((Below.refl _ _).alloc (Nat.le_refl _) _).alloc (by simp) _).drew⟩
  · have c0 := blk_cell (l := [.map (some b)]) h1 (i := 0) rfl
    have hb := h3.lt
    have e := h4.has k hk
    generalize decide (k ∈ L) = r at e ⊢
    have H0 : ∀ o, (Instr.lookup 62 (.map (some b)) (.agg #[.int .i64 k.1, .string k.2]) true).run Try.prog (w.alloc o).drew = .ok (.tuple #[.agg #[], .bool r]) (w.alloc o).drew := fun o => by
      have := look_any (W := (w.alloc o).drew) h3 (heap_alloc_old w o hb) hk
      rw [e] at this
      exact this
    have H1 : ∀ o o', (Instr.lookup 62 (.map (some b)) (.agg #[.int .i64 k.1, .string k.2]) true).run Try.prog ((w.alloc o).alloc o').drew = .ok (.tuple #[.agg #[], .bool r]) ((w.alloc o).alloc o').drew := fun o o' => by
      have := look_any (W := ((w.alloc o).alloc o').drew) h3 ((heap_alloc_old (w.alloc o) o' (by simp; omega)).trans (heap_alloc_old w o hb)) hk
      rw [e] at this
      exact this
    clear h h1 h2 e h3 h4
    go_enter Try.func18, Try.ntmps18
    go_wp2
    go_region
    all_goals
      go_wp2
      go_ret
      exact ⟨rfl, (((Below.refl _ _).alloc (Nat.le_refl _) _).alloc (by simp) _).drew⟩

/-- .. of a nil table. -/
theorem hasNil (k : Ky) (w : World) :
    Calls Try.prog 18 #[.pointer none, .agg #[.int .i64 k.1, .string k.2]] w fun e w' => e = .returned (.bool false) ∧ Below w.heap.size w w' := by
  go_enter Try.func18, Try.ntmps18
  go_wp2
  go_ret
  exact ⟨rfl, (Below.refl _ _).alloc (Nat.le_refl _) _⟩

end Go.Proofs.Ytpbbamoeaalolaa.Wg
