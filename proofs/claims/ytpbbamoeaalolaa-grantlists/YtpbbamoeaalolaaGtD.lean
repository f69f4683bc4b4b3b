/-
  The contract of a table's Drop. Nothing is asked but what each fact names.
-/
import Derived.Test.YtpbbamoeaalolaaGtH
namespace Go.Proofs.Ytpbbamoeaalolaa.Wg
open Go.ChangeShapes Go.WideShapes Go.ChangeAt Go.RowKit Go.Proofs.Ytpbbamoeaalolaa.M Go.Maps

theorem bcell {W w1 : World} (hb : Below W.heap.size W w1) : (∀ b o, b < W.heap.size → w1.cell? ⟨b, o, none⟩ = W.cell? ⟨b, o, none⟩) ∧ (∀ b o, b < W.heap.size → w1.frozen? ⟨b, o, none⟩ = W.frozen? ⟨b, o, none⟩) :=
  ⟨fun b o h => hb.cell (p := ⟨b, o, none⟩) h, fun b o h => hb.frozen (p := ⟨b, o, none⟩) h⟩
/-- A grant in a block of its own. -/
def KAt (w : World) (g : Nat) (k : Ky) (T : Nat) : Prop := w.heap[g]? = some (Obj.cells #[.int .i64 k.1, .string k.2] T (0, 0))
theorem KAt.new (w : World) (k : Ky) (T : Nat) : KAt (w.alloc (.cells #[.int .i64 k.1, .string k.2] T)) w.heap.size k T := heap_alloc_new w _
theorem KAt.c {w : World} {g T : Nat} {k : Ky} (h : KAt w g k T) : w.cell? ⟨g, 0, none⟩ = some (.int .i64 k.1) ∧ w.cell? ⟨g, 1, none⟩ = some (.string k.2) ∧ g < w.heap.size :=
  ⟨blk_cell (l := [.int .i64 k.1, .string k.2]) h rfl, blk_cell (l := [.int .i64 k.1, .string k.2]) h rfl, blk_lt h⟩
theorem KAt.below {w w' : World} {g T : Nat} {k : Ky} (h : KAt w g k T) (b : Below w.heap.size w w') : KAt w' g k T := (b.block g (blk_lt h)).trans h

set_option maxRecDepth 100000 in
set_option maxHeartbeats 400000 in
theorem drop {w : World} {s : Nat} {F : Nat → Prop} {L : List Ky} (h : TbL w s F L) {k : Ky} (hk : KOk k) :
    Calls Try.prog 13 #[.pointer (some ⟨s, 0, none⟩), .agg #[.int .i64 k.1, .string k.2]] w fun e w' => e = .returned (.int .i64 (dropE k L)) ∧ TbL w' s F (dropL k L) ∧ Kept F w w' := by
  have hs := h.lt
  have HA := hid (fun o => has (h.below ((Below.refl _ _).alloc (Nat.le_refl _) o)) hk)
  unfold dropE
  by_cases c : k ∈ L
  · rw [if_pos c]
    rw [decide_eq_true c] at HA
    rcases h.rep with ⟨h1, h2⟩ | ⟨b, D, h1, h2, h3, h4⟩
    · rw [h2] at c; simp at c
    have hb := h3.lt
    have ht := h.t
    have hF := h.fs
    have hK := KAt.new w k 38
    clear h
    go_enter Try.func13, Try.ntmps13
    go_wp2_with fail
    refine (HA.out _).mono ?_
    rintro e w1 ⟨rfl, b1⟩
    have z1 := b1.size
    rw [World.size_alloc] at z1
    have B0 : Below w.heap.size w w1 := ((Below.refl _ _).alloc (Nat.le_refl _) _).trans (b1.mono (by simp))
    obtain ⟨k0, k1, k2⟩ := (hK.below b1).c
    have g1 := (B0.block s hs).trans h1
    have c0 := blk_cell (l := [.map (some b)]) g1 (i := 0) rfl
    obtain ⟨w2, hrun, r1, r2⟩ := (own_at (w' := w1.drew) h3 (B0.block b hb)).drop lawG Try.underlying62 (keyOf_mk hk) 0
    unfold kV at hrun
    have hne : s ≠ b := fun e => by
      obtain ⟨es, cl, q, _⟩ := h3
      rw [← e, h1] at q
      cases q
    have res : Hid (TbL w2 s F (dropL k L) ∧ Kept F w w2) := by
      have gr := r2.grown
      have td := h3.tidy lawG
      have K2 : Kept F w w2 := ⟨gr.os.trans B0.os, gr.tape.trans B0.tape, gr.output.trans B0.output, Nat.le_trans B0.size gr.size, fun i hi hn => (gr.block i (Nat.lt_of_lt_of_le hi B0.size) (fun e => hn (by injection e with e; rw [e]; exact h2))).trans (B0.block i hi)⟩
      have T2 := h4.drop td (rsg_nodup ht.rsg) hk c
      have o2 := own_tight r1
      rw [T2.size] at o2
      exact ⟨⟨ht.drop k, hF, .inr ⟨b, _, (gr.block s (by show s < w1.heap.size; omega) (fun e => hne (by injection e))).trans g1, h2, o2, T2⟩⟩, K2⟩
    clear b1 B0 r1 r2 h1 h3 h4 ht hK HA g1
    go_wp2
    go_region
    all_goals
      go_wp2
      go_ret
      exact ⟨rfl, res.out⟩
  · rw [if_neg c, dropL_none c]
    rw [decide_eq_false c] at HA
    go_enter Try.func13, Try.ntmps13
    go_wp2_with fail
    refine (HA.out _).mono ?_
    rintro e w1 ⟨rfl, b1⟩
    have B0 : Below w.heap.size w w1 := ((Below.refl _ _).alloc (Nat.le_refl _) _).trans (b1.mono (by simp))
    clear b1 HA
    go_wp2
    go_ret
    exact ⟨rfl, h.below B0, .of_below B0⟩

/-- .. of a nil table. -/
theorem dropNil (k : Ky) (w : World) :
    Calls Try.prog 13 #[.pointer none, .agg #[.int .i64 k.1, .string k.2]] w fun e w' => e = .returned (.int .i64 1) ∧ Below w.heap.size w w' := by
  go_enter Try.func13, Try.ntmps13
  go_wp2
  go_ret
  exact ⟨rfl, (Below.refl _ _).alloc (Nat.le_refl _) _⟩

end Go.Proofs.Ytpbbamoeaalolaa.Wg
