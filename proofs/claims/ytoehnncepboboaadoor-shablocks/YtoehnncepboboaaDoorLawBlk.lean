/-
  The walk of the law ShaBlocks: it returns true, and nothing that was in memory has turned. Conditions: the state has eight words, the block 64 bytes; the table of the rounds' numbers holds what it was laid with.
-/
import Derived.Test.YtoehnncepboboaaDoorRows
import Derived.Test.YtoehnncepboboaaDoorSRt
import Derived.Test.YtoehnncepboboaaDoorSRefB
import Derived.Test.YtoehnncepboboaaDoorSSum
import Derived.Test.YtoehnncepboboaaDoorEq8
import Derived.WalkKit
import Derived.ProofKit
import Derived.OpenShut
import Derived.Deep.RegionHeld3
namespace Go.Proofs.YtoehnncepboboaaDoor.Wh
open Go.ChangeShapes Go.WideShapes Go.ChangeAt Go.RowKit Go.Proofs.YtoehnncepboboaaDoor.M

/-- The state and the block lie where they were laid; the table stands. -/
def IB (w : World) (s : List Nat) (b : List Value) (W : World) : Prop := W.heap[w.heap.size]? = some (.cells (c32 s) 26 (0, 0)) ∧ W.heap[w.heap.size + 1]? = some (.cells b.toArray 27 (0, 0)) ∧ Below w.heap.size w W ∧ Tab W
theorem IB.drew {w W : World} {s : List Nat} {b : List Value} (h : IB w s b W) : IB w s b W.drew := ⟨h.1, h.2.1, h.2.2.1.drew, h.2.2.2⟩
theorem IB.below {w W W' : World} {s : List Nat} {b : List Value} (h : IB w s b W) (hb : Below W.heap.size W W') : IB w s b W' := by
  obtain ⟨h1, h2, h3, h4⟩ := h
  have K : ∀ {k : Nat} {o : Obj}, W.heap[k]? = some o → W'.heap[k]? = some o := fun hk => (hb.block _ (Array.getElem?_eq_some_iff.1 hk).1).trans hk
  exact ⟨K h1, K h2, h3.trans (hb.mono h3.size), h4.below hb h4.pos⟩
theorem IB.words {w W : World} {s : List Nat} {b : List Value} (h : IB w s b W) : W.rangeAt w.heap.size 0 (s.map fun n : Nat => Value.int .u32 (n : Int)) := fun j v hv => by
  rw [cell_of_row W w.heap.size (0 + j) _ _ _ h.1, Nat.zero_add]
  unfold c32
  simpa using hv
theorem IB.bytes {w W : World} {s : List Nat} {b : List Value} (h : IB w s b W) : W.rangeAt (w.heap.size + 1) 0 b := fun j v hv => by
  rw [cell_of_row W (w.heap.size + 1) (0 + j) _ _ _ h.2.1, Nat.zero_add]
  simpa using hv

set_option maxRecDepth 100000 in
set_option maxHeartbeats 1000000 in
theorem blocksAt (s : List Nat) (b : List Value) (R : List Nat) (w : World) (hs : s.length = 8) (hl : b.length = 64) (hR : R.length = 8) (hT : Hid (Tab w))
    (C1 : Hid (∀ W, IB w s b W → Calls Tryd.prog 9 #[] W fun e_ w' => e_ = .returned (.agg (c32 beg)) ∧ IB w s b w'))
    (C2 : Hid (∀ W, IB w s b W → Calls Tryd.prog 10 #[.agg (s.map fun n : Nat => Value.int .u32 (n : Int)).toArray, .agg b.toArray] W fun e_ w' => e_ = .returned (.agg (c32 R)) ∧ IB w s b w'))
    (C3 : Hid (∀ W, IB w s b W → Calls Tryd.prog 12 #[] W fun e_ w' => e_ = .returned (.agg (c32 rns)) ∧ IB w s b w'))
    (C4 : Hid (∀ W, IB w s b W → Calls Tryd.prog 11 #[.agg (c32 rns), .agg (s.map fun n : Nat => Value.int .u32 (n : Int)).toArray, .agg b.toArray] W fun e_ w' => e_ = .returned (.agg (c32 R)) ∧ IB w s b w')) :
    Calls Tryd.prog 4 #[.agg (c32 s), .agg b.toArray] w fun e w' => e = .returned (.bool true) ∧ Below w.heap.size w w' := by
  have hI : Hid (IB w s b ((w.alloc (.cells (c32 s) 26)).alloc (.cells b.toArray 27))) :=
    ⟨heap_alloc2_old w _ _, heap_alloc2_new w _ _, ((Below.refl _ _).alloc (Nat.le_refl _) _).alloc (by simp) _, hT.out.below (((Below.refl w.heap.size w).alloc (Nat.le_refl _) _).alloc (by simp) _) hT.out.pos⟩
  have heq := eqStates R hR
  have hx0 : ∀ u, (Instr.index 28 (.agg (c32 beg)) (.int .i64 0)).run Tryd.prog u = .ok (.int .u32 1779033703) u := fun u => run_index Tryd.underlying28 beg 0 (by decide) beg_len u
  have i8 : Hid ((Tryd.prog.info? 26).map (·.size) = some (s.map fun n : Nat => Value.int .u32 (n : Int)).length) := by rw [List.length_map, hs]; exact info8a
  have i64 : Hid ((Tryd.prog.info? 27).map (·.size) = some b.length) := by rw [hl]; exact info64b
  clear hR hs hl hT
  go_enter Tryd.func4, Tryd.ntmps4
  go_wp2
  refine wp_region_held_drew (S := IB w s b) (by kernel_rfl) (IB.drew hI.out) (fun hH => ?_)
  refine wpAnyH_ready (rs := [0]) (by kernel_rfl) (by simp) ?_
  refine AllReadyH.cons rfl (fun K hK => ?_) AllReadyH.nil
  go_simp
  refine (C1.out _ hH).mono ?_
  rintro e_ w1 ⟨rfl, hI1⟩
  refine hK.out _ _ hI1 (fun hH1 => ?_)
  clear hK K
  refine wpAnyH_take (i := 1) (v := .int .u32 1779033703) rfl (by kernel_rfl) (by kernel_rfl) (by kernel_rfl) (fun _ _ _ h => h) (Or.inl ⟨by rfl, by (intro w hSw; clear hSw; go_simp)⟩) hH1 ?_
  refine wpAnyH_take (i := 2) (v := .bool true) rfl (by kernel_rfl) (by kernel_rfl) (by kernel_rfl) (fun _ _ _ h => h) (Or.inl ⟨by rfl, by (intro w hSw; clear hSw; go_simp)⟩) hH1 ?_
  refine wpAnyH_take (i := 3) (v := .bool true) rfl (by kernel_rfl) (by kernel_rfl) (by kernel_rfl) (fun _ _ _ h => h) (Or.inl ⟨by rfl, by (intro w hSw; clear hSw; go_simp)⟩) hH1 ?_
  refine wpAnyH_take (i := 4) rfl (by kernel_rfl) (by kernel_rfl) (by kernel_rfl) (fun _ _ _ h => h) (yieldsIf_load_mid (by rfl) 26 _ rfl (w.heap.size) 0 rfl (s.map fun n : Nat => Value.int .u32 (n : Int)) _ (fun W hW => IB.words hW) Tryd.underlying26 rfl i8.out) hH1 ?_
  refine wpAnyH_take (i := 5) rfl (by kernel_rfl) (by kernel_rfl) (by kernel_rfl) (fun _ _ _ h => h) (yieldsIf_load_mid (by rfl) 27 _ rfl (w.heap.size + 1) 0 rfl b _ (fun W hW => IB.bytes hW) Tryd.underlying27 rfl i64.out) hH1 ?_
  refine wpAnyH_take (i := 8) rfl (by kernel_rfl) (by kernel_rfl) (by kernel_rfl) (fun _ _ _ h => h) (yieldsIf_load_mid (by rfl) 26 _ rfl (w.heap.size) 0 rfl (s.map fun n : Nat => Value.int .u32 (n : Int)) _ (fun W hW => IB.words hW) Tryd.underlying26 rfl i8.out) hH1 ?_
  refine wpAnyH_take (i := 9) rfl (by kernel_rfl) (by kernel_rfl) (by kernel_rfl) (fun _ _ _ h => h) (yieldsIf_load_mid (by rfl) 27 _ rfl (w.heap.size + 1) 0 rfl b _ (fun W hW => IB.bytes hW) Tryd.underlying27 rfl i64.out) hH1 ?_
  refine wpAnyH_ready (rs := [6]) (by kernel_rfl) (by simp) ?_
  refine AllReadyH.cons rfl (fun K hK => ?_) AllReadyH.nil
  go_simp
  refine (C2.out _ hH1).mono ?_
  rintro e_ w2 ⟨rfl, hI2⟩
  refine hK.out _ _ hI2 (fun hH2 => ?_)
  clear hK K
  refine wpAnyH_ready (rs := [7]) (by kernel_rfl) (by simp) ?_
  refine AllReadyH.cons rfl (fun K hK => ?_) AllReadyH.nil
  go_simp
  refine (C3.out _ hH2).mono ?_
  rintro e_ w3 ⟨rfl, hI3⟩
  refine hK.out _ _ hI3 (fun hH3 => ?_)
  clear hK K
  refine wpAnyH_ready (rs := [10]) (by kernel_rfl) (by simp) ?_
  refine AllReadyH.cons rfl (fun K hK => ?_) AllReadyH.nil
  go_simp
  refine (C4.out _ hH3).mono ?_
  rintro e_ w4 ⟨rfl, hI4⟩
  refine hK.out _ _ hI4 (fun hH4 => ?_)
  clear hK K
  refine wpAnyH_take (i := 11) (v := .bool true) rfl (by kernel_rfl) (by kernel_rfl) (by kernel_rfl) (fun _ _ _ h => h) (Or.inl ⟨by rfl, by (intro w hSw; clear hSw; go_simp)⟩) hH4 ?_
  refine wpAnyH_take (i := 12) (v := .bool true) rfl (by kernel_rfl) (by kernel_rfl) (by kernel_rfl) (fun _ _ _ h => h) (Or.inl ⟨by rfl, by (intro w hSw; clear hSw; go_simp)⟩) hH4 ?_
  refine wpAnyH_take (i := 13) (v := .bool true) rfl (by kernel_rfl) (by kernel_rfl) (by kernel_rfl) (fun _ _ _ h => h) (Or.inl ⟨by rfl, by (intro w hSw; clear hSw; go_simp)⟩) hH4 ?_
  refine wpAnyH_done (by kernel_rfl) ?_ _
  go_simp
  go_wp2
  go_ret
  exact ⟨rfl, hI4.2.2.1⟩

theorem blocks (s b : List Nat) (w : World) (hs : s.length = 8) (hW : W32 s) (hl : b.length = 64) (hb : ∀ i, b.getD i 0 < 256) (hT : Tab w) :
    Calls Tryd.prog 4 #[.agg (c32 s), .agg (c8 b)] w fun e w' => e = .returned (.bool true) ∧ Below w.heap.size w w' :=
  blocksAt s (b.map fun n : Nat => Value.int .u8 (n : Int)) (blk rns s b) w hs (by rw [List.length_map, hl]) (blk_len rns s b hs) hT
    (fun W hW' => (begin_ W).mono fun _ _ ⟨h1, h2⟩ => ⟨h1, hW'.below h2⟩)
    (fun W hW' => (block s b W hs hW hl hb hW'.2.2.2).mono fun _ _ ⟨h1, h2⟩ => ⟨h1, hW'.below h2⟩)
    (fun W hW' => (byRoots W).mono fun _ _ ⟨h1, h2⟩ => ⟨h1, hW'.below h2⟩)
    (fun W hW' => (blockRef rns s b W rns_len hs hW hl hb).mono fun _ _ ⟨h1, h2⟩ => ⟨h1, hW'.below h2⟩)

end Go.Proofs.YtoehnncepboboaaDoor.Wh
