/-
  The walk of the document's Roots: it returns the table 'rns'. Conditions: none.
-/
import Derived.Test.YtkelipedpjmmaaaDoorRows
import Derived.Test.YtkelipedpjmmaaaDoorSRefB
import Derived.WalkKit
import Derived.ProofKit
import Derived.OpenShut
namespace Go.Proofs.YtkelipedpjmmaaaDoor.Wh
open Go.ChangeShapes Go.WideShapes Go.ChangeAt Go.RowKit Go.Proofs.YtkelipedpjmmaaaDoor.M

theorem build_as {P : Program} {ops : Array Oper} {rest : List Oper} {o : Oper} {a : Act} {w : World} {Q : Exit → Act → World → Prop} (hg : o.guard = none) (t : TypeId) (parts : Array (Nat × Operand)) (ho : o.op = .build t parts) (cells : Array Value)
    (hb : P.built t (parts.map fun (i, x) => (i, a.eval x)).toList = some cells) (h : wpList P ops Q rest (a.put o.dst (.agg cells)) w) : wpList P ops Q (o :: rest) a w :=
  wpList_build hg t parts ho (by rw [hb]; rfl) (by rw [hb]; exact h)

set_option maxRecDepth 100000 in
theorem built_roots (a : Act) : Tryd.prog.built 74 ((#[(0, Operand.const (.int .u32 1116352408)), (1, Operand.const (.int .u32 1899447441)), (2, Operand.const (.int .u32 3049323471)), (3, Operand.const (.int .u32 3921009573)), (4, Operand.const (.int .u32 961987163)), (5, Operand.const (.int .u32 1508970993)), (6, Operand.const (.int .u32 2453635748)), (7, Operand.const (.int .u32 2870763221)), (8, Operand.const (.int .u32 3624381080)), (9, Operand.const (.int .u32 310598401)), (10, Operand.const (.int .u32 607225278)), (11, Operand.const (.int .u32 1426881987)), (12, Operand.const (.int .u32 1925078388)), (13, Operand.const (.int .u32 2162078206)), (14, Operand.const (.int .u32 2614888103)), (15, Operand.const (.int .u32 3248222580)), (16, Operand.const (.int .u32 3835390401)), (17, Operand.const (.int .u32 4022224774)), (18, Operand.const (.int .u32 264347078)), (19, Operand.const (.int .u32 604807628)), (20, Operand.const (.int .u32 770255983)), (21, Operand.const (.int .u32 1249150122)), (22, Operand.const (.int .u32 1555081692)), (23, Operand.const (.int .u32 1996064986)), (24, Operand.const (.int .u32 2554220882)), (25, Operand.const (.int .u32 2821834349)), (26, Operand.const (.int .u32 2952996808)), (27, Operand.const (.int .u32 3210313671)), (28, Operand.const (.int .u32 3336571891)), (29, Operand.const (.int .u32 3584528711)), (30, Operand.const (.int .u32 113926993)), (31, Operand.const (.int .u32 338241895)), (32, Operand.const (.int .u32 666307205)), (33, Operand.const (.int .u32 773529912)), (34, Operand.const (.int .u32 1294757372)), (35, Operand.const (.int .u32 1396182291)), (36, Operand.const (.int .u32 1695183700)), (37, Operand.const (.int .u32 1986661051)), (38, Operand.const (.int .u32 2177026350)), (39, Operand.const (.int .u32 2456956037)), (40, Operand.const (.int .u32 2730485921)), (41, Operand.const (.int .u32 2820302411)), (42, Operand.const (.int .u32 3259730800)), (43, Operand.const (.int .u32 3345764771)), (44, Operand.const (.int .u32 3516065817)), (45, Operand.const (.int .u32 3600352804)), (46, Operand.const (.int .u32 4094571909)), (47, Operand.const (.int .u32 275423344)), (48, Operand.const (.int .u32 430227734)), (49, Operand.const (.int .u32 506948616)), (50, Operand.const (.int .u32 659060556)), (51, Operand.const (.int .u32 883997877)), (52, Operand.const (.int .u32 958139571)), (53, Operand.const (.int .u32 1322822218)), (54, Operand.const (.int .u32 1537002063)), (55, Operand.const (.int .u32 1747873779)), (56, Operand.const (.int .u32 1955562222)), (57, Operand.const (.int .u32 2024104815)), (58, Operand.const (.int .u32 2227730452)), (59, Operand.const (.int .u32 2361852424)), (60, Operand.const (.int .u32 2428436474)), (61, Operand.const (.int .u32 2756734187)), (62, Operand.const (.int .u32 3204031479)), (63, Operand.const (.int .u32 3329325298))] : Array (Nat × Operand)).map fun (i, x) => (i, a.eval x)).toList = some (c32 rns) := by
  kernel_rfl

set_option maxRecDepth 100000 in
theorem roots (w : World) :
    Calls Tryd.prog 35 #[] w fun e w' => e = .returned (.agg (c32 rns)) ∧ Below w.heap.size w w' := by
  have i2 : Hid ((Tryd.prog.info? 74).map (·.size) = some (c32 rns).size) := by rw [c32_size, rns_len]; exact info64w
  have hs : Hid ((c32 (List.replicate 64 0)).size = (c32 rns).size) := by rw [c32_size, c32_size]; rfl
  go_enter Tryd.func35, Tryd.ntmps35
  go_wp2_with (first
    | (refine build_as rfl 74 _ rfl (c32 rns) (built_roots _) ?_)
    | (refine store_new rfl 74 _ _ rfl w.heap.size rfl (c32 rns) rfl rfl (c32 (List.replicate 64 0)) i2.out hs.out (c32_one _) ?_))
  exact bodyPost_ret (v := .agg (c32 rns)) (results_cell_row Tryd.results35 _ _ w.heap.size 74 (c32 rns) (0, 0) _ rfl (heap_alloc_new w _) Tryd.underlying74 rfl i2.out) rfl ⟨rfl, (Below.refl _ _).alloc (Nat.le_refl _) _⟩

end Go.Proofs.YtkelipedpjmmaaaDoor.Wh
