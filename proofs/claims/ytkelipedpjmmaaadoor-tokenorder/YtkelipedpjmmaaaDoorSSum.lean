/-
  The walks of sha.Sum, of the law's wakes and of the document's Roots, With and Sum: each digest is 'dig'; nothing that was in memory has turned. Conditions: the text is of at most 2^47 + 1024 bytes; for the code the table of the rounds' numbers holds what it was laid with.
-/
import Derived.Test.YtkelipedpjmmaaaDoorRows
import Derived.Test.YtkelipedpjmmaaaDoorSWh
import Derived.WalkKit
import Derived.ProofKit
import Derived.OpenShut
import Derived.Deep.RegionWith
namespace Go.Proofs.YtkelipedpjmmaaaDoor.Wh
open Go.ChangeShapes Go.WideShapes Go.ChangeAt Go.RowKit Go.Proofs.YtkelipedpjmmaaaDoor.M

/-- A block holds eight words; nothing below it has turned; the table stands. -/
def JS (w0 : World) (p : Nat) (l : List Nat) (w : World) : Prop := w.heap[p]? = some (.cells (c32 l) 94 (0, 0)) ∧ w0.heap.size ≤ p ∧ Below w0.heap.size w0 w ∧ Tab w ∧ 0 < p
theorem JS.drew {w0 w : World} {p : Nat} {l : List Nat} (h : JS w0 p l w) : JS w0 p l w.drew := ⟨h.1, h.2.1, h.2.2.1.drew, h.2.2.2.1, h.2.2.2.2⟩
theorem JS.below {w0 w w' : World} {p : Nat} {l : List Nat} (h : JS w0 p l w) (hb : Below w.heap.size w w') : JS w0 p l w' :=
  ⟨(hb.block p (Array.getElem?_eq_some_iff.1 h.1).1).trans h.1, h.2.1, h.2.2.1.trans (hb.mono h.2.2.1.size), h.2.2.2.1.below hb h.2.2.2.1.pos, h.2.2.2.2⟩
theorem JS.store {w0 w : World} {p : Nat} {l : List Nat} (h : JS w0 p l w) (l2 : List Nat) : JS w0 p l2 (w.setRow p (c32 l2)) :=
  ⟨setRow_heap w p _ _ _ _ h.1, h.2.1, h.2.2.1.trans (below_setRow h.2.1), h.2.2.2.1.below (below_setRow (B := p) (Nat.le_refl _)) h.2.2.2.2, h.2.2.2.2⟩
theorem JS.cells {w0 w : World} {p a b c d e f g h : Nat} (k : JS w0 p [a, b, c, d, e, f, g, h] w) :
    w.cell? ⟨p, 0, none⟩ = some (.int .u32 (a : Int)) ∧ w.cell? ⟨p, 1, none⟩ = some (.int .u32 (b : Int)) ∧ w.cell? ⟨p, 2, none⟩ = some (.int .u32 (c : Int)) ∧ w.cell? ⟨p, 3, none⟩ = some (.int .u32 (d : Int)) ∧
    w.cell? ⟨p, 4, none⟩ = some (.int .u32 (e : Int)) ∧ w.cell? ⟨p, 5, none⟩ = some (.int .u32 (f : Int)) ∧ w.cell? ⟨p, 6, none⟩ = some (.int .u32 (g : Int)) ∧ w.cell? ⟨p, 7, none⟩ = some (.int .u32 (h : Int)) := by
  have K : ∀ j, w.cell? ⟨p, j, none⟩ = (c32 [a, b, c, d, e, f, g, h])[j]? := fun j => cell_of_row w p j _ _ _ k.1
  exact ⟨K 0, K 1, K 2, K 3, K 4, K 5, K 6, K 7⟩

set_option maxRecDepth 100000 in
set_option maxHeartbeats 600000 in
theorem sum (T : ByteArray) (w : World) (hsz : T.size ≤ 140737488356352) (hT : Tab w) :
    Calls Tryd.prog 32 #[.string T] w fun e w' => e = .returned (.string (dig T)) ∧ Below w.heap.size w w' := by
  have HT : Hid (Tab w) := hT
  clear hT
  go_enter Tryd.func32, Tryd.ntmps32
  go_wp2_with fail
  refine (begin_ _).mono ?_
  rintro e w1 ⟨rfl, b1⟩
  have hT1 : Hid (Tab w1) := HT.out.below b1 HT.out.pos
  go_wp2_with fail
  refine (whole beg T w1 beg_len beg_W (by unfold maxLen; omega) hT1.out).mono ?_
  rintro e w2 ⟨rfl, b2⟩
  have bb : Below w.heap.size w w2 := b1.trans (b2.mono b1.size)
  have hT2 : Hid (Tab w2) := hT1.out.below b2 hT1.out.pos
  have hl1 := whl_len rns beg T.data.toList beg_len (T.size / 64)
  have hW1 := whl_W rns beg T.data.toList beg_len beg_W (T.size / 64)
  clear b1 b2 hT1
  obtain ⟨hd1, hd2⟩ := dig_code T (tl T (T.size / 64) ++ pdB T.size) rfl
  have hRs : (tl T (T.size / 64) ++ pdB T.size).size ≤ maxLen := by
    have h1 := tl_size T (T.size / 64)
    have h2 := pdB_size T.size
    have h3 := npad_lt T.size
    rw [ByteArray.size_append, h1, h2]
    unfold maxLen
    omega
  have hts := tl_size T (T.size / 64)
  have hps := pdB_size T.size
  have hpl := npad_lt T.size
  have CT : Hid (∀ W, Calls Tryd.prog 49 #[.agg (c32 (whl rns beg (allB T).data.toList (nBl T)))] W fun e w' => e = .returned (.string (dig T)) ∧ Below W.heap.size W w') :=
    fun W => text _ W (whl_len rns beg _ beg_len _) (whl_W rns beg _ beg_len beg_W _)
  have hl2 := whl_len rns beg (allB T).data.toList beg_len (nBl T)
  rw [← hd1] at CT hl2
  clear hd1 hd2
  have CW : ∀ W, JS w w2.heap.size (whl rns beg T.data.toList (T.size / 64)) W → Calls Tryd.prog 47 #[.agg (c32 (whl rns beg T.data.toList (T.size / 64))), .string (tl T (T.size / 64) ++ pdB T.size)] W
      fun e w' => e = .returned (.tuple #[.agg (c32 (whl rns (whl rns beg T.data.toList (T.size / 64)) (tl T (T.size / 64) ++ pdB T.size).data.toList ((tl T (T.size / 64) ++ pdB T.size).size / 64))), .string (tl (tl T (T.size / 64) ++ pdB T.size) ((tl T (T.size / 64) ++ pdB T.size).size / 64))]) ∧ JS w w2.heap.size (whl rns beg T.data.toList (T.size / 64)) w' :=
    fun W hW => (whole _ _ W hl1 hW1 hRs hW.2.2.2.1).mono fun _ _ ⟨h1, h2⟩ => ⟨h1, hW.below h2⟩
  have CP : Hid (∀ W, JS w w2.heap.size (whl rns beg T.data.toList (T.size / 64)) W → Calls Tryd.prog 48 #[.int .u64 (T.size : Int)] W fun e w' => e = .returned (.string (pdB T.size)) ∧ JS w w2.heap.size (whl rns beg T.data.toList (T.size / 64)) w') :=
    fun W hW => (pad T.size W).mono fun _ _ ⟨h1, h2⟩ => ⟨h1, hW.below h2⟩
  have i1 : Hid ((Tryd.prog.info? 94).map (·.size) = some (c32 (whl rns beg T.data.toList (T.size / 64))).size) := by rw [c32_size, hl1]; exact info8s
  have hs0 : Hid ((#[.int .u32 0, .int .u32 0, .int .u32 0, .int .u32 0, .int .u32 0, .int .u32 0, .int .u32 0, .int .u32 0] : Array Value).size = (c32 (whl rns beg T.data.toList (T.size / 64))).size) := by rw [c32_size, hl1]; rfl
  have hJ : Hid (JS w w2.heap.size (whl rns beg T.data.toList (T.size / 64)) (w2.alloc (.cells (c32 (whl rns beg T.data.toList (T.size / 64))) 94))) :=
    ⟨heap_alloc_new w2 _, bb.size, bb.alloc bb.size _, hT2.out.below ((Below.refl w2.heap.size w2).alloc (Nat.le_refl _) _) hT2.out.pos, hT2.out.pos⟩
  clear hW1
  generalize tl (tl T (T.size / 64) ++ pdB T.size) ((tl T (T.size / 64) ++ pdB T.size).size / 64) = R2 at CW
  generalize whl rns (whl rns beg T.data.toList (T.size / 64)) (tl T (T.size / 64) ++ pdB T.size).data.toList ((tl T (T.size / 64) ++ pdB T.size).size / 64) = S2 at CT CW hl2
  generalize whl rns beg T.data.toList (T.size / 64) = S1 at CW CP hJ i1 hs0 hl1
  generalize tl T (T.size / 64) = T1 at CW hts hRs
  generalize pdB T.size = P1 at CW CP hps hRs
  have CW' : Hid _ := CW
  have hsz2 : (c32 S2).size = 8 := by rw [c32_size, hl2]
  have i2 : Hid ((Tryd.prog.info? 94).map (·.size) = some (c32 S2).size) := by rw [c32_size, hl2]; exact info8s
  have HL2 : Hid (S2.length = 8) := hl2
  clear CW hl2 hRs
  go_wp2_with (refine store_new rfl 94 _ _ rfl w2.heap.size rfl (c32 S1) rfl rfl _ i1.out hs0.out (c32_one _) ?_)
  obtain ⟨x0, x1, x2, x3, x4, x5, x6, x7, rfl⟩ := eight hl1
  have hJ' : JS w w2.heap.size [x0, x1, x2, x3, x4, x5, x6, x7] (w2.alloc (.cells (c32 [x0, x1, x2, x3, x4, x5, x6, x7]) 94)) := hJ.out
  have hA1 : T1.size ≤ 140737488355328 := by omega
  have hA2 : P1.size ≤ 100 := by omega
  clear hJ hT2 bb i1 hs0 hts hps hpl HT hl1
  generalize w2.alloc (.cells (c32 [x0, x1, x2, x3, x4, x5, x6, x7]) 94) = W at hJ' ⊢
  generalize w2.heap.size = g at hJ' CP CW' ⊢
  obtain ⟨k0, k1, k2, k3, k4, k5, k6, k7⟩ := JS.cells hJ'
  have hwr : IntKind.u64.wrap (T.size : Int) = (T.size : Int) := by rw [IntKind.wrap_u64]; omega
  go_region_with (first
    | (go_at_call 48; refine (CP.out _ ?_).mono ?_; (first | exact hJ' | exact hJ'.drew | exact hJ'.drew.drew | exact hJ'.drew.drew.drew); rintro x w3 ⟨rfl, hj3⟩; obtain ⟨m0, m1, m2, m3, m4, m5, m6, m7⟩ := JS.cells hj3)
    | (go_at_call 47; refine (CW'.out _ ?_).mono ?_; (first | exact hj3 | exact JS.drew hj3 | exact JS.drew (JS.drew hj3)); rintro x w4 ⟨rfl, hj4⟩; have hst := run_store_cells _ _ _ _ S2 hj4.1 (by rw [HL2.out]; rfl)))
  all_goals (
    have hj5 := JS.store hj4 S2
    go_wp2_with (refine wpList_load_row rfl 94 _ rfl g rfl 94 (c32 S2) (0, 0) _ hj5.1 Tryd.underlying94 rfl i2.out ?_)
    refine (CT.out _).mono ?_
    rintro e w5 ⟨rfl, b5⟩
    go_wp2
    go_ret
    exact ⟨rfl, hj5.2.2.1.trans (b5.mono hj5.2.2.1.size)⟩)

end Go.Proofs.YtkelipedpjmmaaaDoor.Wh
