/-
  The walk of sha.State.Block: it returns the state that 'blk' says, and nothing that was in memory has turned. Conditions: the state has eight words, the block 64 bytes, and the table of the rounds' numbers holds what it was laid with.
-/
import Derived.Test.YtkelipedpjmmaaaDoorRows
import Derived.Test.YtkelipedpjmmaaaDoorSSch
import Derived.WalkKit
import Derived.ProofKit
import Derived.OpenShut
import Derived.Deep.RegionWith
import Derived.Deep.WholeRow
namespace Go.Proofs.YtkelipedpjmmaaaDoor.Wh
open Go.ChangeShapes Go.WideShapes Go.ChangeAt Go.RowKit Go.Proofs.YtkelipedpjmmaaaDoor.M

/-- The table of the rounds' numbers. -/
def Tab (w : World) : Prop := ∀ i, i < 64 → w.cell? ⟨0, i, none⟩ = some (.int .u32 ((rns.getD i 0 : Nat) : Int))
theorem Tab.pos {w : World} (h : Tab w) : 0 < w.heap.size := World.block_lt_of_cell? w _ (h 0 (by decide))
theorem Tab.below {w w' : World} {B : Nat} (h : Tab w) (hb : Below B w w') (hB : 0 < B) : Tab w' := fun i hi => (hb.cell (p := ⟨0, i, none⟩) hB).trans (h i hi)

theorem zeros8 : c32 (List.replicate 8 0) = #[.int .u32 0, .int .u32 0, .int .u32 0, .int .u32 0, .int .u32 0, .int .u32 0, .int .u32 0, .int .u32 0] := rfl

/-- A whole array into the block that was made last. -/
theorem store_new {P : Program} {ops : Array Oper} {rest : List Oper} {o : Oper} {a : Act} {w : World} {Q : Exit → Act → World → Prop} (hgd : o.guard = none) (ty : TypeId) (x y : Operand) (ho : o.op = .store ty x y)
    (g : Nat) (hg : g = w.heap.size) (cells : Array Value) (hx : a.eval x = .pointer (some ⟨g, 0, none⟩)) (hy : a.eval y = .agg cells)
    (old : Array Value) (hi : (P.info? ty).map (·.size) = some cells.size) (hold : old.size = cells.size) (h1 : cells.all (·.oneCell') = true)
    (h : wpList P ops Q rest (a.put o.dst undef) (w.alloc (.cells cells ty))) : wpList P ops Q (o :: rest) a (w.alloc (.cells old ty)) := by
  subst hg
  refine wpList_store_row hgd ty x y ho w.heap.size cells hx hy ty old (heap_alloc_last w _) hi hold h1 ?_
  rw [World.setRow_alloc_new]
  exact h

/-- What lies where, with the words under way. -/
def JB (w : World) (g : Nat) (s ws l : List Nat) (W : World) : Prop :=
  W.heap[w.heap.size]? = some (.cells (c32 s) 94 (0, 0)) ∧ W.heap[w.heap.size + 1 + 1]? = some (.cells (c32 (List.replicate 8 0)) 94 (0, 0)) ∧
  W.heap[g]? = some (.cells (c32 ws) 74 (0, 0)) ∧ W.heap[g + 1]? = some (.cells (c32 l) 94 (0, 0)) ∧ Below w.heap.size w W
theorem JB.drew {w W : World} {g : Nat} {s ws l : List Nat} (h : JB w g s ws l W) : JB w g s ws l W.drew := ⟨h.1, h.2.1, h.2.2.1, h.2.2.2.1, h.2.2.2.2.drew⟩
theorem JB.below {w W W' : World} {g : Nat} {s ws l : List Nat} (h : JB w g s ws l W) (hb : Below W.heap.size W W') : JB w g s ws l W' := by
  obtain ⟨h1, h2, h3, h4, h5⟩ := h
  have K : ∀ {k : Nat} {o : Obj}, W.heap[k]? = some o → W'.heap[k]? = some o := fun hk => (hb.block _ (Array.getElem?_eq_some_iff.1 hk).1).trans hk
  exact ⟨K h1, K h2, K h3, K h4, h5.trans (hb.mono h5.size)⟩
theorem JB.cells {w W : World} {p : Nat} {s ws : List Nat} {a b c d e f g h : Nat} (k : JB w p s ws [a, b, c, d, e, f, g, h] W) :
    W.cell? ⟨p + 1, 0, none⟩ = some (.int .u32 (a : Int)) ∧ W.cell? ⟨p + 1, 1, none⟩ = some (.int .u32 (b : Int)) ∧ W.cell? ⟨p + 1, 2, none⟩ = some (.int .u32 (c : Int)) ∧ W.cell? ⟨p + 1, 3, none⟩ = some (.int .u32 (d : Int)) ∧
    W.cell? ⟨p + 1, 4, none⟩ = some (.int .u32 (e : Int)) ∧ W.cell? ⟨p + 1, 5, none⟩ = some (.int .u32 (f : Int)) ∧ W.cell? ⟨p + 1, 6, none⟩ = some (.int .u32 (g : Int)) ∧ W.cell? ⟨p + 1, 7, none⟩ = some (.int .u32 (h : Int)) ∧
    ∀ j, W.frozen? ⟨p + 1, j, none⟩ = false := by
  have K : ∀ j, W.cell? ⟨p + 1, j, none⟩ = (c32 [a, b, c, d, e, f, g, h])[j]? := fun j => cell_of_row W (p + 1) j _ _ _ k.2.2.2.1
  exact ⟨K 0, K 1, K 2, K 3, K 4, K 5, K 6, K 7, fun j => frozen_of_row W (p + 1) j _ _ k.2.2.2.1⟩
theorem JB.word {w W : World} {p : Nat} {s ws l : List Nat} (k : JB w p s ws l W) (t : Nat) (ht : t < ws.length) : W.cell? ⟨p, t, none⟩ = some (.int .u32 ((ws.getD t 0 : Nat) : Int)) :=
  (cell_of_row W p t _ _ _ k.2.2.1).trans (c32_get ws t ht)

theorem run_store_cells (W : World) (g t : Nat) (old new : List Nat) (h : W.heap[g]? = some (.cells (c32 old) t (0, 0))) (hl : old.length = new.length) :
    (storeCells ⟨g, 0, none⟩ (c32 new).toList).run Tryd.prog W = .ok () (W.setRow g (c32 new)) := by
  have := run_storeCells_from (P := Tryd.prog) g t (c32 new).toList 0 (c32 old) W h (by simp [c32_size, hl]) (fun v hv => (Array.all_eq_true_iff_forall_mem.1 (c32_one new)) v (by simpa using hv))
  simpa [c32_size, hl] using this
theorem JB.store {w W : World} {g : Nat} {s ws l : List Nat} (h : JB w g s ws l W) (l2 : List Nat) (hg : w.heap.size + 1 + 1 < g) : JB w g s ws l2 (W.setRow (g + 1) (c32 l2)) := by
  obtain ⟨h1, h2, h3, h4, h5⟩ := h
  have K : ∀ k, k ≠ g + 1 → (W.setRow (g + 1) (c32 l2)).heap[k]? = W.heap[k]? := fun k hk => setRow_other W (g + 1) k _ hk
  exact ⟨(K _ (by omega)).trans h1, (K _ (by omega)).trans h2, (K _ (by omega)).trans h3, setRow_heap W (g + 1) _ _ _ _ h4, h5.trans (below_setRow (by omega))⟩

theorem JB.set {w W : World} {g : Nat} {s ws l : List Nat} (h : JB w g s ws l W) (i v : Nat) (hg : w.heap.size + 1 + 1 < g) : JB w g s ws (l.set i v) (W.setCell ⟨g + 1, i, none⟩ (.int .u32 (v : Int))) := by
  obtain ⟨h1, h2, h3, h4, h5⟩ := h
  have K : ∀ k, k ≠ g + 1 → (W.setCell ⟨g + 1, i, none⟩ (.int .u32 (v : Int))).heap[k]? = W.heap[k]? := fun k hk => heap_setCell_other W _ k _ hk
  refine ⟨(K _ (by omega)).trans h1, (K _ (by omega)).trans h2, (K _ (by omega)).trans h3, ?_, h5.setCell (p := ⟨_, _, none⟩) (by simp; omega) _⟩
  rw [heap_setCell_same W (g + 1) i _ _ _ h4, c32_set]

set_option maxRecDepth 100000 in
set_option maxHeartbeats 4000000 in
theorem block (s b : List Nat) (w : World) (hs : s.length = 8) (hW : W32 s) (hl : b.length = 64) (hb : ∀ i, b.getD i 0 < 256) (hT : Tab w) :
    Calls Tryd.prog 60 #[.agg (c32 s), .agg (c8 b)] w fun e w' => e = .returned (.agg (c32 (blk rns s b))) ∧ Below w.heap.size w w' := by
  have CS : Hid (∀ w, Calls Tryd.prog 76 #[.agg (c8 b)] w fun e w' => e = .returned (.agg (c32 (sch b 64))) ∧ Below w.heap.size w w') := fun w => schedule b w hl hb
  have HS : Hid (s.length = 8) := hs
  have hT' : Hid (Tab w) := hT
  have i1 : Hid ((Tryd.prog.info? 113).map (·.size) = some (c8 b).size) := by rw [c8_size, hl]; exact info64b
  have i2 : Hid ((Tryd.prog.info? 74).map (·.size) = some (c32 (sch b 64)).size) := by rw [c32_size, sch_len]; exact info64w
  have i3 : Hid ((Tryd.prog.info? 94).map (·.size) = some (c32 s).size) := by rw [c32_size, hs]; exact info8s
  have h1 : Hid ((((w.alloc (.cells (c32 s) 94)).alloc (.cells (c8 b) 113)).alloc (.cells #[.int .u32 0, .int .u32 0, .int .u32 0, .int .u32 0, .int .u32 0, .int .u32 0, .int .u32 0, .int .u32 0] 94)).heap[w.heap.size + 1]? = some (.cells (c8 b) 113 (0, 0))) := by
    show _ = _
    rw [heap_alloc_old _ _ (by simp)]
    exact heap_alloc2_new w _ _
  clear hl hb hT hs
  go_enter Tryd.func60, Tryd.ntmps60
  go_wp2_with (refine wpList_load_row rfl 113 _ rfl (w.heap.size + 1) rfl 113 (c8 b) (0, 0) _ h1.out Tryd.underlying113 rfl i1.out ?_)
  refine (CS.out _).mono ?_
  rintro e w1 ⟨rfl, b1⟩
  have hA : Hid (w1.heap[w.heap.size]? = some (.cells (c32 s) 94 (0, 0))) := by
    refine (b1.block _ (by simp; omega)).trans ?_
    rw [heap_alloc_old _ _ (by simp; omega)]
    exact heap_alloc2_old w _ _
  have hZ : Hid (w1.heap[w.heap.size + 1 + 1]? = some (.cells (c32 (List.replicate 8 0)) 94 (0, 0))) := by
    refine (b1.block _ (by simp)).trans ?_
    have := heap_alloc2_new (w.alloc (.cells (c32 s) 94))
    rw [zeros8]
    simpa using this _ _
  have hlt : w.heap.size + 1 + 1 < w1.heap.size := by
    have := b1.size
    simp at this
    omega
  have bel : Below w.heap.size w w1 := (((((Below.refl _ _).alloc (Nat.le_refl _) _).alloc (by simp) _).alloc (by simp; omega) _)).trans (b1.mono (by simp; omega))
  have hB : Hid ((w1.alloc (.cells (c32 (sch b 64)) 74)).heap[w.heap.size]? = some (.cells (c32 s) 94 (0, 0))) := by
    show _ = _
    rw [heap_alloc_old _ _ (by omega)]
    exact hA.out
  clear b1 h1 CS i1
  go_wp2_with (first
    | (refine store_new rfl 74 _ _ rfl w1.heap.size rfl (c32 (sch b 64)) rfl rfl _ i2.out (by rw [c32_size, sch_len]; rfl) (c32_one _) ?_)
    | (refine wpList_load_row rfl 94 _ rfl w.heap.size rfl 94 (c32 s) (0, 0) _ hB.out Tryd.underlying94 rfl i3.out ?_)
    | (refine store_new rfl 94 _ _ rfl (w1.heap.size + 1) (by simp) (c32 s) rfl rfl _ i3.out (by rw [c32_size, HS.out]; rfl) (c32_one _) ?_))
  have hJ : Hid (JB w w1.heap.size s (sch b 64) (rds rns (sch b 64) s 0) ((w1.alloc (.cells (c32 (sch b 64)) 74)).alloc (.cells (c32 s) 94))) := by
    refine ⟨?_, ?_, heap_alloc2_old w1 _ _, heap_alloc2_new w1 _ _, (bel.alloc bel.size _).alloc (by have := bel.size; simp; omega) _⟩
    · rw [heap_alloc_old _ _ (by simp; omega)]
      exact hB.out
    · rw [heap_alloc_old _ _ (by simp; omega), heap_alloc_old _ _ (by omega)]
      exact hZ.out
  clear hA hB hZ bel
  go_loopw [13] (fun iv wr => ∃ t : Nat, t ≤ 64 ∧ iv = .int .i64 (t : Int) ∧ JB w w1.heap.size s (sch b 64) (rds rns (sch b 64) s t) wr) (fun i _ => 64 - (intOf i).toNat)
  case atStart => exact ⟨0, Nat.zero_le _, rfl, hJ.out⟩
  case round =>
    obtain ⟨t, ht, rfl, hj⟩ := hrel
    by_cases ht64 : t < 64
    · have kw := hj.word t (by rw [sch_len]; exact ht64)
      have kt := (hT'.out.below hj.2.2.2.2 hT'.out.pos) t ht64
      have hlen := rds_len rns (sch b 64) s HS.out t
      have hWr := rds_W rns (sch b 64) s HS.out hW t
      have hnext : rds rns (sch b 64) s (t + 1) = rnd (rds rns (sch b 64) s t) (rns.getD t 0) ((sch b 64).getD t 0) := rfl
      have CR : ∀ W, JB w w1.heap.size s (sch b 64) (rds rns (sch b 64) s t) W → Calls Tryd.prog 77 #[.agg (c32 (rds rns (sch b 64) s t)), .int .u32 ((rns.getD t 0 : Nat) : Int), .int .u32 (((sch b 64).getD t 0 : Nat) : Int)] W
          fun x w' => x = .returned (.agg (c32 (rds rns (sch b 64) s (t + 1)))) ∧ JB w w1.heap.size s (sch b 64) (rds rns (sch b 64) s t) w' :=
        fun W hW' => (round _ _ _ W hlen hWr).mono fun _ _ ⟨h1, h2⟩ => ⟨h1, hW'.below h2⟩
      have hlen2 := rds_len rns (sch b 64) s HS.out (t + 1)
      clear hnext hWr
      generalize hl2 : rds rns (sch b 64) s (t + 1) = l2 at CR hlen2
      generalize rds rns (sch b 64) s t = l1 at CR hj hlen
      generalize rns.getD t 0 = k at CR kt
      generalize (sch b 64).getD t 0 = v at CR kw
      obtain ⟨x0, x1, x2, x3, x4, x5, x6, x7, rfl⟩ := eight hlen
      have HL2 : Hid _ := hl2
      have hsz2 : (c32 l2).size = 8 := by rw [c32_size, hlen2]
      have HR : Hid _ := CR
      obtain ⟨k0, k1, k2, k3, k4, k5, k6, k7, kf⟩ := hj.cells
      have n0 : (0 : Int) ≤ (t : Int) := by omega
      have n1 : (t : Int) < 64 := by omega
      clear hl2 CR hlen
      go_wp2
      go_region_with (go_at_call 77; refine (HR.out _ ?_).mono ?_; (first | exact hj | exact hj.drew | exact hj.drew.drew | exact hj.drew.drew.drew); rintro x w2 ⟨rfl, hj2⟩; have hst := run_store_cells _ _ _ _ l2 hj2.2.2.2.1 (by rw [hlen2]; rfl))
      all_goals (go_wp2; go_roundw; (exact ⟨t + 1, by omega, by go_num, by rw [HL2.out]; exact hj2.store l2 hlt⟩); (simp [intOf] <;> omega))
    · have h64 : t = 64 := by omega
      subst h64
      have hR8 := rds_len rns (sch b 64) s HS.out 64
      have hlenB := blk_len rns s b HS.out
      have hbk : blk rns s b = adl (rds rns (sch b 64) s 64) s 8 := rfl
      generalize rds rns (sch b 64) s 64 = R at hj hR8 hbk
      have HJ : Hid _ := hj
      have HBK : Hid _ := hbk
      have HR8 : Hid (R.length = 8) := hR8
      clear hbk hR8 hJ
      have hA : Hid (wr.heap[w.heap.size]? = some (.cells (c32 s) 94 (0, 0))) := hj.1
      clear hj
      go_wp2_with (refine wpList_load_row rfl 94 _ rfl w.heap.size rfl 94 (c32 s) (0, 0) _ hA.out Tryd.underlying94 rfl i3.out ?_)
      clear hA
      go_loopw [26] (fun iv wq => ∃ i : Nat, i ≤ 8 ∧ iv = .int .i64 (i : Int) ∧ JB w w1.heap.size s (sch b 64) (adl R s i) wq) (fun i _ => 8 - (intOf i).toNat)
      case atStart => exact ⟨0, Nat.zero_le _, rfl, HJ.out⟩
      case round =>
        obtain ⟨i, hi8, rfl, hk⟩ := hrel
        by_cases hi : i < 8
        · have hx := run_index Tryd.underlying94 s i (by rw [HS.out]; exact hi) HS.out
          have hc := (cell_of_row wr (w1.heap.size + 1) i _ _ _ hk.2.2.2.1).trans (c32_get (adl R s i) i (by rw [adl_len, HR8.out]; exact hi))
          have hf := frozen_of_row wr (w1.heap.size + 1) i _ _ hk.2.2.2.1
          have hq := wrap_ad ((adl R s i).getD i 0) (s.getD i 0)
          have hn : adl R s (i + 1) = (adl R s i).set i (ad ((adl R s i).getD i 0) (s.getD i 0)) := rfl
          generalize ad ((adl R s i).getD i 0) (s.getD i 0) = z at hq hn
          generalize (adl R s i).getD i 0 = x at hq hc
          generalize s.getD i 0 = y at hq hx
          have HN : Hid _ := hn
          have HK : Hid _ := hk
          clear hn hk
          go_wp2
          go_roundw
          case rel => exact ⟨i + 1, by omega, by go_num, by rw [HN.out]; exact JB.set HK.out i z hlt⟩
          case measure => simp [intOf] <;> omega
        · have h8 : i = 8 := by omega
          subst h8
          rw [← HBK.out] at hk
          obtain ⟨_, h2, _, h4, h5⟩ := hk
          generalize hr : blk rns s b = r at h4 hlenB
          have HRR : Hid (blk rns s b = r) := hr
          clear hr
          have H2 : Hid _ := h2
          have H4 : Hid (wr.heap[w1.heap.size + 1]? = some (.cells (c32 r) 94 (0, 0))) := h4
          have i4 : Hid ((Tryd.prog.info? 94).map (·.size) = some (c32 r).size) := by rw [c32_size, hlenB]; exact info8s
          have hsz : Hid ((c32 (List.replicate 8 0)).size = (c32 r).size) := by rw [c32_size, c32_size, hlenB]; rfl
          clear h2 h4 HBK
          go_wp2_with (first
            | (refine wpList_load_row rfl 94 _ rfl (w1.heap.size + 1) rfl 94 (c32 r) (0, 0) _ H4.out Tryd.underlying94 rfl i4.out ?_)
            | (refine wpList_store_row rfl 94 _ _ rfl (w.heap.size + 1 + 1) (c32 r) rfl rfl 94 _ H2.out i4.out hsz.out (c32_one _) ?_))
          exact bodyPost_ret (v := .agg (c32 r)) (results_cell_row Tryd.results60 _ _ (w.heap.size + 1 + 1) 94 (c32 r) (0, 0) _ rfl (setRow_heap wr _ _ _ _ _ H2.out) Tryd.underlying94 rfl i4.out) rfl ⟨by rw [HRR.out], h5.trans (below_setRow (by omega))⟩

end Go.Proofs.YtkelipedpjmmaaaDoor.Wh
