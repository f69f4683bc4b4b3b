/-
  Several texts in one. The walk of a region's lay: the text's bytes lie over what lasts, noughts behind; the queue is empty. The rest of the disk is as it was. The walk of a region's write: the write stands behind the queue. The rest of the disk is as it was. The walks of keptBy and lose: a loss of power settles every region by the numbers' bits. The walks of the disk's calls that look: regionAsked, sectorAsked, Sectors, Read, Off, Image; and of On, Lay, Crash, fails, Write, Flush: each answers, and leaves the disk, as the disk as plain data says. The walks of the disk's calls that turn it: On, Lay, fails, Crash, Write, Flush. Each answers, and leaves the disk, as the disk as plain data says. The walks of the disk's fails, Write and Flush.
-/
import Derived.Test.YtaojoecmbgmhoaaDa
import Derived.Deep.AppendLies
import Derived.Deep.RegionLaw
import Derived.Deep.WholeRow
import Derived.Great.BuildSlice
namespace Go.Proofs.Ytaojoecmbgmhoaa.Wd
open Go.ChangeShapes Go.WideShapes Go.ChangeAt Go.RowKit Go.Proofs.Ytaojoecmbgmhoaa.M

/-- The cells of a text. -/
def sc (x : ByteArray) (m : Nat) : List Value := (List.range m).map fun j => .int .u8 (bt x j)
theorem sc_length (x : ByteArray) (m : Nat) : (sc x m).length = m := by simp [sc]
theorem sc_get (x : ByteArray) (m j : Nat) (h : j < m) : (sc x m)[j]? = some (.int .u8 (bt x j)) := by
  unfold sc
  rw [List.getElem?_map, List.getElem?_range h]
  rfl
theorem sc_text (x : ByteArray) (m : Nat) (h : m ≤ x.size) : List.take m (List.map (fun b : UInt8 => Value.int IntKind.u8 (b.toNat : Int)) x.data.toList) = sc x m := by
  apply List.ext_getElem?
  intro j
  rw [List.getElem?_take]
  by_cases hj : j < m
  · rw [if_pos hj, sc_get _ _ _ hj, List.getElem?_map]
    have hs : j < x.size := by omega
    have : x.data.toList[j]? = some (x[j]) := by
      rw [Array.getElem?_toList]
      exact Array.getElem?_eq_getElem hs
    rw [this]
    show some (Value.int IntKind.u8 ((x[j]).toNat : Int)) = _
    rw [get_bt x j hs]
  · rw [if_neg hj, List.getElem?_eq_none (by rw [sc_length]; omega)]
theorem sc_one (x : ByteArray) (m : Nat) : ∀ v ∈ sc x m, v.oneCell' = true := fun v hv => by
  unfold sc at hv
  rw [List.mem_map] at hv
  obtain ⟨_, _, rfl⟩ := hv
  rfl

theorem info8z : (Try.prog.info? 5).map (fun i => (i.zero, i.size, i.bytes)) = some (some (.int .u8 0), 1, 1) := by kernel_rfl

theorem run_copy_text (W : World) (g t dT sT ty e o m c : Nat) (hu : Try.prog.underlying dT = some (.slice e)) (he : (Try.prog.info? e).map (·.size) = some 1) (cur : Array Value) (s : ByteArray) (h : W.heap[g]? = some (.cells cur t (0, 0))) (hc : o + m ≤ cur.size) :
    (Builtin.copy_ #[dT, sT] ty #[.slice (some ⟨g, o, none⟩) m c, .string s]).run Try.prog W = .ok (goInt ((min s.size m : Nat) : Int)) (W.setRow g (cur.toList.take o ++ sc s (min s.size m) ++ cur.toList.drop (o + min s.size m)).toArray) := by
  have hst := run_storeCells_at Try.prog g o t (sc s (min s.size m)) 0 cur W h (by rw [sc_length]; omega) (sc_one _ _)
  rw [sc_length, Nat.add_zero] at hst
  have htk := sc_text s (min s.size m) (by omega)
  have hmn : s.size.min m = min s.size m := rfl
  cases hq : Try.prog.info? e with
  | none => simp [hq] at he
  | some i =>
    simp [Builtin.copy_, run_underlying hu, Builtin.lenOf, Builtin.firstCells, sizeOf, typeInfo, hq]
    rw [hmn, htk, hst]
    simp [Result.andThen]

theorem run_clear (W : World) (g t T ty e o m c : Nat) (hu : Try.prog.underlying T = some (.slice e)) (he : (Try.prog.info? e).map (fun i => (i.zero, i.size, i.bytes)) = some (some (.int .u8 0), 1, 1)) (cur : Array Value) (h : W.heap[g]? = some (.cells cur t (0, 0))) (hc : o + m ≤ cur.size) (hm : 0 < m) :
    (Builtin.clear_ #[T] ty #[.slice (some ⟨g, o, none⟩) m c]).run Try.prog W = .ok (.tuple #[]) (W.setRow g (cur.toList.take o ++ List.replicate m (Value.int .u8 0) ++ cur.toList.drop (o + m)).toArray) := by
  have hst := run_storeCells_at Try.prog g o t (List.replicate m (Value.int .u8 0)) 0 cur W h (by rw [List.length_replicate]; omega) (fun v hv => by rw [List.eq_of_mem_replicate hv]; rfl)
  rw [List.length_replicate, Nat.add_zero] at hst
  obtain ⟨i0, hi, hz0, hz1, hz2⟩ := info_parts he
  have hz : (Builtin.zeroCells (Value.int IntKind.u8 0).cells m).toList = List.replicate m (Value.int .u8 0) := by
    simp only [Builtin.zeroCells, Value.cells]
    apply List.ext_getElem
    · simp
    · intro j _ _
      simp [Nat.mod_one]
  obtain ⟨m', rfl⟩ : ∃ m', m = m' + 1 := ⟨m - 1, by omega⟩
  simp [Builtin.clear_, run_underlying hu, zeroValue, typeInfo, hi, hz0]
  rw [hz, hst]
  simp [Result.andThen]

theorem run_clear_none (W : World) (T ty e : Nat) (a : Option Addr) (c : Nat) (hu : Try.prog.underlying T = some (.slice e)) : (Builtin.clear_ #[T] ty #[.slice a 0 c]).run Try.prog W = .ok (.tuple #[]) W := by
  cases a <;> simp [Builtin.clear_, run_underlying hu]

/-- What lies behind the copy and the clearing. -/
theorem laid_cells (s : Nat → ByteArray) (n : Nat) (x : ByteArray) (h : x.size < 64 * n) :
    List.take x.size (List.take 0 (lc s n) ++ sc x x.size ++ List.drop (0 + x.size) (lc s n)) ++ List.replicate (64 * n - x.size) (Value.int .u8 0) ++ List.drop (x.size + (64 * n - x.size)) (List.take 0 (lc s n) ++ sc x x.size ++ List.drop (0 + x.size) (lc s n)) = lc (fun k => cut64 x (64 * k)) n := by
  have hl := lc_length s n
  have hs := sc_length x x.size
  rw [List.take_zero, List.nil_append, Nat.zero_add, List.take_left' hs]
  have e1 : x.size + (64 * n - x.size) = 64 * n := by omega
  rw [e1, List.drop_eq_nil_of_le (by rw [List.length_append, hs, List.length_drop, hl]; omega), List.append_nil]
  apply List.ext_getElem?
  intro j
  by_cases hj : j < 64 * n
  · rw [lc_get _ _ _ hj, bt_bx, cut64_bx _ _ _ (by omega)]
    have e : 64 * (j / 64) + j % 64 = j := by omega
    rw [e]
    by_cases c : j < x.size
    · rw [List.getElem?_append_left (by rw [hs]; exact c), sc_get _ _ _ c, bt_bx]
    · rw [List.getElem?_append_right (by rw [hs]; omega), hs, List.getElem?_replicate, if_pos (by omega), bx_none c]
      rfl
  · rw [List.getElem?_eq_none (by rw [List.length_append, hs, List.length_replicate]; omega), List.getElem?_eq_none (by rw [lc_length]; omega)]
theorem laid_full (s : Nat → ByteArray) (n : Nat) (x : ByteArray) :
    List.take 0 (lc s n) ++ sc x (64 * n) ++ List.drop (0 + 64 * n) (lc s n) = lc (fun k => cut64 x (64 * k)) n := by
  have hl := lc_length s n
  have hs := sc_length x (64 * n)
  rw [List.take_zero, List.nil_append, Nat.zero_add, List.drop_eq_nil_of_le (by omega), List.append_nil]
  apply List.ext_getElem?
  intro j
  by_cases hj : j < 64 * n
  · rw [lc_get _ _ _ hj, bt_bx, cut64_bx _ _ _ (by omega), sc_get _ _ _ hj, bt_bx]
    have e : 64 * (j / 64) + j % 64 = j := by omega
    rw [e]
  · rw [List.getElem?_eq_none (by rw [hs]; omega), List.getElem?_eq_none (by rw [lc_length]; omega)]

theorem cell_row {w : World} {g b j : Nat} (h : b ≠ g) (c : Array Value) : (w.setRow g c).cell? ⟨b, j, none⟩ = w.cell? ⟨b, j, none⟩ := World.cell?_of_block (blk_other h c)
theorem free_row {w : World} {g b j : Nat} (h : b ≠ g) (c : Array Value) : (w.setRow g c).frozen? ⟨b, j, none⟩ = w.frozen? ⟨b, j, none⟩ := World.frozen?_of_block (blk_other h c)

end Go.Proofs.Ytaojoecmbgmhoaa.Wd

namespace Go.Proofs.Ytaojoecmbgmhoaa.Wd
open Go.ChangeShapes Go.WideShapes Go.ChangeAt Go.RowKit Go.Proofs.Ytaojoecmbgmhoaa.M

/-- The cells of one write. -/
def wc (s : Nat) (x : ByteArray) : Array Value := (Value.int .i64 (s : Int) :: dc x).toArray
def wz : Array Value := (Value.int .i64 0 :: List.replicate 64 (Value.int .u8 0)).toArray
theorem infoQ : (Try.prog.info? 124).map (fun i => (i.zero, i.size)) = some (some (.agg wz), 65) := by kernel_rfl
theorem infoQ3 : (Try.prog.info? 124).map (fun i => (i.zero, i.size, i.bytes)) = some (some (.agg wz), 65, 72) := by kernel_rfl
theorem infoQ1 : (Try.prog.info? 124).map (·.size) = some 65 := by kernel_rfl

theorem wc_size (s : Nat) (x : ByteArray) : (wc s x).size = 65 := by
  unfold wc
  rw [List.size_toArray, List.length_cons, dc_length]
theorem dc_noB : dc noB = List.replicate 64 (Value.int .u8 0) := by
  apply List.ext_getElem?
  intro j
  by_cases hj : j < 64
  · rw [dc_get _ _ hj, noB_bt, List.getElem?_replicate, if_pos hj]
  · rw [List.getElem?_eq_none (by rw [dc_length]; omega), List.getElem?_eq_none (by rw [List.length_replicate]; omega)]
theorem wz_set (s : Nat) : wz.setIfInBounds 0 (.int .i64 (s : Int)) = wc s noB := by
  unfold wz wc
  rw [dc_noB, List.setIfInBounds_toArray]
  rfl
theorem wc_one (s : Nat) (x : ByteArray) : (wc s x).all (·.oneCell') = true := by
  rw [Array.all_eq_true_iff_forall_mem]
  intro v hv
  unfold wc at hv
  rw [List.mem_toArray, List.mem_cons] at hv
  rcases hv with rfl | hv
  · rfl
  · unfold dc at hv
    rw [List.mem_map] at hv
    obtain ⟨_, _, rfl⟩ := hv
    rfl
theorem sc64 (x : ByteArray) : sc x 64 = dc x := rfl
theorem copy_wc (w : World) (s : Nat) (x : ByteArray) (hx : x.size = 64) :
    (Builtin.copy_ #[52, 9] 3 #[.slice (some ⟨w.heap.size, 1, none⟩) 64 64, .string x]).run Try.prog (w.alloc (.cells (wc s noB) 124)) = .ok (goInt ((64 : Nat) : Int)) (w.alloc (.cells (wc s x) 124)) := by
  have r := run_copy_text (w.alloc (.cells (wc s noB) 124)) w.heap.size 124 52 9 3 5 1 64 64 Try.underlying52 (by kernel_rfl) (wc s noB) x (heap_alloc_last w _) (by rw [wc_size]; omega)
  rw [hx, Nat.min_self, World.setRow_alloc_new, sc64] at r
  have e : (List.take 1 (wc s noB).toList ++ dc x ++ List.drop (1 + 64) (wc s noB).toList).toArray = wc s x := by
    unfold wc
    rw [List.drop_eq_nil_of_le (by rw [List.toList_toArray, List.length_cons, dc_length]; omega)]
    simp
  rw [e] at r
  exact r

theorem step_load_row {P : Program} {ops : Array Oper} {o : Oper} {a : Act} {w : World} {K : Act → World → Prop} {Q : Exit → Act → World → Prop} {E : Prop} (hgd : o.guard = none) (ty : TypeId) (x : Operand) (ho : o.op = .load ty x)
    (g : Nat) (hx : a.eval x = .pointer (some ⟨g, 0, none⟩)) (t : TypeId) (cs : Array Value) (fr : Nat × Nat) (d : TypeDesc) (hg : w.heap[g]? = some (.cells cs t fr))
    (hu : P.underlying ty = some d) (hd : (match d with | .struct _ | .array _ _ => true | _ => false) = true) (hi : (P.info? ty).map (·.size) = some cs.size)
    (h : K (a.put o.dst (.agg cs)) w) : if Region.wanted o (yielded ops a.tmps) = true then Oper.wp P o a w K Q else E := by
  have hw : Region.wanted o (yielded ops a.tmps) = true := by simp [Region.wanted, hgd]
  rw [if_pos hw]
  exact wp_load_row ty x ho g hx t cs fr d hg hu hd hi h

theorem step_build_one {P : Program} {ops : Array Oper} {o : Oper} {a : Act} {w : World} {K : Act → World → Prop} {Q : Exit → Act → World → Prop} {E : Prop} (hgd : o.guard = none) (t e : TypeId) (x : Operand) (ho : o.op = .buildSlice t 1 #[(0, x)])
    (C : Array Value) (ie : TypeInfo) (z : Value) (hu : P.underlying t = some (.slice e)) (hie : P.info? e = some ie) (hz : ie.zero = some z) (hs : ie.size = C.size) (hC : 0 < C.size) (hC2 : C.size ≤ 16777216) (hx : a.eval x = .agg C)
    (h : K (a.put o.dst (.slice (some ⟨w.heap.size, 0, none⟩) 1 1)) (w.alloc (.cells C e))) : if Region.wanted o (yielded ops a.tmps) = true then Oper.wp P o a w K Q else E := by
  have hw : Region.wanted o (yielded ops a.tmps) = true := by simp [Region.wanted, hgd]
  rw [if_pos hw]
  have hf := Great.fill_whole (s := ie.size) (by omega) [.agg C] ((Array.range (1 * ie.size)).map (z.cells[· % z.cells.size]!)) (fun v hv => by
    rw [List.mem_singleton] at hv
    subst hv
    exact hs.symm) (by simp)
  have e1 : ([Value.agg C].flatMap fun v => v.cells.toList).toArray = C := by simp [Value.cells]
  rw [e1] at hf
  refine wp_buildSlice t e 1 #[(0, x)] ho C ie z hu hie hz (by omega) (by omega) ?_ h
  have e2 : (#[(0, x)].map fun (p : Nat × Operand) => (p.1, a.eval p.2)).toList = (([Value.agg C]).zipIdx 0).map fun x => (x.2, x.1) := by simp [hx]
  exact (congrArg _ e2).trans hf

theorem run_lcf {W : World} {g n : Nat} {c : Array Value} {t : TypeId} (h : W.heap[g]? = some (.cells c t (0, 0))) (hn : c.size = n) : (loadCellsFrom ⟨g, 0, none⟩ 0 n #[]).run Try.prog W = .ok c W := by
  subst hn
  have := run_loadCells_list (P := Try.prog) W ⟨g, 0, none⟩ c.toList (fun j v hv => by
    have hadd : (⟨g, 0, none⟩ : Addr).add j = ⟨g, j, none⟩ := by unfold Addr.add; split <;> simp_all
    rw [hadd, cell_of_row _ _ j c t (0, 0) h]
    simpa using hv)
  simpa [loadCells] using this

theorem store_new {P : Program} {ops : Array Oper} {rest : List Oper} {o : Oper} {a : Act} {w : World} {Q : Exit → Act → World → Prop} (hgd : o.guard = none) (ty : TypeId) (x y : Operand) (ho : o.op = .store ty x y)
    (g : Nat) (hg : g = w.heap.size) (cells : Array Value) (hx : a.eval x = .pointer (some ⟨g, 0, none⟩)) (hy : a.eval y = .agg cells)
    (old : Array Value) (hi : (P.info? ty).map (·.size) = some cells.size) (hold : old.size = cells.size) (h1 : cells.all (·.oneCell') = true)
    (h : wpList P ops Q rest (a.put o.dst undef) (w.alloc (.cells cells ty))) : wpList P ops Q (o :: rest) a (w.alloc (.cells old ty)) := by
  subst hg
  refine wpList_store_row hgd ty x y ho w.heap.size cells hx hy ty old (heap_alloc_last w _) hi hold h1 ?_
  rw [World.setRow_alloc_new]
  exact h

/-- A queue as the laws on append ask it. -/
theorem DkL.ownQ {w : World} {D : Nat} {d : Dk} {F : Nat → Prop} {L : Ly} (h : DkL w D d F L) {i : Nat} (hi : i < d.k) : w.ownsRow 0 124 65 (.slice (pt (d.r i).q.length (L.qb i)) (d.r i).q.length (cp (d.r i).q.length (L.qm i))) (d.r i).q.length (qc (d.r i).q) := by
  refine ⟨by rw [qc_length, Nat.mul_comm], ?_⟩
  by_cases c : 0 < (d.r i).q.length
  · obtain ⟨l, h1, h2, h3, h4, h5⟩ := h.qb i hi c
    exact .inr ⟨L.qb i, L.qm i, l.toArray, by rw [pt_pos _ c, cp_pos _ c], Nat.zero_le _, h1, h3, h4, by rw [List.size_toArray]; exact h2, h5⟩
  · have e : (d.r i).q.length = 0 := by omega
    rw [e]
    exact .inl ⟨rfl, rfl⟩

/-- A region with one write more. -/
theorem DkL.pushed {w w3 : World} {D : Nat} {d : Dk} {F : Nat → Prop} {L : Ly} (h : DkL w D d F L) {i : Nat} (hi : i < d.k) {s : Nat} {x : ByteArray} (hs : s < (d.r i).n) (hx : x.size = 64) {g cap : Nat}
    (hsz : w.heap.size ≤ w3.heap.size) (hblk : ∀ b, b < w.heap.size → (0 < (d.r i).q.length → b ≠ L.qb i) → w3.heap[b]? = w.heap[b]?) (hg : (0 < (d.r i).q.length ∧ g = L.qb i) ∨ w.heap.size ≤ g) (hlt : g < w3.heap.size)
    (own : ∃ l : List Value, w3.heap[g]? = some (.cells l.toArray 124 (0, 0)) ∧ l.length = cap * 65 ∧ (d.r i).q.length + 1 ≤ cap ∧ cap ≤ maxLen ∧ l.take (((d.r i).q.length + 1) * 65) = qc ((d.r i).q ++ [(s, x)])) :
    DkL (w3.setCell ⟨L.R, i * 2 + 1, none⟩ (.slice (some ⟨g, 0, none⟩) ((d.r i).q.length + 1) cap)) D (d.at i ((d.r i).put s x)) (Gr F w w3) { L with qb := upd L.qb i g, qm := upd L.qm i cap } := by
  have hr : ∀ j, j ≠ i → (d.at i ((d.r i).put s x)).r j = d.r j := fun j hj => upd_off _ _ hj
  have hri : (d.at i ((d.r i).put s x)).r i = (d.r i).put s x := upd_at _ _ _
  have hql : ((d.r i).put s x).q.length = (d.r i).q.length + 1 := by show ((d.r i).q ++ [(s, x)]).length = _; simp
  have hbR : ∀ b, b ≠ L.R → (w3.setCell ⟨L.R, i * 2 + 1, none⟩ (.slice (some ⟨g, 0, none⟩) ((d.r i).q.length + 1) cap)).heap[b]? = w3.heap[b]? := fun b hb => Below.heap_setCell _ _ _ _ hb
  obtain ⟨l, g1, g2, g3, g4⟩ := h.rows (by omega)
  have hK : ∀ (b : Nat) (cs : Array Value) (T : TypeId) (fr : Nat × Nat), w.heap[b]? = some (.cells cs T fr) → T ≠ 124 → w3.heap[b]? = w.heap[b]? := fun b cs T fr h1 h2 => hblk b (blk_lt h1) (fun hq e => by
    obtain ⟨l', k1, _⟩ := h.qb i hi hq
    rw [e, k1] at h1
    simp at h1
    exact h2 h1.2.1.symm)
  have hK2 : ∀ (b : Nat) (cs : Array Value) (T : TypeId) (fr : Nat × Nat), w.heap[b]? = some (.cells cs T fr) → T ≠ 124 → T ≠ 55 → (w3.setCell ⟨L.R, i * 2 + 1, none⟩ (.slice (some ⟨g, 0, none⟩) ((d.r i).q.length + 1) cap)).heap[b]? = w.heap[b]? := fun b cs T fr h1 h2 h3 =>
    (hbR b (fun e => by rw [e, g1] at h1; simp at h1; exact h3 h1.2.1.symm)).trans (hK b cs T fr h1 h2)
  have g1' := (hK _ _ _ _ g1 (by decide)).trans g1
  have hgR : g ≠ L.R := by
    obtain ⟨l', k1, _⟩ := own
    intro e
    rw [e, g1'] at k1
    simp at k1
  refine ⟨?_, ?_, ?_, ?_, ?_, ?_, ?_, .inl h.ownD, fun hp => .inl (h.ownR hp), ?_, ?_, ?_, Dk.at_ok h.ok i (Rg.put_ok (h.ok.r i hi) hs hx)⟩
  · exact (hK2 D _ _ _ h.dk (by decide) (by decide)).trans h.dk
  · intro _
    refine ⟨l.set (i * 2 + 1) (.slice (some ⟨g, 0, none⟩) ((d.r i).q.length + 1) cap), blk_set g1' _ _, by rw [List.length_set]; exact g2, g3, fun j hj => ?_⟩
    by_cases c : j = i
    · subst c
      rw [hri]
      have hj' : j < d.k := hj
      refine ⟨?_, ?_⟩
      · rw [List.getElem?_set_ne (by omega)]
        exact (g4 j hj).1
      · rw [List.getElem?_set_self (by omega)]
        show _ = some (qv _ (upd L.qb j g j) (upd L.qm j cap j))
        rw [upd_at, upd_at]
        unfold qv
        rw [hql, pt_pos _ (by omega), cp_pos _ (by omega)]
    · rw [hr j c, List.getElem?_set_ne (by omega), List.getElem?_set_ne (by omega)]
      show _ ∧ _ = some (qv _ (upd L.qb i g j) (upd L.qm i cap j))
      rw [upd_off _ _ c, upd_off _ _ c]
      exact g4 j hj
  · intro j hj
    have e := (hK2 _ _ _ _ (h.lb j hj) (by decide) (by decide)).trans (h.lb j hj)
    by_cases c : j = i
    · subst c; rw [hri]; exact e
    · rw [hr j c]; exact e
  · intro j hj hq
    by_cases c : j = i
    · subst c
      rw [hri] at hq ⊢
      obtain ⟨l', k1, k2, k3, k4, k5⟩ := own
      show ∃ l : List Value, (World.setCell _ _ _).heap[upd L.qb j g j]? = _ ∧ l.length = upd L.qm j cap j * 65 ∧ _ ≤ upd L.qm j cap j ∧ upd L.qm j cap j ≤ maxLen ∧ _
      rw [upd_at, upd_at, hql]
      exact ⟨l', (hbR g hgR).trans k1, k2, k3, k4, k5⟩
    · rw [hr j c] at hq ⊢
      show ∃ l : List Value, (World.setCell _ _ _).heap[upd L.qb i g j]? = _ ∧ l.length = upd L.qm i cap j * 65 ∧ _ ≤ upd L.qm i cap j ∧ upd L.qm i cap j ≤ maxLen ∧ _
      rw [upd_off _ _ c, upd_off _ _ c]
      obtain ⟨l', k1, k2⟩ := h.qb j hj hq
      refine ⟨l', ?_, k2⟩
      rw [hbR _ (fun e => by rw [e, g1] at k1; simp at k1), hblk _ (blk_lt k1) (fun hqi e => c (h.injq j i hj hi hq hqi e))]
      exact k1
  · exact h.injl
  · intro a b ha hb hqa hqb e
    have key : ∀ j, j < d.k → j ≠ i → 0 < (d.r j).q.length → L.qb j ≠ g := by
      intro j hj hne hq e
      obtain ⟨l', k1, _⟩ := h.qb j hj hq
      rcases hg with ⟨q0, rfl⟩ | hg
      · exact hne (h.injq j i hj hi hq q0 e)
      · have := blk_lt k1; omega
    by_cases c1 : a = i
    · by_cases c2 : b = i
      · rw [c1, c2]
      · subst c1
        rw [hr b c2] at hqb
        have e' : g = L.qb b := by simpa [upd_at, upd_off _ _ c2] using e
        exact absurd e'.symm (key b hb c2 hqb)
    · by_cases c2 : b = i
      · subst c2
        rw [hr a c1] at hqa
        have e' : L.qb a = g := by simpa [upd_at, upd_off _ _ c1] using e
        exact absurd e' (key a ha c1 hqa)
      · rw [hr a c1] at hqa
        rw [hr b c2] at hqb
        exact h.injq a b ha hb hqa hqb (by simpa [upd_off _ _ c1, upd_off _ _ c2] using e)
  · exact h.kr.kept (fun b cs fr h1 _ => hK2 b cs _ fr h1 (by decide) (by decide)) fun _ hb => .inl hb
  · exact fun j hj => .inl (h.ownl j hj)
  · intro j hj hq
    show Gr F w w3 (upd L.qb i g j)
    by_cases c : j = i
    · subst c
      rw [upd_at]
      rcases hg with ⟨q0, rfl⟩ | hg
      · exact .inl (h.ownq _ hj q0)
      · exact .inr ⟨hg, hlt⟩
    · rw [hr j c] at hq
      rw [upd_off _ _ c]
      exact .inl (h.ownq j hj hq)
  · intro b hb
    have : (w3.setCell ⟨L.R, i * 2 + 1, none⟩ (.slice (some ⟨g, 0, none⟩) ((d.r i).q.length + 1) cap)).heap.size = w3.heap.size := by simp [World.setCell]
    rw [this]
    rcases hb with hb | hb
    · have := h.lt b hb; omega
    · exact hb.2

/-- What a write comes to, behind the append and the store. -/
theorem DkL.write_end {w w3 : World} {D : Nat} {d : Dk} {F : Nat → Prop} {L : Ly} (h : DkL w D d F L) {i : Nat} (hi : i < d.k) {s : Nat} {x : ByteArray} (hs : s < (d.r i).n) (hx : x.size = 64) {g cap : Nat} {o1 o2 : Obj}
    (own3 : w3.ownsRow 0 124 65 (.slice (some ⟨g, 0, none⟩) ((d.r i).q.length + 1) cap) ((d.r i).q.length + 1) (qc (d.r i).q ++ (wc s x).toList)) (gr3 : ((w.alloc o1).drew.alloc o2).grownBy w3 (Value.slice (pt (d.r i).q.length (L.qb i)) (d.r i).q.length (cp (d.r i).q.length (L.qm i))).ownBlock) (hg3 : (Value.slice (pt (d.r i).q.length (L.qb i)) (d.r i).q.length (cp (d.r i).q.length (L.qm i))).ownBlock = some g ∨ g = w.heap.size + 2) (hlt3 : g < w3.heap.size) :
      w3.cell? ⟨L.R, i * 2 + 1, none⟩ = some (.slice (pt (d.r i).q.length (L.qb i)) (d.r i).q.length (cp (d.r i).q.length (L.qm i))) ∧ w3.frozen? ⟨L.R, i * 2 + 1, none⟩ = false ∧
      (∃ L', L'.R = L.R ∧ DkL (w3.setCell ⟨L.R, i * 2 + 1, none⟩ (.slice (some ⟨g, 0, none⟩) ((d.r i).q.length + 1) cap)) D (d.at i ((d.r i).put s x)) (Gr F w (w3.setCell ⟨L.R, i * 2 + 1, none⟩ (.slice (some ⟨g, 0, none⟩) ((d.r i).q.length + 1) cap))) L') ∧ Kept F w (w3.setCell ⟨L.R, i * 2 + 1, none⟩ (.slice (some ⟨g, 0, none⟩) ((d.r i).q.length + 1) cap)) ∧ Nums w (w3.setCell ⟨L.R, i * 2 + 1, none⟩ (.slice (some ⟨g, 0, none⟩) ((d.r i).q.length + 1) cap)) := by
  have bW : Below w.heap.size w ((w.alloc o1).drew.alloc o2) := ((Below.refl _ _).alloc (Nat.le_refl _) o1).drew.alloc (by simp) o2
  have sW : ((w.alloc o1).drew.alloc o2).heap.size = w.heap.size + 2 := by simp
  have hsz : w.heap.size + 2 ≤ w3.heap.size := by rw [← sW]; exact gr3.size
  have hob : ∀ b, (Value.slice (pt (d.r i).q.length (L.qb i)) (d.r i).q.length (cp (d.r i).q.length (L.qm i))).ownBlock = some b → 0 < (d.r i).q.length ∧ b = L.qb i := by
    intro b hb
    by_cases c : 0 < (d.r i).q.length
    · rw [pt_pos _ c] at hb
      exact ⟨c, by simpa [Value.ownBlock] using hb.symm⟩
    · have e : (d.r i).q.length = 0 := by omega
      rw [e, pt_zero] at hb
      cases hb
  have hblk : ∀ b, b < w.heap.size → (0 < (d.r i).q.length → b ≠ L.qb i) → w3.heap[b]? = w.heap[b]? := fun b hb hne =>
    (gr3.block b (by omega) (fun e => by
      obtain ⟨q0, e'⟩ := hob b e.symm
      exact hne q0 e')).trans (bW.block b hb)
  obtain ⟨l, g1, g2, g3, g4⟩ := h.rows (by omega)
  have hK : ∀ (b : Nat) (cs : Array Value) (T : TypeId) (fr : Nat × Nat), w.heap[b]? = some (.cells cs T fr) → T ≠ 124 → w3.heap[b]? = w.heap[b]? := fun b cs T fr h1 h2 => hblk b (blk_lt h1) (fun hq e => by
    obtain ⟨l', k1, _⟩ := h.qb i hi hq
    rw [e, k1] at h1
    simp at h1
    exact h2 h1.2.1.symm)
  have g1' := (hK _ _ _ _ g1 (by decide)).trans g1
  have hgb : (0 < (d.r i).q.length ∧ g = L.qb i) ∨ w.heap.size ≤ g := by
    rcases hg3 with e | e
    · exact .inl (hob g e)
    · exact .inr (by omega)
  have hown : ∃ l : List Value, w3.heap[g]? = some (.cells l.toArray 124 (0, 0)) ∧ l.length = cap * 65 ∧ (d.r i).q.length + 1 ≤ cap ∧ cap ≤ maxLen ∧ l.take (((d.r i).q.length + 1) * 65) = qc ((d.r i).q ++ [(s, x)]) := by
    rcases own3.2 with ⟨_, e⟩ | ⟨g', cap', cur, e, _, k1, k2, k3, k4, k5⟩
    · omega
    · simp at e
      obtain ⟨rfl, rfl⟩ := e
      refine ⟨cur.toList, by simpa using k1, by simpa using k4, k2, k3, ?_⟩
      rw [k5, qc_app]
      simp [wc, qc]
  have P := h.pushed hi hs hx (by omega) hblk hgb hlt3 hown
  have eS : (w3.setCell ⟨L.R, i * 2 + 1, none⟩ (.slice (some ⟨g, 0, none⟩) ((d.r i).q.length + 1) cap)).heap.size = w3.heap.size := by simp [World.setCell]
  have eG : Gr F w w3 = Gr F w (w3.setCell ⟨L.R, i * 2 + 1, none⟩ (.slice (some ⟨g, 0, none⟩) ((d.r i).q.length + 1) cap)) := by
    funext b
    unfold Gr
    rw [eS]
  rw [eG] at P
  refine ⟨blk_cell g1' (g4 i hi).2, blk_free g1' _, ⟨{ L with qb := upd L.qb i g, qm := upd L.qm i cap }, rfl, P⟩, ?_, ?_⟩
  · refine Kept.setCell ⟨gr3.os.trans bW.os, gr3.tape.trans bW.tape, gr3.output.trans bW.output, by omega, fun k hk hF => hblk k hk fun q0 e => hF (by rw [e]; exact h.ownq i hi q0)⟩ (h.ownR (by omega)) _
  · exact Nums.trans (fun b cs fr hb => hK b cs _ fr hb (by decide)) (Nums.setCell g1' (by decide) _)

set_option maxRecDepth 100000 in
set_option maxHeartbeats 1600000 in
theorem write {w : World} {D : Nat} {d : Dk} {F : Nat → Prop} {L : Ly} (h : DkL w D d F L) {i : Nat} (hi : i < d.k) (hq : (d.r i).q.length < 1048576) {s : Nat} (hs : s < (d.r i).n) {x : ByteArray} (hx : x.size = 64) :
    Calls Try.prog 68 #[rp L i, .int .i64 (s : Int), .string x] w fun e w' => e = .returned (.tuple #[]) ∧ (∃ L', L'.R = L.R ∧ DkL w' D (d.at i ((d.r i).put s x)) (Gr F w w') L') ∧ Kept F w w' ∧ Nums w w' := by
  obtain ⟨c1, c2, c3⟩ := h.cR hi
  have hn := (h.ok.r i hi).n
  unfold rp lv qv at *
  have hz := (zero_of_info (P := Try.prog) infoQ).1
  obtain ⟨i0, hi0, hzz, hsz0, hby⟩ := info_parts infoQ3
  have hzsz : (Value.agg wz).cells.size = 65 := rfl
  have own := h.ownQ hi
  obtain ⟨lr, g1, _⟩ := h.rows (by omega)
  have hRlt := blk_lt g1
  have hz1 : ¬ wz = #[] := by decide
  have hz2 : wz.setIfInBounds 0 (.int .i64 (s : Int)) = wc s noB := wz_set s
  have hzs : wz.size = (wc s noB).size := by rw [wc_size]; rfl
  have hzc : (Value.agg wz).cells = wz := rfl
  generalize wz = Z at hz hz1 hz2 hzs hzc hzz hzsz
  have hI0 : (Try.prog.info? 124).map (·.size) = some (wc s noB).size := by rw [wc_size]; exact infoQ1
  have hI1 : (Try.prog.info? 124).map (·.size) = some (wc s x).size := by rw [wc_size]; exact infoQ1
  have hone := wc_one s noB
  have hcp := copy_wc w s x hx
  have hld : (loadCellsFrom ⟨w.heap.size, 0, none⟩ 0 65 #[]).run Try.prog (w.alloc (.cells (wc s x) 124)).drew = .ok (wc s x) (w.alloc (.cells (wc s x) 124)).drew := run_lcf (W := (w.alloc (.cells (wc s x) 124)).drew) (heap_alloc_last w _) (wc_size s x)
  have HI0 : Hid _ := hI0
  have HI1 : Hid _ := hI1
  have HO : Hid _ := hone
  have HZS : Hid _ := hzs
  clear hI0 hI1 hone hzs
  generalize hC0 : wc s noB = C0 at *
  generalize hC1 : wc s x = C1 at *
  have HC1 : Hid _ := hC1
  clear hC0 hC1
  have r1 : (w.alloc (.cells C1 124)).cell? ⟨L.R, i * 2 + 1, none⟩ = _ := (World.cell?_of_block (w := w) (Below.heap_alloc w _ _ hRlt)).trans c2
  have LEN : Hid (C1.toList.length = 1 * 65) := by show _ = _; rw [← HC1.out, Array.length_toList, wc_size]
  have ONE : Hid (∀ u ∈ C1.toList, u.oneCell' = true) := fun u hu => by
    have := wc_one s x
    rw [HC1.out, Array.all_eq_true_iff_forall_mem] at this
    exact this u (by simpa using hu)
  have OWN : Hid (((w.alloc (.cells C1 124)).drew.alloc (.cells C1 124)).ownsRow 0 124 65 (.slice (pt (d.r i).q.length (L.qb i)) (d.r i).q.length (cp (d.r i).q.length (L.qm i))) (d.r i).q.length (qc (d.r i).q)) := World.ownsRow.alloc (w := (w.alloc (.cells C1 124)).drew) (own.alloc _) _
  have NEW : Hid (∀ j u, C1.toList[j]? = some u → ((w.alloc (.cells C1 124)).drew.alloc (.cells C1 124)).cell? ((⟨w.heap.size + 1, 0, none⟩ : Addr).add j) = some u) := by
    have hb : ((w.alloc (.cells C1 124)).drew.alloc (.cells C1 124)).heap[w.heap.size + 1]? = some (.cells C1 124 (0, 0)) := by
      have := heap_alloc_last (w.alloc (.cells C1 124)).drew (.cells C1 124)
      simpa using this
    exact World.news_of_block hb
  clear own g1
  have FIN : Hid (∀ g cap (w3 : World), w3.ownsRow 0 124 65 (.slice (some ⟨g, 0, none⟩) ((d.r i).q.length + 1) cap) ((d.r i).q.length + 1) (qc (d.r i).q ++ C1.toList) → ((w.alloc (.cells C1 124)).drew.alloc (.cells C1 124)).grownBy w3 (Value.slice (pt (d.r i).q.length (L.qb i)) (d.r i).q.length (cp (d.r i).q.length (L.qm i))).ownBlock → ((Value.slice (pt (d.r i).q.length (L.qb i)) (d.r i).q.length (cp (d.r i).q.length (L.qm i))).ownBlock = some g ∨ g = w.heap.size + 2) → g < w3.heap.size →
      w3.cell? ⟨L.R, i * 2 + 1, none⟩ = some (.slice (pt (d.r i).q.length (L.qb i)) (d.r i).q.length (cp (d.r i).q.length (L.qm i))) ∧ w3.frozen? ⟨L.R, i * 2 + 1, none⟩ = false ∧
      (∃ L', L'.R = L.R ∧ DkL (w3.setCell ⟨L.R, i * 2 + 1, none⟩ (.slice (some ⟨g, 0, none⟩) ((d.r i).q.length + 1) cap)) D (d.at i ((d.r i).put s x)) (Gr F w (w3.setCell ⟨L.R, i * 2 + 1, none⟩ (.slice (some ⟨g, 0, none⟩) ((d.r i).q.length + 1) cap))) L') ∧ Kept F w (w3.setCell ⟨L.R, i * 2 + 1, none⟩ (.slice (some ⟨g, 0, none⟩) ((d.r i).q.length + 1) cap)) ∧ Nums w (w3.setCell ⟨L.R, i * 2 + 1, none⟩ (.slice (some ⟨g, 0, none⟩) ((d.r i).q.length + 1) cap))) := by
    intro g cap w3 own3 gr3 hg3 hlt3
    exact h.write_end hi hs hx (by rw [← HC1.out] at own3; exact own3) gr3 hg3 hlt3
  go_enter Try.func68, Try.ntmps68
  go_wp2_with (refine store_new rfl 124 _ _ rfl w.heap.size rfl C0 rfl rfl Z HI0.out HZS.out HO.out ?_)
  have HG : Hid ((w.alloc (.cells C1 124)).drew.heap[w.heap.size]? = some (.cells C1 124 (0, 0))) := heap_alloc_last w _
  have HCS : Hid (C1.size = 65) := by show _ = _; rw [← HC1.out, wc_size]
  have ESZ : Hid ((w.alloc (.cells C1 124)).drew.heap.size = w.heap.size + 1) := by show _ = _; simp
  clear hld
  refine wp_region_any (by kernel_rfl) ?_
  change wpAny _ _ _ _ _ _ _ (World.drew _)
  refine wpAny_take (i := 0) (v := .pointer (some ⟨L.R, i * 2, none⟩)) rfl (by kernel_rfl) (by kernel_rfl) (by kernel_rfl) (fun _ _ _ h => h) (Or.inl ⟨by rfl, fun w => by go_simp⟩) ?_
  refine wpAny_take (i := 1) (v := .pointer (some ⟨L.R, i * 2, none⟩)) rfl (by kernel_rfl) (by kernel_rfl) (by kernel_rfl) (fun _ _ _ h => h) (Or.inl ⟨by rfl, fun w => by go_simp⟩) ?_
  refine wpAny_take (i := 2) (v := .pointer (some ⟨L.R, i * 2, none⟩)) rfl (by kernel_rfl) (by kernel_rfl) (by kernel_rfl) (fun _ _ _ h => h) (Or.inl ⟨by rfl, fun w => by go_simp⟩) ?_
  refine wpAny_take (i := 3) (v := .pointer (some ⟨L.R, i * 2 + 1, none⟩)) rfl (by kernel_rfl) (by kernel_rfl) (by kernel_rfl) (fun _ _ _ h => h) (Or.inl ⟨by rfl, fun w => by go_simp⟩) ?_
  refine wpAny_ready (rs := [4, 5]) (by kernel_rfl) (by simp) ?_
  refine AllReady.cons rfl (fun K hK => ?_) (AllReady.cons rfl (fun K hK => ?_) AllReady.nil)
  · go_simp
    refine hK _ _ ?_
    clear hK K
    refine wpAny_ready (rs := [5]) (by kernel_rfl) (by simp) ?_
    refine AllReady.cons rfl (fun K hK => ?_) AllReady.nil
    refine step_load_row rfl 124 (.tmp 6) rfl w.heap.size rfl 124 C1 (0, 0) _ HG.out Try.underlying124 rfl HI1.out ?_
    refine hK _ _ ?_
    clear hK K
    refine wpAny_ready (rs := [6]) (by kernel_rfl) (by simp) ?_
    refine AllReady.cons rfl (fun K hK => ?_) AllReady.nil
    refine step_build_one rfl 53 124 (.tmp 18) rfl C1 i0 (.agg Z) Try.underlying53 hi0 hzz (hsz0.trans HCS.out.symm) (by rw [HCS.out]; decide) (by rw [HCS.out]; decide) rfl ?_
    rw [ESZ.out]
    refine hK _ _ ?_
    clear hK K
    refine wpAny_ready (rs := [7]) (by kernel_rfl) (by simp) ?_
    refine AllReady.cons rfl (fun K hK => ?_) AllReady.nil
    refine step_append_lies _ rfl (.tmp 17) (.tmp 19) 53 rfl 0 124 i0 (.agg Z) 65 72 Try.underlying53 hi0 hzz hsz0 hby hzsz (by decide) _ _ _ rfl OWN.out ⟨w.heap.size + 1, 0, none⟩ 1 1 C1.toList rfl LEN.out NEW.out ONE.out (by decide) (by unfold maxLen; omega) (by omega) (Nat.zero_le _) (w.heap.size + 2) (by simp) ?_
    intro g cap w3 own3 gr3 hg3 hlt3
    obtain ⟨f1, f2, f3⟩ := FIN.out g cap w3 own3 gr3 hg3 hlt3
    have F3 := hid f3
    clear f3 own3 gr3 hg3 hlt3
    refine hK _ _ ?_
    clear hK K
    refine wpAny_take (i := 8) (v := .pointer (some ⟨L.R, i * 2, none⟩)) rfl (by kernel_rfl) (by kernel_rfl) (by kernel_rfl) (fun _ _ _ h => h) (Or.inl ⟨by rfl, fun w => by go_simp⟩) ?_
    refine wpAny_take (i := 9) (v := .pointer (some ⟨L.R, i * 2 + 1, none⟩)) rfl (by kernel_rfl) (by kernel_rfl) (by kernel_rfl) (fun _ _ _ h => h) (Or.inl ⟨by rfl, fun w => by go_simp⟩) ?_
    refine wpAny_ready (rs := [10]) (by kernel_rfl) (by simp) ?_
    refine AllReady.cons rfl (fun K hK => ?_) AllReady.nil
    go_simp
    refine hK _ _ ?_
    clear hK K
    refine wpAny_done (by kernel_rfl) ?_ _
    go_wp2
    go_end0
    exact ⟨rfl, F3.out⟩
  · refine step_load_row rfl 124 (.tmp 6) rfl w.heap.size rfl 124 C1 (0, 0) _ HG.out Try.underlying124 rfl HI1.out ?_
    refine hK _ _ ?_
    clear hK K
    refine wpAny_ready (rs := [4, 6]) (by kernel_rfl) (by simp) ?_
    refine AllReady.cons rfl (fun K hK => ?_) (AllReady.cons rfl (fun K hK => ?_) AllReady.nil)
    · go_simp
      refine hK _ _ ?_
      clear hK K
      refine wpAny_ready (rs := [6]) (by kernel_rfl) (by simp) ?_
      refine AllReady.cons rfl (fun K hK => ?_) AllReady.nil
      refine step_build_one rfl 53 124 (.tmp 18) rfl C1 i0 (.agg Z) Try.underlying53 hi0 hzz (hsz0.trans HCS.out.symm) (by rw [HCS.out]; decide) (by rw [HCS.out]; decide) rfl ?_
      rw [ESZ.out]
      refine hK _ _ ?_
      clear hK K
      refine wpAny_ready (rs := [7]) (by kernel_rfl) (by simp) ?_
      refine AllReady.cons rfl (fun K hK => ?_) AllReady.nil
      refine step_append_lies _ rfl (.tmp 17) (.tmp 19) 53 rfl 0 124 i0 (.agg Z) 65 72 Try.underlying53 hi0 hzz hsz0 hby hzsz (by decide) _ _ _ rfl OWN.out ⟨w.heap.size + 1, 0, none⟩ 1 1 C1.toList rfl LEN.out NEW.out ONE.out (by decide) (by unfold maxLen; omega) (by omega) (Nat.zero_le _) (w.heap.size + 2) (by simp) ?_
      intro g cap w3 own3 gr3 hg3 hlt3
      obtain ⟨f1, f2, f3⟩ := FIN.out g cap w3 own3 gr3 hg3 hlt3
      have F3 := hid f3
      clear f3 own3 gr3 hg3 hlt3
      refine hK _ _ ?_
      clear hK K
      refine wpAny_take (i := 8) (v := .pointer (some ⟨L.R, i * 2, none⟩)) rfl (by kernel_rfl) (by kernel_rfl) (by kernel_rfl) (fun _ _ _ h => h) (Or.inl ⟨by rfl, fun w => by go_simp⟩) ?_
      refine wpAny_take (i := 9) (v := .pointer (some ⟨L.R, i * 2 + 1, none⟩)) rfl (by kernel_rfl) (by kernel_rfl) (by kernel_rfl) (fun _ _ _ h => h) (Or.inl ⟨by rfl, fun w => by go_simp⟩) ?_
      refine wpAny_ready (rs := [10]) (by kernel_rfl) (by simp) ?_
      refine AllReady.cons rfl (fun K hK => ?_) AllReady.nil
      go_simp
      refine hK _ _ ?_
      clear hK K
      refine wpAny_done (by kernel_rfl) ?_ _
      go_wp2
      go_end0
      exact ⟨rfl, F3.out⟩
    · refine step_build_one rfl 53 124 (.tmp 18) rfl C1 i0 (.agg Z) Try.underlying53 hi0 hzz (hsz0.trans HCS.out.symm) (by rw [HCS.out]; decide) (by rw [HCS.out]; decide) rfl ?_
      rw [ESZ.out]
      refine hK _ _ ?_
      clear hK K
      have r2 : ((w.alloc (.cells C1 124)).drew.alloc (.cells C1 124)).cell? ⟨L.R, i * 2 + 1, none⟩ = _ := (World.cell?_of_block (w := (w.alloc (.cells C1 124)).drew) (Below.heap_alloc (w.alloc (.cells C1 124)).drew _ _ (by show L.R < _; rw [ESZ.out]; omega))).trans r1
      refine wpAny_ready (rs := [4]) (by kernel_rfl) (by simp) ?_
      refine AllReady.cons rfl (fun K hK => ?_) AllReady.nil
      go_simp
      refine hK _ _ ?_
      clear hK K
      refine wpAny_ready (rs := [7]) (by kernel_rfl) (by simp) ?_
      refine AllReady.cons rfl (fun K hK => ?_) AllReady.nil
      refine step_append_lies _ rfl (.tmp 17) (.tmp 19) 53 rfl 0 124 i0 (.agg Z) 65 72 Try.underlying53 hi0 hzz hsz0 hby hzsz (by decide) _ _ _ rfl OWN.out ⟨w.heap.size + 1, 0, none⟩ 1 1 C1.toList rfl LEN.out NEW.out ONE.out (by decide) (by unfold maxLen; omega) (by omega) (Nat.zero_le _) (w.heap.size + 2) (by simp) ?_
      intro g cap w3 own3 gr3 hg3 hlt3
      obtain ⟨f1, f2, f3⟩ := FIN.out g cap w3 own3 gr3 hg3 hlt3
      have F3 := hid f3
      clear f3 own3 gr3 hg3 hlt3
      refine hK _ _ ?_
      clear hK K
      refine wpAny_take (i := 8) (v := .pointer (some ⟨L.R, i * 2, none⟩)) rfl (by kernel_rfl) (by kernel_rfl) (by kernel_rfl) (fun _ _ _ h => h) (Or.inl ⟨by rfl, fun w => by go_simp⟩) ?_
      refine wpAny_take (i := 9) (v := .pointer (some ⟨L.R, i * 2 + 1, none⟩)) rfl (by kernel_rfl) (by kernel_rfl) (by kernel_rfl) (fun _ _ _ h => h) (Or.inl ⟨by rfl, fun w => by go_simp⟩) ?_
      refine wpAny_ready (rs := [10]) (by kernel_rfl) (by simp) ?_
      refine AllReady.cons rfl (fun K hK => ?_) AllReady.nil
      go_simp
      refine hK _ _ ?_
      clear hK K
      refine wpAny_done (by kernel_rfl) ?_ _
      go_wp2
      go_end0
      exact ⟨rfl, F3.out⟩

end Go.Proofs.Ytaojoecmbgmhoaa.Wd

namespace Go.Proofs.Ytaojoecmbgmhoaa.Wd
open Go.ChangeShapes Go.WideShapes Go.ChangeAt Go.RowKit Go.Proofs.Ytaojoecmbgmhoaa.M

theorem K64.get {K : List Int} (h : K64 K) {i : Nat} (hi : i < K.length) : 0 ≤ K.getD i 0 ∧ K.getD i 0 < 18446744073709551616 := by
  rw [List.getD_eq_getElem?_getD, List.getElem?_eq_getElem hi]
  exact h _ (List.getElem_mem hi)

set_option maxRecDepth 100000 in
theorem keptBy {w : World} {K : List Int} {ao : Option Addr} {c i : Nat} (hK : K64 K) (hc : i < K.length → ∃ b o, ao = some ⟨b, o, none⟩ ∧ w.cell? ⟨b, o + i, none⟩ = some (.int .u64 (K.getD i 0))) :
    Calls Try.prog 46 #[.slice ao K.length c, .int .i64 (i : Int)] w fun e w' => ∃ fv, e = .returned fv ∧ FV w' fv (kb K i) ∧ Below w.heap.size w w' := by
  by_cases hl : i < K.length
  · obtain ⟨b, o, rfl, c1⟩ := hc hl
    have hx := K64.get hK hl
    have hkb : Hid (∀ m, kb K i m = bitB (K.getD i 0) ((m % 64 : Nat) : Int)) := fun m => if_pos hl
    clear hc
    generalize K.getD i 0 = x at c1 hx hkb
    go_enter Try.func46, Try.ntmps46
    go_wp2
    go_ret
    refine ⟨_, rfl, .inr (.inr ⟨w.heap.size, x, rfl, ?_, hx.1, hx.2, hkb.out⟩), (Below.refl _ _).alloc (Nat.le_refl _) _⟩
    exact heap_alloc_last w _
  · have hkb : Hid (∀ m, kb K i m = false) := fun m => if_neg hl
    clear hc
    go_enter Try.func46, Try.ntmps46
    go_wp2
    go_ret
    exact ⟨_, rfl, .inr (.inl ⟨rfl, hkb.out⟩), Below.refl _ _⟩

/-- The first i regions settled. -/
def lk (d : Dk) (K : List Int) (i : Nat) : Dk := { d with r := fun j => if j < i then (d.r j).set (kb K j) else d.r j }
theorem lk_zero (d : Dk) (K : List Int) : lk d K 0 = d := by
  unfold lk
  cases d
  simp
theorem lk_r {d : Dk} {K : List Int} {i : Nat} : (lk d K i).r i = d.r i := by show (if i < i then _ else _) = _; rw [if_neg (by omega)]
theorem lk_succ (d : Dk) (K : List Int) (i : Nat) : (lk d K i).at i (((lk d K i).r i).set (kb K i)) = lk d K (i + 1) := by
  rw [lk_r]
  unfold lk Dk.at
  simp only
  congr 1
  funext j
  unfold upd
  show (if j = i then _ else if j < i then _ else _) = _
  by_cases c : j = i
  · subst c
    rw [if_pos rfl, if_pos (by omega)]
  · rw [if_neg c]
    by_cases c2 : j < i
    · rw [if_pos c2, if_pos (by omega)]
    · rw [if_neg c2, if_neg (by omega)]

theorem DkL.congr {w : World} {D : Nat} {d d' : Dk} {F : Nat → Prop} {L : Ly} (h : DkL w D d F L) (hk : d'.k = d.k) (ho : d'.off = d.off) (ha : d'.ask = d.ask) (hr : ∀ j, j < d.k → d'.r j = d.r j) : DkL w D d' F L where
  dk := by rw [hk, ho, ha]; exact h.dk
  rows := fun hp => by
    rw [hk] at hp ⊢
    obtain ⟨l, h1, h2, h3, h4⟩ := h.rows hp
    exact ⟨l, h1, h2, h3, fun i hi => by rw [hr i hi]; exact h4 i hi⟩
  lb := fun i hi => by rw [hk] at hi; rw [hr i hi]; exact h.lb i hi
  qb := fun i hi => by rw [hk] at hi; rw [hr i hi]; exact h.qb i hi
  injl := fun i j hi hj => by rw [hk] at hi hj; exact h.injl i j hi hj
  injq := fun i j hi hj => by rw [hk] at hi hj; rw [hr i hi, hr j hj]; exact h.injq i j hi hj
  kr := by rw [ha]; exact h.kr
  ownD := h.ownD
  ownR := fun hp => by rw [hk] at hp; exact h.ownR hp
  ownl := fun i hi => by rw [hk] at hi; exact h.ownl i hi
  ownq := fun i hi => by rw [hk] at hi; rw [hr i hi]; exact h.ownq i hi
  lt := h.lt
  ok := ⟨by rw [hk]; exact h.ok.k, fun i hi => by rw [hk] at hi; rw [hr i hi]; exact h.ok.r i hi, fun a l K e => by rw [ha] at e; rw [hk]; exact h.ok.ask a l K e⟩

theorem DkL.below {w w1 : World} {D : Nat} {d : Dk} {F : Nat → Prop} {L : Ly} (h : DkL w D d F L) (b : Below w.heap.size w w1) : DkL w1 D d F L := h.kept b.size fun k hk => b.block k (h.lt k hk)
theorem DkL.grow {w0 w w1 : World} {D : Nat} {d : Dk} {F : Nat → Prop} {L : Ly} (h : DkL w D d (Gr F w0 w) L) (hs : w.heap.size ≤ w1.heap.size) (h1 : DkL w1 D d (Gr F w0 w) L) : DkL w1 D d (Gr F w0 w1) L :=
  h1.more (fun b hb => hb.imp id fun x => ⟨x.1, by omega⟩) fun b hb => by
    rcases hb with hb | hb
    · have := h.lt b (.inl hb); omega
    · exact hb.2

set_option maxRecDepth 100000 in
set_option maxHeartbeats 1600000 in
theorem lose {w : World} {D : Nat} {d : Dk} {F : Nat → Prop} {L : Ly} (h : DkL w D d F L) (hq : ∀ j, j < d.k → (d.r j).q.length ≤ 1048576) {K : List Int} {ao : Option Addr} (hK : KR F w ao K) (h64 : K64 K) (c : Nat) :
    Calls Try.prog 27 #[.pointer (some ⟨D, 0, none⟩), .slice ao K.length c] w fun e w' => e = .returned (.tuple #[]) ∧ DkL w' D (d.lose K) (Gr F w w') L ∧ Kept F w w' ∧ Nums w w' := by
  have hk8 := h.ok.k
  obtain ⟨c1, c2, c3⟩ := h.cD
  clear c2 c3
  go_enter Try.func27, Try.ntmps27
  go_wp2
  go_loopw [10] (fun iv wr => ∃ i : Nat, i ≤ d.k ∧ iv = .int .i64 (i : Int) ∧ DkL wr D (lk d K i) (Gr F w wr) L ∧ Kept F w wr ∧ Nums w wr) (fun iv _ => d.k - (intOf iv).toNat)
  case atStart => exact ⟨0, Nat.zero_le _, rfl, by rw [lk_zero, Gr.self]; exact h, Kept.refl _ _, Nums.refl _⟩
  case round =>
    obtain ⟨i, hi, rfl, hd, hkp, hnm⟩ := hrel
    by_cases hlt : i < d.k
    · have hci : ∀ W, Below wr.heap.size wr W → i < K.length → ∃ b o, ao = some ⟨b, o, none⟩ ∧ W.cell? ⟨b, o + i, none⟩ = some (.int .u64 (K.getD i 0)) := fun W hW hiK => by
        obtain ⟨b, o, e1, e2⟩ := (hK.step hkp hnm).cell hiK
        refine ⟨b, o, e1, ?_⟩
        have hb : b < wr.heap.size := by
          rcases hK.step hkp hnm with e | ⟨b', o', cs, T, fr, g1, g2, _⟩
          · rw [e] at hiK; simp at hiK
          · rw [e1] at g1
            simp at g1
            rw [g1.1]
            exact blk_lt g2
        rw [hW.cell (by exact hb)]
        exact e2
      have CK := hid (keptBy (w := wr.drew) (c := c) h64 (hci wr.drew (Below.refl _ _).drew))
      have r1 : wr.cell? ⟨D, 0, none⟩ = some (.slice (some ⟨L.R, 0, none⟩) d.k L.rc) := by
        have := hd.cD.1
        rw [show (lk d K i).k = d.k from rfl, pt_pos _ (by omega), cp_pos _ (by omega)] at this
        exact this
      have CS : Hid (∀ w1 fv, FV w1 fv (kb K i) → Below wr.heap.size wr w1 → Calls Try.prog 45 #[rp L i, fv] w1 fun e w' => e = .returned (.tuple #[]) ∧ DkL w' D (lk d K (i + 1)) (Gr F w w') L ∧ Kept F w w' ∧ Nums w w') := fun w1 fv hfv b1 => by
        have hd1 := hd.grow b1.size (hd.below b1)
        refine (settle hd1 (i := i) hlt (by rw [lk_r]; exact hq i hlt) hfv).mono ?_
        rintro e w2 ⟨rfl, g1, g2, g3, g4⟩
        rw [lk_succ] at g1
        refine ⟨rfl, ?_, ?_, hnm.trans ((Nums.of_below b1).trans g3)⟩
        · have : Gr F w w1 = Gr F w w2 := by unfold Gr; rw [g4]
          rw [← this]; exact g1
        · have e1 : Kept F w w1 := hkp.trans (.of_below b1)
          exact e1.trans g2
      have C2 : Hid (∀ W, Below wr.heap.size wr W → W.cell? ⟨D, 0, none⟩ = some (.slice (some ⟨L.R, 0, none⟩) d.k L.rc)) := fun W hW => (hW.cell (hd.lt D hd.ownD)).trans r1
      unfold rp at CS
      clear hci hd hkp hnm
      go_wp2_with fail
      go_region_with (first | (go_at_call 46; refine CK.out.mono ?_; rintro e w1 ⟨fv, rfl, hfv, b0⟩; have b1 := (Below.refl wr.heap.size wr).drew.trans b0; have b2 := hid b1; have FV1 := hid hfv; have r2 := C2.out w1 b1; clear b0 b1 hfv) | (go_at_call 45; refine (CS.out _ _ FV1.out b2.out).mono ?_; rintro e w2 ⟨rfl, g1, g2, g3⟩; have GG := hid (And.intro g1 (And.intro g2 g3)); clear g1 g2 g3))
      all_goals try go_wp2
      all_goals go_roundw
      all_goals first | exact ⟨i + 1, by omega, by go_num, GG.out⟩ | (simp [intOf] <;> omega)
    · have hE : i = d.k := by omega
      subst hE
      have hP := hid (And.intro (hd.congr (d' := d.lose K) rfl rfl rfl (fun j hj => (if_pos hj).symm)) (And.intro hkp hnm))
      clear hd hkp hnm
      go_wp2
      go_end0
      exact ⟨rfl, hP.out⟩

end Go.Proofs.Ytaojoecmbgmhoaa.Wd

namespace Go.Proofs.Ytaojoecmbgmhoaa.Wd
open Go.ChangeShapes Go.WideShapes Go.ChangeAt Go.RowKit Go.Proofs.Ytaojoecmbgmhoaa.M

def dp (D : Nat) : Value := .pointer (some ⟨D, 0, none⟩)

theorem has_iff {d : Dk} {a : Int} : d.has a = true ↔ 0 ≤ a ∧ a < d.k := by unfold Dk.has; simp
theorem has_nat {d : Dk} {a : Int} (h : d.has a = true) : ∃ i : Nat, a = (i : Int) ∧ i < d.k := by
  obtain ⟨h1, h2⟩ := has_iff.1 h
  obtain ⟨i, rfl⟩ := Int.eq_ofNat_of_zero_le h1
  exact ⟨i, rfl, by omega⟩

set_option maxRecDepth 100000 in
theorem sectorsD {w : World} {D : Nat} {d : Dk} {F : Nat → Prop} {L : Ly} (h : DkL w D d F L) (a : Int) :
    Calls Try.prog 18 #[dp D, .int .i64 a] w fun e w' => e = .returned (.int .i64 (d.secs a : Int)) ∧ w = w' := by
  have CF := hid (find h (a := a))
  unfold dp
  by_cases c : d.has a = true
  · rw [if_pos c] at CF
    obtain ⟨i, rfl, hi⟩ := has_nat c
    have CS := hid (sectorsR h hi)
    have hE : Hid (d.secs (i : Int) = (d.r i).n) := if_pos c
    rw [Int.toNat_natCast] at CF
    unfold rp at CF CS
    clear c
    go_enter Try.func18, Try.ntmps18
    go_wp2_with fail
    refine CF.out.mono ?_
    rintro e w1 ⟨rfl, rfl⟩
    go_wp2_with fail
    refine CS.out.mono ?_
    rintro e w1 ⟨rfl, rfl⟩
    go_wp2
    go_ret
    exact ⟨by rw [hE.out]; rfl, rfl⟩
  · rw [if_neg c] at CF
    have hE : Hid (d.secs a = 0) := if_neg c
    clear c
    go_enter Try.func18, Try.ntmps18
    go_wp2_with fail
    refine CF.out.mono ?_
    rintro e w1 ⟨rfl, rfl⟩
    go_wp2
    go_ret
    exact ⟨by rw [hE.out]; rfl, rfl⟩

set_option maxRecDepth 100000 in
theorem offD {w : World} {D : Nat} {d : Dk} {F : Nat → Prop} {L : Ly} (h : DkL w D d F L) :
    Calls Try.prog 10 #[dp D] w fun e w' => e = .returned (.bool d.off) ∧ w = w' := by
  have c2 := h.cD.2.1
  unfold dp
  go_enter Try.func10, Try.ntmps10
  go_wp2
  go_ret
  exact ⟨rfl, rfl⟩

/-- The region, or nil. -/
def ra (L : Ly) (a : Int) (b : Bool) : Value := if b = true then rp L a.toNat else .pointer none

set_option maxRecDepth 100000 in
theorem regionAsked {w : World} {D : Nat} {d : Dk} {F : Nat → Prop} {L : Ly} (h : DkL w D d F L) (a : Int) :
    Calls Try.prog 65 #[dp D, .int .i64 a] w fun e w' => e = .returned (.tuple #[ra L a (d.preF a == 0), .int .i64 (d.preF a)]) ∧ w = w' := by
  have CF := hid (find h (a := a))
  have c2 := h.cD.2.1
  unfold dp
  by_cases co : d.off = true
  · have hE : Hid (d.preF a = 11) := if_pos co
    rw [co] at c2
    clear co
    go_enter Try.func65, Try.ntmps65
    go_wp2
    go_ret2
    exact ⟨by rw [hE.out]; rfl, rfl⟩
  · rw [(by simpa using co : d.off = false)] at c2
    by_cases c : d.has a = true
    · have hE : Hid (d.preF a = 0) := (if_neg co).trans (if_pos c)
      rw [if_pos c] at CF
      unfold rp at CF
      clear c co
      go_enter Try.func65, Try.ntmps65
      go_wp2_with fail
      refine CF.out.mono ?_
      rintro e w1 ⟨rfl, rfl⟩
      go_wp2
      go_ret2
      exact ⟨by rw [hE.out]; rfl, rfl⟩
    · have hE : Hid (d.preF a = 10) := (if_neg co).trans (if_neg c)
      rw [if_neg c] at CF
      clear c co
      go_enter Try.func65, Try.ntmps65
      go_wp2_with fail
      refine CF.out.mono ?_
      rintro e w1 ⟨rfl, rfl⟩
      go_wp2
      go_ret2
      exact ⟨by rw [hE.out]; rfl, rfl⟩

def raS (L : Ly) (a : Int) (b : Bool) : Value := if b = true then rp L a.toNat else .pointer none

theorem preF_ok {d : Dk} {a : Int} (h : d.preF a = 0) : d.off = false ∧ d.has a = true := by
  unfold Dk.preF at h
  split at h
  · cases h
  · split at h
    · exact ⟨by simpa using ‹¬ d.off = true›, ‹_›⟩
    · cases h
theorem preF_range (d : Dk) (a : Int) : d.preF a = 0 ∨ d.preF a = 10 ∨ d.preF a = 11 := by
  unfold Dk.preF
  split
  · simp
  · split <;> simp
theorem readE_pre {d : Dk} {a b : Int} (h : ¬ d.preF a = 0) : d.readE a b = d.preF a := by
  by_cases ho : d.off = true
  · simp [Dk.preF, Dk.readE, ho]
  · by_cases hh : d.has a = true
    · exact absurd (by simp [Dk.preF, ho, hh]) h
    · simp [Dk.preF, Dk.readE, Dk.hasS, ho, hh]
theorem readE_in {d : Dk} {a b : Int} (h : d.preF a = 0) : d.readE a b = if 0 ≤ b ∧ b < (d.r a.toNat).n then 0 else 10 := by
  obtain ⟨h1, h2⟩ := preF_ok h
  unfold Dk.readE Dk.hasS
  rw [h1, h2]
  simp

set_option maxRecDepth 100000 in
theorem sectorAsked {w : World} {D : Nat} {d : Dk} {F : Nat → Prop} {L : Ly} (h : DkL w D d F L) (a b : Int) :
    Calls Try.prog 47 #[dp D, .int .i64 a, .int .i64 b] w fun e w' => e = .returned (.tuple #[raS L a (d.readE a b == 0), .int .i64 (d.readE a b)]) ∧ w = w' := by
  have CA := hid (regionAsked h a)
  unfold dp at *
  by_cases c : d.preF a = 0
  · obtain ⟨c1, c2⟩ := preF_ok c
    have hE := readE_in (b := b) c
    obtain ⟨i, rfl, hi⟩ := has_nat c2
    rw [c] at CA
    have e1 : ra L (i : Int) ((0 : Int) == 0) = .pointer (some ⟨L.R, i * 2, none⟩) := rfl
    rw [e1] at CA
    have CS := hid (sectorsR h hi)
    rw [Int.toNat_natCast] at hE
    unfold rp at CS
    clear c c1 c2 e1
    by_cases cb : 0 ≤ b ∧ b < (d.r i).n
    · rw [if_pos cb] at hE
      have HE := hid hE
      clear hE
      generalize (d.r i).n = n at *
      go_enter Try.func47, Try.ntmps47
      go_wp2_with fail
      refine CA.out.mono ?_
      rintro e w1 ⟨rfl, rfl⟩
      go_wp2_with fail
      refine CS.out.mono ?_
      rintro e w1 ⟨rfl, rfl⟩
      go_wp2
      go_ret2
      exact ⟨by rw [HE.out]; rfl, rfl⟩
    · rw [if_neg cb] at hE
      have HE := hid hE
      clear hE
      generalize (d.r i).n = n at *
      rcases Int.lt_or_le b 0 with cb0 | cb0
      · go_enter Try.func47, Try.ntmps47
        go_wp2_with fail
        refine CA.out.mono ?_
        rintro e w1 ⟨rfl, rfl⟩
        go_wp2
        go_ret2
        exact ⟨by rw [HE.out]; rfl, rfl⟩
      · have cb1 : (n : Int) ≤ b := by omega
        go_enter Try.func47, Try.ntmps47
        go_wp2_with fail
        refine CA.out.mono ?_
        rintro e w1 ⟨rfl, rfl⟩
        go_wp2_with fail
        refine CS.out.mono ?_
        rintro e w1 ⟨rfl, rfl⟩
        go_wp2
        go_ret2
        exact ⟨by rw [HE.out]; rfl, rfl⟩
  · have hE := hid (readE_pre (b := b) c)
    have hx : (d.preF a == 0) = false := by simpa using c
    have hx2 : ra L a (d.preF a == 0) = .pointer none := by rw [hx]; rfl
    rw [hx2] at CA
    generalize d.preF a = E at *
    clear hx2
    go_enter Try.func47, Try.ntmps47
    go_wp2_with fail
    refine CA.out.mono ?_
    rintro e w1 ⟨rfl, rfl⟩
    go_wp2
    go_ret2
    refine ⟨?_, rfl⟩
    rw [hE.out]
    have : raS L a (E == 0) = .pointer none := by
      unfold raS
      rw [if_neg (by simpa using c)]
    rw [this]
    rfl

set_option maxRecDepth 100000 in
theorem readD {w : World} {D : Nat} {d : Dk} {F : Nat → Prop} {L : Ly} (h : DkL w D d F L) (hq : ∀ j, j < d.k → (d.r j).q.length ≤ 1048576) (a b : Int) :
    Calls Try.prog 29 #[dp D, .int .i64 a, .int .i64 b] w fun e w' => e = .returned (.tuple #[.string (d.readB a b), .int .i64 (d.readE a b)]) ∧ w = w' := by
  have CA := hid (sectorAsked h a b)
  unfold dp at *
  by_cases c : d.readE a b = 0
  · have hB : Hid (d.readB a b = (d.r a.toNat).rd b.toNat) := if_pos c
    have HE := hid c
    rw [c] at CA
    have c1 : d.preF a = 0 := by
      by_cases c1 : d.preF a = 0
      · exact c1
      · rw [readE_pre c1] at c; exact c
    have c3 := c
    rw [readE_in c1] at c3
    obtain ⟨_, c2⟩ := preF_ok c1
    obtain ⟨i, rfl, hi⟩ := has_nat c2
    rw [Int.toNat_natCast] at c3 hB
    have cb : 0 ≤ b ∧ b < (d.r i).n := by
      by_cases cb : 0 ≤ b ∧ b < (d.r i).n
      · exact cb
      · rw [if_neg cb] at c3; cases c3
    obtain ⟨s, rfl⟩ := Int.eq_ofNat_of_zero_le cb.1
    have CR := hid (read h hi (s := s) (by omega) (hq i hi))
    rw [Int.toNat_natCast] at hB
    have e1 : raS L (i : Int) ((0 : Int) == 0) = .pointer (some ⟨L.R, i * 2, none⟩) := rfl
    rw [e1] at CA
    unfold rp at CR
    clear c c1 c2 c3 cb e1
    go_enter Try.func29, Try.ntmps29
    go_wp2_with fail
    refine CA.out.mono ?_
    rintro e w1 ⟨rfl, rfl⟩
    go_wp2_with fail
    refine CR.out.mono ?_
    rintro e w1 ⟨rfl, rfl⟩
    go_wp2
    go_ret2
    exact ⟨by rw [hB.out, HE.out]; rfl, rfl⟩
  · have hB : Hid (d.readB a b = ⟨#[]⟩) := if_neg c
    have hx2 : raS L a (d.readE a b == 0) = .pointer none := by
      unfold raS
      rw [if_neg (by simpa using c)]
    rw [hx2] at CA
    have hx : (d.readE a b == 0) = false := by simpa using c
    generalize d.readE a b = E at *
    go_enter Try.func29, Try.ntmps29
    go_wp2_with fail
    refine CA.out.mono ?_
    rintro e w1 ⟨rfl, rfl⟩
    go_wp2
    go_ret2
    exact ⟨by rw [hB.out]; rfl, rfl⟩

end Go.Proofs.Ytaojoecmbgmhoaa.Wd

namespace Go.Proofs.Ytaojoecmbgmhoaa.Wd
open Go.ChangeShapes Go.WideShapes Go.ChangeAt Go.RowKit Go.Proofs.Ytaojoecmbgmhoaa.M

/-- The disk's own cells have turned. -/
theorem DkL.setD {w w' : World} {D : Nat} {d : Dk} {F G : Nat → Prop} {L : Ly} (h : DkL w D d F L) {off : Bool} {ask : Option (Nat × Nat × List Int)} {ka : Option Addr} {kc : Nat}
    (hb : w'.heap[D]? = some (.cells #[.slice (pt d.k L.R) d.k (cp d.k L.rc), .bool off, .int .i64 (aR ask), .int .i64 (aL ask), .slice ka (aK ask).length kc] 51 (0, 0))) (hk : ∀ b, b ≠ D → b < w.heap.size → w'.heap[b]? = w.heap[b]?)
    (hFG : ∀ b, F b → G b) (hlt : ∀ b, G b → b < w'.heap.size) (hkr : KO G w' ka (aK ask)) (hok : ∀ a l K, ask = some (a, l, K) → a < d.k ∧ l < 9223372036854775808 ∧ K64 K) : DkL w' D { d with off := off, ask := ask } G { L with ka := ka, kc := kc } := by
  have hK : ∀ (b : Nat) (cs : Array Value) (T : TypeId) (fr : Nat × Nat), w.heap[b]? = some (.cells cs T fr) → T ≠ 51 → w'.heap[b]? = w.heap[b]? := fun b cs T fr h1 h2 => hk b (fun e => by
    rw [e, h.dk] at h1
    simp at h1
    exact h2 h1.2.1.symm) (blk_lt h1)
  exact {
    dk := hb
    rows := fun hp => by
      obtain ⟨l, h1, h2⟩ := h.rows hp
      exact ⟨l, (hK _ _ _ _ h1 (by decide)).trans h1, h2⟩
    lb := fun i hi => (hK _ _ _ _ (h.lb i hi) (by decide)).trans (h.lb i hi)
    qb := fun i hi hq => by
      obtain ⟨l, h1, h2⟩ := h.qb i hi hq
      exact ⟨l, (hK _ _ _ _ h1 (by decide)).trans h1, h2⟩
    injl := h.injl
    injq := h.injq
    kr := hkr
    ownD := hFG _ h.ownD
    ownR := fun hp => hFG _ (h.ownR hp)
    ownl := fun i hi => hFG _ (h.ownl i hi)
    ownq := fun i hi hq => hFG _ (h.ownq i hi hq)
    lt := hlt
    ok := ⟨h.ok.k, h.ok.r, hok⟩ }

/-- A store into the disk's own cells. -/
theorem setD_cell {w : World} {D j : Nat} {v : Value} {l : List Value} (h : w.heap[D]? = some (.cells l.toArray 51 (0, 0))) : (w.setCell ⟨D, j, none⟩ v).heap[D]? = some (.cells (l.set j v).toArray 51 (0, 0)) := blk_set h j v
theorem setD_other {w : World} {D j : Nat} {v : Value} {b : Nat} (h : b ≠ D) : (w.setCell ⟨D, j, none⟩ v).heap[b]? = w.heap[b]? := Below.heap_setCell _ _ _ _ h
theorem setD_size {w : World} {D j : Nat} {v : Value} : (w.setCell ⟨D, j, none⟩ v).heap.size = w.heap.size := by simp [World.setCell]

/-- Four cells of the disk stored. -/
def off4 (w : World) (D : Nat) (b : Bool) : World := (((w.setCell ⟨D, 1, none⟩ (.bool b)).setCell ⟨D, 2, none⟩ (.int .i64 0)).setCell ⟨D, 3, none⟩ (.int .i64 0)).setCell ⟨D, 4, none⟩ (.slice none 0 0)
theorem DkL.off4 {w : World} {D : Nat} {d : Dk} {F : Nat → Prop} {L : Ly} (h : DkL w D d F L) (b : Bool) :
    (∃ L', DkL (off4 w D b) D { d with off := b, ask := none } F L') ∧ Kept F w (off4 w D b) ∧ Nums w (off4 w D b) ∧ (Wd.off4 w D b).heap.size = w.heap.size := by
  have e1 := setD_cell (j := 1) (v := .bool b) h.dk
  have e2 := setD_cell (j := 2) (v := .int .i64 0) e1
  have e3 := setD_cell (j := 3) (v := .int .i64 0) e2
  have e4 := setD_cell (j := 4) (v := .slice none 0 0) e3
  have hs : (Wd.off4 w D b).heap.size = w.heap.size := by unfold Wd.off4; rw [setD_size, setD_size, setD_size, setD_size]
  have ho : ∀ k, k ≠ D → (Wd.off4 w D b).heap[k]? = w.heap[k]? := fun k hk => by unfold Wd.off4; rw [setD_other hk, setD_other hk, setD_other hk, setD_other hk]
  refine ⟨⟨_, h.setD (ask := none) (ka := none) (kc := 0) e4 (fun k hk _ => ho k hk) (fun _ hb => hb) (fun k hk => by rw [hs]; exact h.lt k hk) (.inl rfl) (fun a l K e => by cases e)⟩, ?_, ?_, hs⟩
  · exact Kept.setCell (Kept.setCell (Kept.setCell (Kept.setCell (Kept.refl _ _) h.ownD _) h.ownD _) h.ownD _) h.ownD _
  · exact (Nums.setCell h.dk (by decide) _).trans ((Nums.setCell e1 (by decide) _).trans ((Nums.setCell e2 (by decide) _).trans (Nums.setCell e3 (by decide) _)))

set_option maxRecDepth 100000 in
theorem onD {w : World} {D : Nat} {d : Dk} {F : Nat → Prop} {L : Ly} (h : DkL w D d F L) :
    Calls Try.prog 11 #[dp D] w fun e w' => e = .returned (.tuple #[]) ∧ (∃ L', DkL w' D d.on F L') ∧ Kept F w w' ∧ Nums w w' ∧ w'.heap.size = w.heap.size := by
  obtain ⟨c1, c2, c3, c4, c5, c6⟩ := h.cD
  have HP := hid (h.off4 false)
  unfold off4 at HP
  unfold dp
  go_enter Try.func11, Try.ntmps11
  go_wp2
  go_end0
  exact ⟨rfl, HP.out⟩

set_option maxRecDepth 100000 in
theorem crashD {w : World} {D : Nat} {d : Dk} {F : Nat → Prop} {L : Ly} (h : DkL w D d F L) (hq : ∀ j, j < d.k → (d.r j).q.length ≤ 1048576) {K : List Int} {ao : Option Addr} (hK : KR F w ao K) (h64 : K64 K) (c : Nat) :
    Calls Try.prog 14 #[dp D, .slice ao K.length c] w fun e w' => e = .returned (.tuple #[]) ∧ (∃ L', DkL w' D (d.crash K) (Gr F w w') L') ∧ Kept F w w' ∧ Nums w w' := by
  have CL := hid (lose h hq hK h64 c)
  unfold dp
  go_enter Try.func14, Try.ntmps14
  go_wp2_with fail
  refine CL.out.mono ?_
  rintro e w1 ⟨rfl, g1, g2, g3⟩
  have CO := hid (onD g1)
  have GG := hid (And.intro g2 g3)
  clear g1 g2 g3
  unfold dp at CO
  go_wp2_with fail
  refine CO.out.mono ?_
  rintro e w2 ⟨rfl, ⟨L2, k1⟩, k2, k3, k4⟩
  have KK := hid (And.intro k1 (And.intro k2 (And.intro k3 k4)))
  clear k1 k2 k3 k4
  go_wp2
  go_end0
  obtain ⟨k1, k2, k3, k4⟩ := KK.out
  obtain ⟨g2, g3⟩ := GG.out
  refine ⟨rfl, ⟨L2, ?_⟩, g2.trans k2, g3.trans k3⟩
  have : Gr F w w2 = Gr F w w1 := by unfold Gr; rw [k4]
  rw [this]
  exact k1

end Go.Proofs.Ytaojoecmbgmhoaa.Wd

namespace Go.Proofs.Ytaojoecmbgmhoaa.Wd
open Go.ChangeShapes Go.WideShapes Go.ChangeAt Go.RowKit Go.Proofs.Ytaojoecmbgmhoaa.M

theorem now_none {d : Dk} {a : Nat} (h : d.ask = none) : d.now a = false ∧ d.cnt a = d := by unfold Dk.now Dk.cnt; rw [h]; exact ⟨rfl, rfl⟩
theorem now_some {d : Dk} {a b l : Nat} {K : List Int} (h : d.ask = some (b, l, K)) : d.now a = decide (b = a ∧ l = 1) ∧ d.cnt a = if b = a then (if l = 1 then { d.lose K with off := true, ask := none } else { d with ask := some (b, l - 1, K) }) else d := by unfold Dk.now Dk.cnt; rw [h]; exact ⟨rfl, rfl⟩

/-- How many calls are left, stored. -/
theorem DkL.left {w : World} {D : Nat} {d : Dk} {F : Nat → Prop} {L : Ly} (h : DkL w D d F L) {b l m : Nat} {K : List Int} (ha : d.ask = some (b, l, K)) (hm : m ≤ l) :
    DkL (w.setCell ⟨D, 3, none⟩ (.int .i64 (m : Int))) D { d with ask := some (b, m, K) } F L ∧ Kept F w (w.setCell ⟨D, 3, none⟩ (.int .i64 (m : Int))) ∧ Nums w (w.setCell ⟨D, 3, none⟩ (.int .i64 (m : Int))) ∧ (w.setCell ⟨D, 3, none⟩ (.int .i64 (m : Int))).heap.size = w.heap.size := by
  have hok := h.ok.ask b l K ha
  have e1 := setD_cell (j := 3) (v := .int .i64 (m : Int)) h.dk
  have hkr := h.kr
  rw [ha] at e1 hkr
  refine ⟨?_, Kept.setCell (Kept.refl _ _) h.ownD _, Nums.setCell h.dk (by decide) _, setD_size⟩
  have := h.setD (off := d.off) (ask := some (b, m, K)) (ka := L.ka) (kc := L.kc) e1 (fun k hk _ => setD_other hk) (fun _ hb => hb) (fun k hk => by rw [setD_size]; exact h.lt k hk) (hkr.kept (fun b' cs fr hb _ => Nums.setCell h.dk (by decide) _ b' cs fr hb) fun _ hb => hb) (fun a' l' K' e => by
    simp at e
    obtain ⟨rfl, rfl, rfl⟩ := e
    exact ⟨hok.1, by omega, hok.2.2⟩)
  exact this

set_option maxRecDepth 100000 in
theorem fails {w : World} {D : Nat} {d : Dk} {F : Nat → Prop} {L : Ly} (h : DkL w D d F L) (hq : ∀ j, j < d.k → (d.r j).q.length ≤ 1048576) (a : Nat) :
    Calls Try.prog 69 #[dp D, .int .i64 (a : Int)] w fun e w' => e = .returned (.bool (d.now a)) ∧ ((d.now a = false → w'.heap.size = w.heap.size ∧ DkL w' D (d.cnt a) F L) ∧ (∃ L', DkL w' D (d.cnt a) (Gr F w w') L')) ∧ Kept F w w' ∧ Nums w w' := by
  obtain ⟨c1, c2, c3, c4, c5, c6⟩ := h.cD
  clear c1 c2
  unfold dp
  have SAME : ∀ {W : World} {d' : Dk}, DkL W D d' F L → W.heap.size = w.heap.size → Kept F w W → Nums w W → ((False → False) ∧ (W.heap.size = w.heap.size ∧ DkL W D d' F L)) ∧ (∃ L', DkL W D d' (Gr F w W) L') ∧ Kept F w W ∧ Nums w W := by
    intro W d' h1 h2 h3 h4
    refine ⟨⟨id, h2, h1⟩, ⟨L, ?_⟩, h3, h4⟩
    have : Gr F w W = F := by
      have e := Gr.self F w
      unfold Gr at e ⊢
      rw [h2]
      exact e
    rw [this]
    exact h1
  rcases ha : d.ask with _ | ⟨b, l, K⟩
  · obtain ⟨e1, e2⟩ := now_none (a := a) ha
    obtain ⟨⟨_, s1⟩, s2⟩ := SAME (d' := d) h rfl (Kept.refl _ _) (Nums.refl _)
    have SS := hid (And.intro s1 s2)
    rw [ha] at c4
    have E1 := hid e1
    have E2 := hid e2
    clear e1 e2 c3 c5 s1 s2 SAME ha
    unfold aL at c4
    go_enter Try.func69, Try.ntmps69
    go_wp2
    go_ret
    rw [E1.out, E2.out]
    exact ⟨rfl, ⟨fun _ => ⟨rfl, SS.out.1.2⟩, SS.out.2.1⟩, SS.out.2.2⟩
  · obtain ⟨e1, e2⟩ := now_some (a := a) ha
    have hok := h.ok.ask b l K ha
    have hk8 := h.ok.k
    rw [ha] at c3 c4 c5
    unfold aR at c3
    unfold aL at c4
    unfold aK at c5
    dsimp only at c3 c4 c5
    by_cases hz : l = 0
    · subst hz
      have e1' : d.now a = false := by rw [e1]; simp
      have e2' : d.cnt a = d := by
        rw [e2]
        split
        · rw [if_neg (by omega)]
          cases d
          simp at ha
          subst ha
          rfl
        · rfl
      obtain ⟨⟨_, s1⟩, s2⟩ := SAME (d' := d) h rfl (Kept.refl _ _) (Nums.refl _)
      have SS := hid (And.intro s1 s2)
      have E1 := hid e1'
      have E2 := hid e2'
      clear e1 e2 e1' e2' c3 c5 s1 s2 SAME ha
      go_enter Try.func69, Try.ntmps69
      go_wp2
      go_ret
      rw [E1.out, E2.out]
      exact ⟨rfl, ⟨fun _ => ⟨rfl, SS.out.1.2⟩, SS.out.2.1⟩, SS.out.2.2⟩
    · by_cases hb : b = a
      · subst hb
        rw [if_pos rfl] at e2
        by_cases hl : l = 1
        · subst hl
          rw [if_pos rfl] at e2
          have e1' : d.now b = true := by rw [e1]; simp
          obtain ⟨k1, k2, k3, k4⟩ := h.left (m := 0) ha (by omega)
          have CL := hid (lose k1 hq (k1.kr.kr) hok.2.2 L.kc)
          have r4 := k1.cD.2.2.2.1
          have r5 := k1.cD.2.2.2.2.1
          have KK := hid (And.intro k2 (And.intro k3 k4))
          have E1 := hid e1'
          have E2 := hid e2
          clear k1 k2 k3 k4 e1 e1' e2 SAME ha
          simp only [aK, aL, Int.natCast_zero] at CL r4 r5
          go_enter Try.func69, Try.ntmps69
          go_wp2_with fail
          refine CL.out.mono ?_
          rintro e w1 ⟨rfl, g1, g2, g3⟩
          have f1 := g1.cD
          obtain ⟨f1, f2, f3, f4, f5, f6⟩ := f1
          have HP := hid (g1.off4 true)
          have GG := hid (And.intro g2 g3)
          clear g1 g2 g3 f1
          unfold off4 at HP
          go_wp2
          go_ret
          obtain ⟨⟨L', p1⟩, p2, p3, p4⟩ := HP.out
          obtain ⟨k2, k3, k4⟩ := KK.out
          obtain ⟨g2, g3⟩ := GG.out
          rw [E1.out, E2.out]
          have eG : ∀ W : World, Gr F (w.setCell ⟨D, 3, none⟩ (.int .i64 (0 : Int))) W = Gr F w W := fun W => by
            unfold Gr
            rw [setD_size]
          have k2' : Kept F w (w.setCell ⟨D, 3, none⟩ (.int .i64 (0 : Int))) := k2
          have g2' : Kept F w w1 := k2'.trans (by
            have : Gr F w (w.setCell ⟨D, 3, none⟩ (.int .i64 (0 : Int))) = F := by
              have e := Gr.self F w
              unfold Gr at e ⊢
              rw [setD_size]
              exact e
            rw [this]
            exact g2)
          refine ⟨rfl, ⟨fun e => (by cases e), ⟨L', ?_⟩⟩, g2'.trans (by rw [← eG]; exact p2), (Nums.trans k3 g3).trans p3⟩
          have : Gr F w (Wd.off4 w1 D true) = Gr F (w.setCell ⟨D, 3, none⟩ (.int .i64 (0 : Int))) w1 := by
            rw [eG]
            unfold Gr
            rw [show (Wd.off4 w1 D true).heap.size = w1.heap.size from p4]
          have p1' := p1
          unfold Wd.off4 at this
          rw [this]
          exact p1'
        · rw [if_neg hl] at e2
          have e1' : d.now b = false := by rw [e1]; simp [hl]
          obtain ⟨k1, k2, k3, k4⟩ := h.left (m := l - 1) ha (by omega)
          obtain ⟨⟨_, s1⟩, s2⟩ := SAME k1 k4 k2 k3
          have r4 := k1.cD.2.2.2.1
          have SS := hid (And.intro s1 s2)
          have E1 := hid e1'
          have E2 := hid e2
          have el : ((l - 1 : Nat) : Int) = (l : Int) - 1 := by omega
          simp only [aL, el] at r4
          rw [el] at SS
          clear k1 k2 k3 k4 e1 e1' e2 s1 s2 SAME ha el
          go_enter Try.func69, Try.ntmps69
          go_wp2
          go_ret
          rw [E1.out, E2.out]
          exact ⟨rfl, ⟨fun _ => SS.out.1, SS.out.2.1⟩, SS.out.2.2⟩
      · rw [if_neg hb] at e2
        have e1' : d.now a = false := by rw [e1]; simp [hb]
        have hne : ((b : Int) != (a : Int)) = true := by simp; omega
        obtain ⟨⟨_, s1⟩, s2⟩ := SAME (d' := d) h rfl (Kept.refl _ _) (Nums.refl _)
        have SS := hid (And.intro s1 s2)
        have E1 := hid e1'
        have E2 := hid e2
        clear e1 e2 e1' c5 s1 s2 SAME ha
        go_enter Try.func69, Try.ntmps69
        go_wp2
        go_ret
        rw [E1.out, E2.out]
        exact ⟨rfl, ⟨fun _ => ⟨rfl, SS.out.1.2⟩, SS.out.2.1⟩, SS.out.2.2⟩

theorem preW_ok {d : Dk} {a b : Int} {x : ByteArray} (h : d.preW a b x = 0) : d.readE a b = 0 ∧ x.size = 64 := by
  unfold Dk.preW at h
  split at h
  · rename_i c
    split at h
    · exact ⟨c, ‹_›⟩
    · cases h
  · exact absurd h ‹_›
theorem readE_ok {d : Dk} {a b : Int} (h : d.readE a b = 0) : ∃ i s : Nat, a = (i : Int) ∧ b = (s : Int) ∧ i < d.k ∧ s < (d.r i).n ∧ d.off = false := by
  have c1 : d.preF a = 0 := by
    by_cases c1 : d.preF a = 0
    · exact c1
    · rw [readE_pre c1] at h; exact h
  rw [readE_in c1] at h
  obtain ⟨c0, c2⟩ := preF_ok c1
  obtain ⟨i, rfl, hi⟩ := has_nat c2
  rw [Int.toNat_natCast] at h
  have cb : 0 ≤ b ∧ b < (d.r i).n := by
    by_cases cb : 0 ≤ b ∧ b < (d.r i).n
    · exact cb
    · rw [if_neg cb] at h; cases h
  obtain ⟨s, rfl⟩ := Int.eq_ofNat_of_zero_le cb.1
  exact ⟨i, s, rfl, rfl, hi, by omega, c0⟩

theorem Kept.grown {F : Nat → Prop} {a b c : World} (h : Kept F a b) (k : Kept (Gr F a b) b c) : Kept F a c ∧ Gr (Gr F a b) b c = Gr F a c := ⟨h.trans k, Gr.trans h.size k.size⟩

set_option maxRecDepth 100000 in
theorem writeD {w : World} {D : Nat} {d : Dk} {F : Nat → Prop} {L : Ly} (h : DkL w D d F L) (hq : ∀ j, j < d.k → (d.r j).q.length < 1048576) (a b : Int) (x : ByteArray) :
    Calls Try.prog 54 #[dp D, .int .i64 a, .int .i64 b, .string x] w fun e w' => e = .returned (.int .i64 (d.writeE a b x)) ∧ (∃ L', DkL w' D (d.write a b x) (Gr F w w') L') ∧ Kept F w w' ∧ Nums w w' := by
  have CA := hid (sectorAsked h a b)
  have SAME := hid (show (∃ L', DkL w D d (Gr F w w) L') ∧ Kept F w w ∧ Nums w w from ⟨⟨L, by rw [Gr.self]; exact h⟩, Kept.refl _ _, Nums.refl _⟩)
  unfold dp at *
  by_cases c : d.readE a b = 0
  · rw [c] at CA
    obtain ⟨i, s, rfl, rfl, hi, hs, ho⟩ := readE_ok c
    have e1 : raS L (i : Int) ((0 : Int) == 0) = .pointer (some ⟨L.R, i * 2, none⟩) := rfl
    rw [e1] at CA
    by_cases cx : x.size = 64
    · have hp : d.preW (i : Int) (s : Int) x = 0 := by unfold Dk.preW; rw [if_pos c, if_pos cx]
      have hE : Hid (d.writeE (i : Int) (s : Int) x = if (d.put (i : Int) (s : Int) x).now i then 11 else 0) := if_pos hp
      have hD : Hid (d.write (i : Int) (s : Int) x = (d.put (i : Int) (s : Int) x).cnt i) := if_pos hp
      have CW := hid (write h hi (hq i hi) hs cx)
      unfold rp at CW
      clear c e1 hp
      go_enter Try.func54, Try.ntmps54
      go_wp2_with fail
      refine CA.out.mono ?_
      rintro e w1 ⟨rfl, rfl⟩
      go_wp2_with fail
      refine CW.out.mono ?_
      rintro e w1 ⟨rfl, ⟨L1, g0, g1⟩, g2, g3⟩
      have CF := hid (fails g1 (fun j hj => by
        show (upd d.r i _ j).q.length ≤ _
        unfold upd
        split
        · show ((d.r i).q ++ [(s, x)]).length ≤ _
          have := hq i hi
          simp
          omega
        · exact Nat.le_of_lt (hq j hj)) i)
      have GG := hid (And.intro g2 g3)
      unfold dp at CF
      have eP : d.at i ((d.r i).put s x) = d.put (i : Int) (s : Int) x := rfl
      rw [eP] at CF
      clear g0 g1 g2 g3 eP
      generalize d.put (i : Int) (s : Int) x = d1 at CF hE hD
      cases hn : d1.now i
      · rw [hn] at CF hE
        go_wp2_with fail
        refine CF.out.mono ?_
        rintro e w2 ⟨rfl, ⟨_, k1⟩, k2, k3⟩
        have KK := hid (And.intro k1 (And.intro k2 k3))
        clear k1 k2 k3
        go_wp2
        go_ret
        obtain ⟨⟨L2, k1⟩, k2, k3⟩ := KK.out
        obtain ⟨e1, e2⟩ := GG.out.1.grown k2
        rw [hE.out, hD.out]
        rw [e2] at k1
        exact ⟨rfl, ⟨L2, k1⟩, e1, GG.out.2.trans k3⟩
      · rw [hn] at CF hE
        go_wp2_with fail
        refine CF.out.mono ?_
        rintro e w2 ⟨rfl, ⟨_, k1⟩, k2, k3⟩
        have KK := hid (And.intro k1 (And.intro k2 k3))
        clear k1 k2 k3
        go_wp2
        go_ret
        obtain ⟨⟨L2, k1⟩, k2, k3⟩ := KK.out
        obtain ⟨e1, e2⟩ := GG.out.1.grown k2
        rw [hE.out, hD.out]
        rw [e2] at k1
        exact ⟨rfl, ⟨L2, k1⟩, e1, GG.out.2.trans k3⟩
    · have hp : d.preW (i : Int) (s : Int) x = 2 := by unfold Dk.preW; rw [if_pos c, if_neg cx]
      have hE : Hid (d.writeE (i : Int) (s : Int) x = 2) := by show _ = _; unfold Dk.writeE; rw [hp]; rfl
      have hD : Hid (d.write (i : Int) (s : Int) x = d) := by show _ = _; unfold Dk.write; rw [hp]; rfl
      have cx' : ((x.size : Int) != 64) = true := by simp; omega
      clear c e1 hp
      go_enter Try.func54, Try.ntmps54
      go_wp2_with fail
      refine CA.out.mono ?_
      rintro e w1 ⟨rfl, rfl⟩
      go_wp2
      go_ret
      rw [hE.out, hD.out]
      exact ⟨rfl, SAME.out⟩
  · have hp : d.preW a b x = d.readE a b := if_neg c
    have hE : Hid (d.writeE a b x = d.readE a b) := by show _ = _; unfold Dk.writeE; rw [hp, if_neg c]
    have hD : Hid (d.write a b x = d) := by show _ = _; unfold Dk.write; rw [hp, if_neg c]
    have hx2 : raS L a (d.readE a b == 0) = .pointer none := by
      unfold raS
      rw [if_neg (by simpa using c)]
    rw [hx2] at CA
    have hx : (d.readE a b == 0) = false := by simpa using c
    have hx3 : (d.readE a b != 0) = true := by simpa using c
    clear hp
    generalize d.readE a b = E at *
    go_enter Try.func54, Try.ntmps54
    go_wp2_with fail
    refine CA.out.mono ?_
    rintro e w1 ⟨rfl, rfl⟩
    go_wp2
    go_ret
    rw [hE.out, hD.out]
    exact ⟨rfl, SAME.out⟩

set_option maxRecDepth 100000 in
theorem flushD {w : World} {D : Nat} {d : Dk} {F : Nat → Prop} {L : Ly} (h : DkL w D d F L) (hq : ∀ j, j < d.k → (d.r j).q.length ≤ 1048576) (a : Int) :
    Calls Try.prog 55 #[dp D, .int .i64 a] w fun e w' => e = .returned (.int .i64 (d.flushE a)) ∧ (∃ L', DkL w' D (d.flush a) (Gr F w w') L') ∧ Kept F w w' ∧ Nums w w' := by
  have CA := hid (regionAsked h a)
  have SAME := hid (show (∃ L', DkL w D d (Gr F w w) L') ∧ Kept F w w ∧ Nums w w from ⟨⟨L, by rw [Gr.self]; exact h⟩, Kept.refl _ _, Nums.refl _⟩)
  unfold dp at *
  by_cases c : d.preF a = 0
  · rw [c] at CA
    obtain ⟨_, c2⟩ := preF_ok c
    obtain ⟨i, rfl, hi⟩ := has_nat c2
    have e1 : ra L (i : Int) ((0 : Int) == 0) = .pointer (some ⟨L.R, i * 2, none⟩) := rfl
    rw [e1] at CA
    have hE : Hid (d.flushE (i : Int) = if d.now i then 11 else 0) := if_pos c
    have hD : Hid (d.flush (i : Int) = if d.now i then d.cnt i else (d.cnt i).at i ((d.r i).set fun _ => true)) := if_pos c
    have CF := hid (fails h hq i)
    unfold dp at CF
    clear c e1 c2
    cases hn : d.now i
    · rw [hn] at CF hE hD
      have hr : (d.cnt i).r = d.r := by
        rcases ha : d.ask with _ | ⟨b, l, K⟩
        · rw [(now_none ha).2]
        · obtain ⟨e1, e2⟩ := now_some (a := i) ha
          rw [hn] at e1
          rw [e2]
          split
          · split
            · exact absurd (show b = i ∧ l = 1 from ⟨‹_›, ‹_›⟩) (by simpa using e1.symm)
            · rfl
          · rfl
      have hkk : (d.cnt i).k = d.k := by
        rcases ha : d.ask with _ | ⟨b, l, K⟩
        · rw [(now_none ha).2]
        · rw [(now_some (a := i) ha).2]
          split
          · split <;> rfl
          · rfl
      have HR := hid hr
      have HKK := hid hkk
      clear hr hkk
      go_enter Try.func55, Try.ntmps55
      go_wp2_with fail
      refine CA.out.mono ?_
      rintro e w1 ⟨rfl, rfl⟩
      go_wp2_with fail
      refine CF.out.mono ?_
      rintro e w2 ⟨rfl, ⟨k0, _⟩, k2, k3⟩
      obtain ⟨k4, k5⟩ := k0 (by first | rfl | trivial)
      have CS := hid (settle k5 (i := i) (by rw [HKK.out]; exact hi) (by rw [HR.out]; exact hq i hi) (.inl ⟨rfl, fun _ => rfl⟩) (kp := fun _ => true))
      have KK := hid (And.intro k2 (And.intro k3 k4))
      rw [HR.out] at CS
      unfold rp at CS
      clear k0 k2 k3 k4 k5
      go_wp2_with fail
      refine CS.out.mono ?_
      rintro e w3 ⟨rfl, m1, m2, m3, m4⟩
      have MM := hid (And.intro m1 (And.intro m2 (And.intro m3 m4)))
      clear m1 m2 m3 m4
      go_wp2
      go_ret
      obtain ⟨m1, m2, m3, m4⟩ := MM.out
      obtain ⟨k2, k3, k4⟩ := KK.out
      rw [hE.out, hD.out]
      have e1 : Gr F w w2 = F := by
        have e := Gr.self F w
        unfold Gr at e ⊢
        rw [k4]
        exact e
      have e2 : Gr F w w3 = F := by
        have e := Gr.self F w
        unfold Gr at e ⊢
        rw [m4, k4]
        exact e
      refine ⟨rfl, ⟨L, by rw [e2]; exact m1⟩, k2.trans (by rw [e1]; exact m2), k3.trans m3⟩
    · rw [hn] at CF hE hD
      go_enter Try.func55, Try.ntmps55
      go_wp2_with fail
      refine CA.out.mono ?_
      rintro e w1 ⟨rfl, rfl⟩
      go_wp2_with fail
      refine CF.out.mono ?_
      rintro e w2 ⟨rfl, ⟨_, k1⟩, k2, k3⟩
      have KK := hid (And.intro k1 (And.intro k2 k3))
      clear k1 k2 k3
      go_wp2
      go_ret
      rw [hE.out, hD.out]
      exact ⟨rfl, KK.out⟩
  · have hE : Hid (d.flushE a = d.preF a) := if_neg c
    have hD : Hid (d.flush a = d) := if_neg c
    have hx2 : ra L a (d.preF a == 0) = .pointer none := by
      unfold ra
      rw [if_neg (by simpa using c)]
    rw [hx2] at CA
    have hx : (d.preF a == 0) = false := by simpa using c
    have hx3 : (d.preF a != 0) = true := by simpa using c
    generalize d.preF a = E at *
    go_enter Try.func55, Try.ntmps55
    go_wp2_with fail
    refine CA.out.mono ?_
    rintro e w1 ⟨rfl, rfl⟩
    go_wp2
    go_ret
    rw [hE.out, hD.out]
    exact ⟨rfl, SAME.out⟩

end Go.Proofs.Ytaojoecmbgmhoaa.Wd
