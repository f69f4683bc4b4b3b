/-
  The walk of a region's write: the write stands behind the queue. The rest of the disk is as it was.
-/
import Derived.Test.YtcnonioiggniiaaDkE
import Derived.Test.YtcnonioiggniiaaDkD
import Derived.Deep.AppendLies
import Derived.Deep.RegionLaw
import Derived.Deep.WholeRow
import Derived.Great.BuildSlice
namespace Go.Proofs.Ytcnonioiggniiaa.Wd
open Go.ChangeShapes Go.WideShapes Go.ChangeAt Go.RowKit Go.Proofs.Ytcnonioiggniiaa.M

/-- The cells of one write. -/
def wc (s : Nat) (x : ByteArray) : Array Value := (Value.int .i64 (s : Int) :: dc x).toArray
def wz : Array Value := (Value.int .i64 0 :: List.replicate 64 (Value.int .u8 0)).toArray
theorem infoQ : (Try.prog.info? 143).map (fun i => (i.zero, i.size)) = some (some (.agg wz), 65) := by kernel_rfl
theorem infoQ3 : (Try.prog.info? 143).map (fun i => (i.zero, i.size, i.bytes)) = some (some (.agg wz), 65, 72) := by kernel_rfl
theorem infoQ1 : (Try.prog.info? 143).map (·.size) = some 65 := by kernel_rfl

theorem wc_size (s : Nat) (x : ByteArray) : (wc s x).size = 65 := by
  unfold wc
  rw [List.size_toArray, List.length_cons, dc_length]
theorem dc_noB : dc noB = List.replicate 64 (Value.int .u8 0) := by
  apply List.ext_getElem?
  intro j
  by_cases hj : j < 64
  · rw [dc_get _ _ hj, noB_bt, List.getElem?_replicate, if_pos hj]
  · rw [List.getElem?_eq_none (by rw [dc_length]; omega), List.getElem?_eq_none (by rw [List.length_replicate]; omega)]
theorem wz_set (s : Nat) : wz.setIfInBounds 0 (.int .i64 (s : Int)) = wc s noB := by
  unfold wz wc
  rw [dc_noB, List.setIfInBounds_toArray]
  rfl
theorem wc_one (s : Nat) (x : ByteArray) : (wc s x).all (·.oneCell') = true := by
  rw [Array.all_eq_true_iff_forall_mem]
  intro v hv
  unfold wc at hv
  rw [List.mem_toArray, List.mem_cons] at hv
  rcases hv with rfl | hv
  · rfl
  · unfold dc at hv
    rw [List.mem_map] at hv
    obtain ⟨_, _, rfl⟩ := hv
    rfl
theorem sc64 (x : ByteArray) : sc x 64 = dc x := rfl
theorem copy_wc (w : World) (s : Nat) (x : ByteArray) (hx : x.size = 64) :
    (Builtin.copy_ #[67, 9] 3 #[.slice (some ⟨w.heap.size, 1, none⟩) 64 64, .string x]).run Try.prog (w.alloc (.cells (wc s noB) 143)) = .ok (goInt ((64 : Nat) : Int)) (w.alloc (.cells (wc s x) 143)) := by
  have r := run_copy_text (w.alloc (.cells (wc s noB) 143)) w.heap.size 143 67 9 3 5 1 64 64 Try.underlying67 (by kernel_rfl) (wc s noB) x (heap_alloc_last w _) (by rw [wc_size]; omega)
  rw [hx, Nat.min_self, World.setRow_alloc_new, sc64] at r
  have e : (List.take 1 (wc s noB).toList ++ dc x ++ List.drop (1 + 64) (wc s noB).toList).toArray = wc s x := by
    unfold wc
    rw [List.drop_eq_nil_of_le (by rw [List.toList_toArray, List.length_cons, dc_length]; omega)]
    simp
  rw [e] at r
  exact r

theorem step_load_row {P : Program} {ops : Array Oper} {o : Oper} {a : Act} {w : World} {K : Act → World → Prop} {Q : Exit → Act → World → Prop} {E : Prop} (hgd : o.guard = none) (ty : TypeId) (x : Operand) (ho : o.op = .load ty x)
    (g : Nat) (hx : a.eval x = .pointer (some ⟨g, 0, none⟩)) (t : TypeId) (cs : Array Value) (fr : Nat × Nat) (d : TypeDesc) (hg : w.heap[g]? = some (.cells cs t fr))
    (hu : P.underlying ty = some d) (hd : (match d with | .struct _ | .array _ _ => true | _ => false) = true) (hi : (P.info? ty).map (·.size) = some cs.size)
    (h : K (a.put o.dst (.agg cs)) w) : if Region.wanted o (yielded ops a.tmps) = true then Oper.wp P o a w K Q else E := by
  have hw : Region.wanted o (yielded ops a.tmps) = true := by simp [Region.wanted, hgd]
  rw [if_pos hw]
  exact wp_load_row ty x ho g hx t cs fr d hg hu hd hi h

theorem step_build_one {P : Program} {ops : Array Oper} {o : Oper} {a : Act} {w : World} {K : Act → World → Prop} {Q : Exit → Act → World → Prop} {E : Prop} (hgd : o.guard = none) (t e : TypeId) (x : Operand) (ho : o.op = .buildSlice t 1 #[(0, x)])
    (C : Array Value) (ie : TypeInfo) (z : Value) (hu : P.underlying t = some (.slice e)) (hie : P.info? e = some ie) (hz : ie.zero = some z) (hs : ie.size = C.size) (hC : 0 < C.size) (hC2 : C.size ≤ 16777216) (hx : a.eval x = .agg C)
    (h : K (a.put o.dst (.slice (some ⟨w.heap.size, 0, none⟩) 1 1)) (w.alloc (.cells C e))) : if Region.wanted o (yielded ops a.tmps) = true then Oper.wp P o a w K Q else E := by
  have hw : Region.wanted o (yielded ops a.tmps) = true := by simp [Region.wanted, hgd]
  rw [if_pos hw]
  have hf := Great.fill_whole (s := ie.size) (by omega) [.agg C] ((Array.range (1 * ie.size)).map (z.cells[· % z.cells.size]!)) (fun v hv => by
    rw [List.mem_singleton] at hv
    subst hv
    exact hs.symm) (by simp)
  have e1 : ([Value.agg C].flatMap fun v => v.cells.toList).toArray = C := by simp [Value.cells]
  rw [e1] at hf
  refine wp_buildSlice t e 1 #[(0, x)] ho C ie z hu hie hz (by omega) (by omega) ?_ h
  have e2 : (#[(0, x)].map fun (p : Nat × Operand) => (p.1, a.eval p.2)).toList = (([Value.agg C]).zipIdx 0).map fun x => (x.2, x.1) := by simp [hx]
  exact (congrArg _ e2).trans hf

theorem run_lcf {W : World} {g n : Nat} {c : Array Value} {t : TypeId} (h : W.heap[g]? = some (.cells c t (0, 0))) (hn : c.size = n) : (loadCellsFrom ⟨g, 0, none⟩ 0 n #[]).run Try.prog W = .ok c W := by
  subst hn
  have := run_loadCells_list (P := Try.prog) W ⟨g, 0, none⟩ c.toList (fun j v hv => by
    have hadd : (⟨g, 0, none⟩ : Addr).add j = ⟨g, j, none⟩ := by unfold Addr.add; split <;> simp_all
    rw [hadd, cell_of_row _ _ j c t (0, 0) h]
    simpa using hv)
  simpa [loadCells] using this

theorem store_new {P : Program} {ops : Array Oper} {rest : List Oper} {o : Oper} {a : Act} {w : World} {Q : Exit → Act → World → Prop} (hgd : o.guard = none) (ty : TypeId) (x y : Operand) (ho : o.op = .store ty x y)
    (g : Nat) (hg : g = w.heap.size) (cells : Array Value) (hx : a.eval x = .pointer (some ⟨g, 0, none⟩)) (hy : a.eval y = .agg cells)
    (old : Array Value) (hi : (P.info? ty).map (·.size) = some cells.size) (hold : old.size = cells.size) (h1 : cells.all (·.oneCell') = true)
    (h : wpList P ops Q rest (a.put o.dst undef) (w.alloc (.cells cells ty))) : wpList P ops Q (o :: rest) a (w.alloc (.cells old ty)) := by
  subst hg
  refine wpList_store_row hgd ty x y ho w.heap.size cells hx hy ty old (heap_alloc_last w _) hi hold h1 ?_
  rw [World.setRow_alloc_new]
  exact h

/-- A queue as the laws on append ask it. -/
theorem DkL.ownQ {w : World} {D : Nat} {d : Dk} {F : Nat → Prop} {L : Ly} (h : DkL w D d F L) {i : Nat} (hi : i < d.k) : w.ownsRow 0 143 65 (.slice (pt (d.r i).q.length (L.qb i)) (d.r i).q.length (cp (d.r i).q.length (L.qm i))) (d.r i).q.length (qc (d.r i).q) := by
  refine ⟨by rw [qc_length, Nat.mul_comm], ?_⟩
  by_cases c : 0 < (d.r i).q.length
  · obtain ⟨l, h1, h2, h3, h4, h5⟩ := h.qb i hi c
    exact .inr ⟨L.qb i, L.qm i, l.toArray, by rw [pt_pos _ c, cp_pos _ c], Nat.zero_le _, h1, h3, h4, by rw [List.size_toArray]; exact h2, h5⟩
  · have e : (d.r i).q.length = 0 := by omega
    rw [e]
    exact .inl ⟨rfl, rfl⟩

/-- A region with one write more. -/
theorem DkL.pushed {w w3 : World} {D : Nat} {d : Dk} {F : Nat → Prop} {L : Ly} (h : DkL w D d F L) {i : Nat} (hi : i < d.k) {s : Nat} {x : ByteArray} (hs : s < (d.r i).n) (hx : x.size = 64) {g cap : Nat}
    (hsz : w.heap.size ≤ w3.heap.size) (hblk : ∀ b, b < w.heap.size → (0 < (d.r i).q.length → b ≠ L.qb i) → w3.heap[b]? = w.heap[b]?) (hg : (0 < (d.r i).q.length ∧ g = L.qb i) ∨ w.heap.size ≤ g) (hlt : g < w3.heap.size)
    (own : ∃ l : List Value, w3.heap[g]? = some (.cells l.toArray 143 (0, 0)) ∧ l.length = cap * 65 ∧ (d.r i).q.length + 1 ≤ cap ∧ cap ≤ maxLen ∧ l.take (((d.r i).q.length + 1) * 65) = qc ((d.r i).q ++ [(s, x)])) :
    DkL (w3.setCell ⟨L.R, i * 2 + 1, none⟩ (.slice (some ⟨g, 0, none⟩) ((d.r i).q.length + 1) cap)) D (d.at i ((d.r i).put s x)) (Gr F w w3) { L with qb := upd L.qb i g, qm := upd L.qm i cap } := by
  have hr : ∀ j, j ≠ i → (d.at i ((d.r i).put s x)).r j = d.r j := fun j hj => upd_off _ _ hj
  have hri : (d.at i ((d.r i).put s x)).r i = (d.r i).put s x := upd_at _ _ _
  have hql : ((d.r i).put s x).q.length = (d.r i).q.length + 1 := by show ((d.r i).q ++ [(s, x)]).length = _; simp
  have hbR : ∀ b, b ≠ L.R → (w3.setCell ⟨L.R, i * 2 + 1, none⟩ (.slice (some ⟨g, 0, none⟩) ((d.r i).q.length + 1) cap)).heap[b]? = w3.heap[b]? := fun b hb => Below.heap_setCell _ _ _ _ hb
  obtain ⟨l, g1, g2, g3, g4⟩ := h.rows (by omega)
  have hK : ∀ (b : Nat) (cs : Array Value) (T : TypeId) (fr : Nat × Nat), w.heap[b]? = some (.cells cs T fr) → T ≠ 143 → w3.heap[b]? = w.heap[b]? := fun b cs T fr h1 h2 => hblk b (blk_lt h1) (fun hq e => by
    obtain ⟨l', k1, _⟩ := h.qb i hi hq
    rw [e, k1] at h1
    simp at h1
    exact h2 h1.2.1.symm)
  have hK2 : ∀ (b : Nat) (cs : Array Value) (T : TypeId) (fr : Nat × Nat), w.heap[b]? = some (.cells cs T fr) → T ≠ 143 → T ≠ 70 → (w3.setCell ⟨L.R, i * 2 + 1, none⟩ (.slice (some ⟨g, 0, none⟩) ((d.r i).q.length + 1) cap)).heap[b]? = w.heap[b]? := fun b cs T fr h1 h2 h3 =>
    (hbR b (fun e => by rw [e, g1] at h1; simp at h1; exact h3 h1.2.1.symm)).trans (hK b cs T fr h1 h2)
  have g1' := (hK _ _ _ _ g1 (by decide)).trans g1
  have hgR : g ≠ L.R := by
    obtain ⟨l', k1, _⟩ := own
    intro e
    rw [e, g1'] at k1
    simp at k1
  refine ⟨?_, ?_, ?_, ?_, ?_, ?_, ?_, .inl h.ownD, fun hp => .inl (h.ownR hp), ?_, ?_, ?_, Dk.at_ok h.ok i (Rg.put_ok (h.ok.r i hi) hs hx)⟩
  · exact (hK2 D _ _ _ h.dk (by decide) (by decide)).trans h.dk
  · intro _
    refine ⟨l.set (i * 2 + 1) (.slice (some ⟨g, 0, none⟩) ((d.r i).q.length + 1) cap), blk_set g1' _ _, by rw [List.length_set]; exact g2, g3, fun j hj => ?_⟩
    by_cases c : j = i
    · subst c
      rw [hri]
      have hj' : j < d.k := hj
      refine ⟨?_, ?_⟩
      · rw [List.getElem?_set_ne (by omega)]
        exact (g4 j hj).1
      · rw [List.getElem?_set_self (by omega)]
        show _ = some (qv _ (upd L.qb j g j) (upd L.qm j cap j))
        rw [upd_at, upd_at]
        unfold qv
        rw [hql, pt_pos _ (by omega), cp_pos _ (by omega)]
    · rw [hr j c, List.getElem?_set_ne (by omega), List.getElem?_set_ne (by omega)]
      show _ ∧ _ = some (qv _ (upd L.qb i g j) (upd L.qm i cap j))
      rw [upd_off _ _ c, upd_off _ _ c]
      exact g4 j hj
  · intro j hj
    have e := (hK2 _ _ _ _ (h.lb j hj) (by decide) (by decide)).trans (h.lb j hj)
    by_cases c : j = i
    · subst c; rw [hri]; exact e
    · rw [hr j c]; exact e
  · intro j hj hq
    by_cases c : j = i
    · subst c
      rw [hri] at hq ⊢
      obtain ⟨l', k1, k2, k3, k4, k5⟩ := own
      show ∃ l : List Value, (World.setCell _ _ _).heap[upd L.qb j g j]? = _ ∧ l.length = upd L.qm j cap j * 65 ∧ _ ≤ upd L.qm j cap j ∧ upd L.qm j cap j ≤ maxLen ∧ _
      rw [upd_at, upd_at, hql]
      exact ⟨l', (hbR g hgR).trans k1, k2, k3, k4, k5⟩
    · rw [hr j c] at hq ⊢
      show ∃ l : List Value, (World.setCell _ _ _).heap[upd L.qb i g j]? = _ ∧ l.length = upd L.qm i cap j * 65 ∧ _ ≤ upd L.qm i cap j ∧ upd L.qm i cap j ≤ maxLen ∧ _
      rw [upd_off _ _ c, upd_off _ _ c]
      obtain ⟨l', k1, k2⟩ := h.qb j hj hq
      refine ⟨l', ?_, k2⟩
      rw [hbR _ (fun e => by rw [e, g1] at k1; simp at k1), hblk _ (blk_lt k1) (fun hqi e => c (h.injq j i hj hi hq hqi e))]
      exact k1
  · exact h.injl
  · intro a b ha hb hqa hqb e
    have key : ∀ j, j < d.k → j ≠ i → 0 < (d.r j).q.length → L.qb j ≠ g := by
      intro j hj hne hq e
      obtain ⟨l', k1, _⟩ := h.qb j hj hq
      rcases hg with ⟨q0, rfl⟩ | hg
      · exact hne (h.injq j i hj hi hq q0 e)
      · have := blk_lt k1; omega
    by_cases c1 : a = i
    · by_cases c2 : b = i
      · rw [c1, c2]
      · subst c1
        rw [hr b c2] at hqb
        have e' : g = L.qb b := by simpa [upd_at, upd_off _ _ c2] using e
        exact absurd e'.symm (key b hb c2 hqb)
    · by_cases c2 : b = i
      · subst c2
        rw [hr a c1] at hqa
        have e' : L.qb a = g := by simpa [upd_at, upd_off _ _ c1] using e
        exact absurd e' (key a ha c1 hqa)
      · rw [hr a c1] at hqa
        rw [hr b c2] at hqb
        exact h.injq a b ha hb hqa hqb (by simpa [upd_off _ _ c1, upd_off _ _ c2] using e)
  · exact h.kr.kept (fun b cs fr h1 _ => hK2 b cs _ fr h1 (by decide) (by decide)) fun _ hb => .inl hb
  · exact fun j hj => .inl (h.ownl j hj)
  · intro j hj hq
    show Gr F w w3 (upd L.qb i g j)
    by_cases c : j = i
    · subst c
      rw [upd_at]
      rcases hg with ⟨q0, rfl⟩ | hg
      · exact .inl (h.ownq _ hj q0)
      · exact .inr ⟨hg, hlt⟩
    · rw [hr j c] at hq
      rw [upd_off _ _ c]
      exact .inl (h.ownq j hj hq)
  · intro b hb
    have : (w3.setCell ⟨L.R, i * 2 + 1, none⟩ (.slice (some ⟨g, 0, none⟩) ((d.r i).q.length + 1) cap)).heap.size = w3.heap.size := by simp [World.setCell]
    rw [this]
    rcases hb with hb | hb
    · have := h.lt b hb; omega
    · exact hb.2

/-- What a write comes to, behind the append and the store. -/
theorem DkL.write_end {w w3 : World} {D : Nat} {d : Dk} {F : Nat → Prop} {L : Ly} (h : DkL w D d F L) {i : Nat} (hi : i < d.k) {s : Nat} {x : ByteArray} (hs : s < (d.r i).n) (hx : x.size = 64) {g cap : Nat} {o1 o2 : Obj}
    (own3 : w3.ownsRow 0 143 65 (.slice (some ⟨g, 0, none⟩) ((d.r i).q.length + 1) cap) ((d.r i).q.length + 1) (qc (d.r i).q ++ (wc s x).toList)) (gr3 : ((w.alloc o1).drew.alloc o2).grownBy w3 (Value.slice (pt (d.r i).q.length (L.qb i)) (d.r i).q.length (cp (d.r i).q.length (L.qm i))).ownBlock) (hg3 : (Value.slice (pt (d.r i).q.length (L.qb i)) (d.r i).q.length (cp (d.r i).q.length (L.qm i))).ownBlock = some g ∨ g = w.heap.size + 2) (hlt3 : g < w3.heap.size) :
      w3.cell? ⟨L.R, i * 2 + 1, none⟩ = some (.slice (pt (d.r i).q.length (L.qb i)) (d.r i).q.length (cp (d.r i).q.length (L.qm i))) ∧ w3.frozen? ⟨L.R, i * 2 + 1, none⟩ = false ∧
      (∃ L', L'.R = L.R ∧ DkL (w3.setCell ⟨L.R, i * 2 + 1, none⟩ (.slice (some ⟨g, 0, none⟩) ((d.r i).q.length + 1) cap)) D (d.at i ((d.r i).put s x)) (Gr F w (w3.setCell ⟨L.R, i * 2 + 1, none⟩ (.slice (some ⟨g, 0, none⟩) ((d.r i).q.length + 1) cap))) L') ∧ Kept F w (w3.setCell ⟨L.R, i * 2 + 1, none⟩ (.slice (some ⟨g, 0, none⟩) ((d.r i).q.length + 1) cap)) ∧ Nums w (w3.setCell ⟨L.R, i * 2 + 1, none⟩ (.slice (some ⟨g, 0, none⟩) ((d.r i).q.length + 1) cap)) := by
  have bW : Below w.heap.size w ((w.alloc o1).drew.alloc o2) := ((Below.refl _ _).alloc (Nat.le_refl _) o1).drew.alloc (by simp) o2
  have sW : ((w.alloc o1).drew.alloc o2).heap.size = w.heap.size + 2 := by simp
  have hsz : w.heap.size + 2 ≤ w3.heap.size := by rw [← sW]; exact gr3.size
  have hob : ∀ b, (Value.slice (pt (d.r i).q.length (L.qb i)) (d.r i).q.length (cp (d.r i).q.length (L.qm i))).ownBlock = some b → 0 < (d.r i).q.length ∧ b = L.qb i := by
    intro b hb
    by_cases c : 0 < (d.r i).q.length
    · rw [pt_pos _ c] at hb
      exact ⟨c, by simpa [Value.ownBlock] using hb.symm⟩
    · have e : (d.r i).q.length = 0 := by omega
      rw [e, pt_zero] at hb
      cases hb
  have hblk : ∀ b, b < w.heap.size → (0 < (d.r i).q.length → b ≠ L.qb i) → w3.heap[b]? = w.heap[b]? := fun b hb hne =>
    (gr3.block b (by omega) (fun e => by
      obtain ⟨q0, e'⟩ := hob b e.symm
      exact hne q0 e')).trans (bW.block b hb)
  obtain ⟨l, g1, g2, g3, g4⟩ := h.rows (by omega)
  have hK : ∀ (b : Nat) (cs : Array Value) (T : TypeId) (fr : Nat × Nat), w.heap[b]? = some (.cells cs T fr) → T ≠ 143 → w3.heap[b]? = w.heap[b]? := fun b cs T fr h1 h2 => hblk b (blk_lt h1) (fun hq e => by
    obtain ⟨l', k1, _⟩ := h.qb i hi hq
    rw [e, k1] at h1
    simp at h1
    exact h2 h1.2.1.symm)
  have g1' := (hK _ _ _ _ g1 (by decide)).trans g1
  have hgb : (0 < (d.r i).q.length ∧ g = L.qb i) ∨ w.heap.size ≤ g := by
    rcases hg3 with e | e
    · exact .inl (hob g e)
    · exact .inr (by omega)
  have hown : ∃ l : List Value, w3.heap[g]? = some (.cells l.toArray 143 (0, 0)) ∧ l.length = cap * 65 ∧ (d.r i).q.length + 1 ≤ cap ∧ cap ≤ maxLen ∧ l.take (((d.r i).q.length + 1) * 65) = qc ((d.r i).q ++ [(s, x)]) := by
    rcases own3.2 with ⟨_, e⟩ | ⟨g', cap', cur, e, _, k1, k2, k3, k4, k5⟩
    · omega
    · simp at e
      obtain ⟨rfl, rfl⟩ := e
      refine ⟨cur.toList, by simpa using k1, by simpa using k4, k2, k3, ?_⟩
      rw [k5, qc_app]
      simp [wc, qc]
  have P := h.pushed hi hs hx (by omega) hblk hgb hlt3 hown
  have eS : (w3.setCell ⟨L.R, i * 2 + 1, none⟩ (.slice (some ⟨g, 0, none⟩) ((d.r i).q.length + 1) cap)).heap.size = w3.heap.size := by simp [World.setCell]
  have eG : Gr F w w3 = Gr F w (w3.setCell ⟨L.R, i * 2 + 1, none⟩ (.slice (some ⟨g, 0, none⟩) ((d.r i).q.length + 1) cap)) := by
    funext b
    unfold Gr
    rw [eS]
  rw [eG] at P
  refine ⟨blk_cell g1' (g4 i hi).2, blk_free g1' _, ⟨{ L with qb := upd L.qb i g, qm := upd L.qm i cap }, rfl, P⟩, ?_, ?_⟩
  · refine Kept.setCell ⟨gr3.os.trans bW.os, gr3.tape.trans bW.tape, gr3.output.trans bW.output, by omega, fun k hk hF => hblk k hk fun q0 e => hF (by rw [e]; exact h.ownq i hi q0)⟩ (h.ownR (by omega)) _
  · exact Nums.trans (fun b cs fr hb => hK b cs _ fr hb (by decide)) (Nums.setCell g1' (by decide) _)

set_option maxRecDepth 100000 in
set_option maxHeartbeats 1600000 in
theorem write {w : World} {D : Nat} {d : Dk} {F : Nat → Prop} {L : Ly} (h : DkL w D d F L) {i : Nat} (hi : i < d.k) (hq : (d.r i).q.length < 1048576) {s : Nat} (hs : s < (d.r i).n) {x : ByteArray} (hx : x.size = 64) :
    Calls Try.prog 75 #[rp L i, .int .i64 (s : Int), .string x] w fun e w' => e = .returned (.tuple #[]) ∧ (∃ L', L'.R = L.R ∧ DkL w' D (d.at i ((d.r i).put s x)) (Gr F w w') L') ∧ Kept F w w' ∧ Nums w w' := by
  obtain ⟨c1, c2, c3⟩ := h.cR hi
  have hn := (h.ok.r i hi).n
  unfold rp lv qv at *
  have hz := (zero_of_info (P := Try.prog) infoQ).1
  obtain ⟨i0, hi0, hzz, hsz0, hby⟩ := info_parts infoQ3
  have hzsz : (Value.agg wz).cells.size = 65 := rfl
  have own := h.ownQ hi
  obtain ⟨lr, g1, _⟩ := h.rows (by omega)
  have hRlt := blk_lt g1
  have hz1 : ¬ wz = #[] := by decide
  have hz2 : wz.setIfInBounds 0 (.int .i64 (s : Int)) = wc s noB := wz_set s
  have hzs : wz.size = (wc s noB).size := by rw [wc_size]; rfl
  have hzc : (Value.agg wz).cells = wz := rfl
  generalize wz = Z at hz hz1 hz2 hzs hzc hzz hzsz
  have hI0 : (Try.prog.info? 143).map (·.size) = some (wc s noB).size := by rw [wc_size]; exact infoQ1
  have hI1 : (Try.prog.info? 143).map (·.size) = some (wc s x).size := by rw [wc_size]; exact infoQ1
  have hone := wc_one s noB
  have hcp := copy_wc w s x hx
  have hld : (loadCellsFrom ⟨w.heap.size, 0, none⟩ 0 65 #[]).run Try.prog (w.alloc (.cells (wc s x) 143)).drew = .ok (wc s x) (w.alloc (.cells (wc s x) 143)).drew := run_lcf (W := (w.alloc (.cells (wc s x) 143)).drew) (heap_alloc_last w _) (wc_size s x)
  have HI0 : Hid _ := hI0
  have HI1 : Hid _ := hI1
  have HO : Hid _ := hone
  have HZS : Hid _ := hzs
  clear hI0 hI1 hone hzs
  generalize hC0 : wc s noB = C0 at *
  generalize hC1 : wc s x = C1 at *
  have HC1 : Hid _ := hC1
  clear hC0 hC1
  have r1 : (w.alloc (.cells C1 143)).cell? ⟨L.R, i * 2 + 1, none⟩ = _ := (World.cell?_of_block (w := w) (Below.heap_alloc w _ _ hRlt)).trans c2
  have LEN : Hid (C1.toList.length = 1 * 65) := by show _ = _; rw [← HC1.out, Array.length_toList, wc_size]
  have ONE : Hid (∀ u ∈ C1.toList, u.oneCell' = true) := fun u hu => by
    have := wc_one s x
    rw [HC1.out, Array.all_eq_true_iff_forall_mem] at this
    exact this u (by simpa using hu)
  have OWN : Hid (((w.alloc (.cells C1 143)).drew.alloc (.cells C1 143)).ownsRow 0 143 65 (.slice (pt (d.r i).q.length (L.qb i)) (d.r i).q.length (cp (d.r i).q.length (L.qm i))) (d.r i).q.length (qc (d.r i).q)) := World.ownsRow.alloc (w := (w.alloc (.cells C1 143)).drew) (own.alloc _) _
  have NEW : Hid (∀ j u, C1.toList[j]? = some u → ((w.alloc (.cells C1 143)).drew.alloc (.cells C1 143)).cell? ((⟨w.heap.size + 1, 0, none⟩ : Addr).add j) = some u) := by
    have hb : ((w.alloc (.cells C1 143)).drew.alloc (.cells C1 143)).heap[w.heap.size + 1]? = some (.cells C1 143 (0, 0)) := by
      have := heap_alloc_last (w.alloc (.cells C1 143)).drew (.cells C1 143)
      simpa using this
    exact World.news_of_block hb
  clear own g1
  have FIN : Hid (∀ g cap (w3 : World), w3.ownsRow 0 143 65 (.slice (some ⟨g, 0, none⟩) ((d.r i).q.length + 1) cap) ((d.r i).q.length + 1) (qc (d.r i).q ++ C1.toList) → ((w.alloc (.cells C1 143)).drew.alloc (.cells C1 143)).grownBy w3 (Value.slice (pt (d.r i).q.length (L.qb i)) (d.r i).q.length (cp (d.r i).q.length (L.qm i))).ownBlock → ((Value.slice (pt (d.r i).q.length (L.qb i)) (d.r i).q.length (cp (d.r i).q.length (L.qm i))).ownBlock = some g ∨ g = w.heap.size + 2) → g < w3.heap.size →
      w3.cell? ⟨L.R, i * 2 + 1, none⟩ = some (.slice (pt (d.r i).q.length (L.qb i)) (d.r i).q.length (cp (d.r i).q.length (L.qm i))) ∧ w3.frozen? ⟨L.R, i * 2 + 1, none⟩ = false ∧
      (∃ L', L'.R = L.R ∧ DkL (w3.setCell ⟨L.R, i * 2 + 1, none⟩ (.slice (some ⟨g, 0, none⟩) ((d.r i).q.length + 1) cap)) D (d.at i ((d.r i).put s x)) (Gr F w (w3.setCell ⟨L.R, i * 2 + 1, none⟩ (.slice (some ⟨g, 0, none⟩) ((d.r i).q.length + 1) cap))) L') ∧ Kept F w (w3.setCell ⟨L.R, i * 2 + 1, none⟩ (.slice (some ⟨g, 0, none⟩) ((d.r i).q.length + 1) cap)) ∧ Nums w (w3.setCell ⟨L.R, i * 2 + 1, none⟩ (.slice (some ⟨g, 0, none⟩) ((d.r i).q.length + 1) cap))) := by
    intro g cap w3 own3 gr3 hg3 hlt3
    exact h.write_end hi hs hx (by rw [← HC1.out] at own3; exact own3) gr3 hg3 hlt3
  go_enter Try.func75, Try.ntmps75
  go_wp2_with (refine store_new rfl 143 _ _ rfl w.heap.size rfl C0 rfl rfl Z HI0.out HZS.out HO.out ?_)
  have HG : Hid ((w.alloc (.cells C1 143)).drew.heap[w.heap.size]? = some (.cells C1 143 (0, 0))) := heap_alloc_last w _
  have HCS : Hid (C1.size = 65) := by show _ = _; rw [← HC1.out, wc_size]
  have ESZ : Hid ((w.alloc (.cells C1 143)).drew.heap.size = w.heap.size + 1) := by show _ = _; simp
  clear hld
  refine wp_region_any (by kernel_rfl) ?_
  change wpAny _ _ _ _ _ _ _ (World.drew _)
  refine wpAny_take (i := 0) (v := .pointer (some ⟨L.R, i * 2, none⟩)) rfl (by kernel_rfl) (by kernel_rfl) (by kernel_rfl) (fun _ _ _ h => h) (Or.inl ⟨by rfl, fun w => by go_simp⟩) ?_
  refine wpAny_take (i := 1) (v := .pointer (some ⟨L.R, i * 2, none⟩)) rfl (by kernel_rfl) (by kernel_rfl) (by kernel_rfl) (fun _ _ _ h => h) (Or.inl ⟨by rfl, fun w => by go_simp⟩) ?_
  refine wpAny_take (i := 2) (v := .pointer (some ⟨L.R, i * 2, none⟩)) rfl (by kernel_rfl) (by kernel_rfl) (by kernel_rfl) (fun _ _ _ h => h) (Or.inl ⟨by rfl, fun w => by go_simp⟩) ?_
  refine wpAny_take (i := 3) (v := .pointer (some ⟨L.R, i * 2 + 1, none⟩)) rfl (by kernel_rfl) (by kernel_rfl) (by kernel_rfl) (fun _ _ _ h => h) (Or.inl ⟨by rfl, fun w => by go_simp⟩) ?_
  refine wpAny_ready (rs := [4, 5]) (by kernel_rfl) (by simp) ?_
  refine AllReady.cons rfl (fun K hK => ?_) (AllReady.cons rfl (fun K hK => ?_) AllReady.nil)
  · go_simp
    refine hK _ _ ?_
    clear hK K
    refine wpAny_ready (rs := [5]) (by kernel_rfl) (by simp) ?_
    refine AllReady.cons rfl (fun K hK => ?_) AllReady.nil
    refine step_load_row rfl 143 (.tmp 6) rfl w.heap.size rfl 143 C1 (0, 0) _ HG.out Try.underlying143 rfl HI1.out ?_
    refine hK _ _ ?_
    clear hK K
    refine wpAny_ready (rs := [6]) (by kernel_rfl) (by simp) ?_
    refine AllReady.cons rfl (fun K hK => ?_) AllReady.nil
    refine step_build_one rfl 68 143 (.tmp 18) rfl C1 i0 (.agg Z) Try.underlying68 hi0 hzz (hsz0.trans HCS.out.symm) (by rw [HCS.out]; decide) (by rw [HCS.out]; decide) rfl ?_
    rw [ESZ.out]
    refine hK _ _ ?_
    clear hK K
    refine wpAny_ready (rs := [7]) (by kernel_rfl) (by simp) ?_
    refine AllReady.cons rfl (fun K hK => ?_) AllReady.nil
    refine step_append_lies _ rfl (.tmp 17) (.tmp 19) 68 rfl 0 143 i0 (.agg Z) 65 72 Try.underlying68 hi0 hzz hsz0 hby hzsz (by decide) _ _ _ rfl OWN.out ⟨w.heap.size + 1, 0, none⟩ 1 1 C1.toList rfl LEN.out NEW.out ONE.out (by decide) (by unfold maxLen; omega) (by omega) (Nat.zero_le _) (w.heap.size + 2) (by simp) ?_
    intro g cap w3 own3 gr3 hg3 hlt3
    obtain ⟨f1, f2, f3⟩ := FIN.out g cap w3 own3 gr3 hg3 hlt3
    have F3 := hid f3
    clear f3 own3 gr3 hg3 hlt3
    refine hK _ _ ?_
    clear hK K
    refine wpAny_take (i := 8) (v := .pointer (some ⟨L.R, i * 2, none⟩)) rfl (by kernel_rfl) (by kernel_rfl) (by kernel_rfl) (fun _ _ _ h => h) (Or.inl ⟨by rfl, fun w => by go_simp⟩) ?_
    refine wpAny_take (i := 9) (v := .pointer (some ⟨L.R, i * 2 + 1, none⟩)) rfl (by kernel_rfl) (by kernel_rfl) (by kernel_rfl) (fun _ _ _ h => h) (Or.inl ⟨by rfl, fun w => by go_simp⟩) ?_
    refine wpAny_ready (rs := [10]) (by kernel_rfl) (by simp) ?_
    refine AllReady.cons rfl (fun K hK => ?_) AllReady.nil
    go_simp
    refine hK _ _ ?_
    clear hK K
    refine wpAny_done (by kernel_rfl) ?_ _
    go_wp2
    go_end0
    exact ⟨rfl, F3.out⟩
  · refine step_load_row rfl 143 (.tmp 6) rfl w.heap.size rfl 143 C1 (0, 0) _ HG.out Try.underlying143 rfl HI1.out ?_
    refine hK _ _ ?_
    clear hK K
    refine wpAny_ready (rs := [4, 6]) (by kernel_rfl) (by simp) ?_
    refine AllReady.cons rfl (fun K hK => ?_) (AllReady.cons rfl (fun K hK => ?_) AllReady.nil)
    · go_simp
      refine hK _ _ ?_
      clear hK K
      refine wpAny_ready (rs := [6]) (by kernel_rfl) (by simp) ?_
      refine AllReady.cons rfl (fun K hK => ?_) AllReady.nil
      refine step_build_one rfl 68 143 (.tmp 18) rfl C1 i0 (.agg Z) Try.underlying68 hi0 hzz (hsz0.trans HCS.out.symm) (by rw [HCS.out]; decide) (by rw [HCS.out]; decide) rfl ?_
      rw [ESZ.out]
      refine hK _ _ ?_
      clear hK K
      refine wpAny_ready (rs := [7]) (by kernel_rfl) (by simp) ?_
      refine AllReady.cons rfl (fun K hK => ?_) AllReady.nil
      refine step_append_lies _ rfl (.tmp 17) (.tmp 19) 68 rfl 0 143 i0 (.agg Z) 65 72 Try.underlying68 hi0 hzz hsz0 hby hzsz (by decide) _ _ _ rfl OWN.out ⟨w.heap.size + 1, 0, none⟩ 1 1 C1.toList rfl LEN.out NEW.out ONE.out (by decide) (by unfold maxLen; omega) (by omega) (Nat.zero_le _) (w.heap.size + 2) (by simp) ?_
      intro g cap w3 own3 gr3 hg3 hlt3
      obtain ⟨f1, f2, f3⟩ := FIN.out g cap w3 own3 gr3 hg3 hlt3
      have F3 := hid f3
      clear f3 own3 gr3 hg3 hlt3
      refine hK _ _ ?_
      clear hK K
      refine wpAny_take (i := 8) (v := .pointer (some ⟨L.R, i * 2, none⟩)) rfl (by kernel_rfl) (by kernel_rfl) (by kernel_rfl) (fun _ _ _ h => h) (Or.inl ⟨by rfl, fun w => by go_simp⟩) ?_
      refine wpAny_take (i := 9) (v := .pointer (some ⟨L.R, i * 2 + 1, none⟩)) rfl (by kernel_rfl) (by kernel_rfl) (by kernel_rfl) (fun _ _ _ h => h) (Or.inl ⟨by rfl, fun w => by go_simp⟩) ?_
      refine wpAny_ready (rs := [10]) (by kernel_rfl) (by simp) ?_
      refine AllReady.cons rfl (fun K hK => ?_) AllReady.nil
      go_simp
      refine hK _ _ ?_
      clear hK K
      refine wpAny_done (by kernel_rfl) ?_ _
      go_wp2
      go_end0
      exact ⟨rfl, F3.out⟩
    · refine step_build_one rfl 68 143 (.tmp 18) rfl C1 i0 (.agg Z) Try.underlying68 hi0 hzz (hsz0.trans HCS.out.symm) (by rw [HCS.out]; decide) (by rw [HCS.out]; decide) rfl ?_
      rw [ESZ.out]
      refine hK _ _ ?_
      clear hK K
      have r2 : ((w.alloc (.cells C1 143)).drew.alloc (.cells C1 143)).cell? ⟨L.R, i * 2 + 1, none⟩ = _ := (World.cell?_of_block (w := (w.alloc (.cells C1 143)).drew) (Below.heap_alloc (w.alloc (.cells C1 143)).drew _ _ (by show L.R < _; rw [ESZ.out]; omega))).trans r1
      refine wpAny_ready (rs := [4]) (by kernel_rfl) (by simp) ?_
      refine AllReady.cons rfl (fun K hK => ?_) AllReady.nil
      go_simp
      refine hK _ _ ?_
      clear hK K
      refine wpAny_ready (rs := [7]) (by kernel_rfl) (by simp) ?_
      refine AllReady.cons rfl (fun K hK => ?_) AllReady.nil
      refine step_append_lies _ rfl (.tmp 17) (.tmp 19) 68 rfl 0 143 i0 (.agg Z) 65 72 Try.underlying68 hi0 hzz hsz0 hby hzsz (by decide) _ _ _ rfl OWN.out ⟨w.heap.size + 1, 0, none⟩ 1 1 C1.toList rfl LEN.out NEW.out ONE.out (by decide) (by unfold maxLen; omega) (by omega) (Nat.zero_le _) (w.heap.size + 2) (by simp) ?_
      intro g cap w3 own3 gr3 hg3 hlt3
      obtain ⟨f1, f2, f3⟩ := FIN.out g cap w3 own3 gr3 hg3 hlt3
      have F3 := hid f3
      clear f3 own3 gr3 hg3 hlt3
      refine hK _ _ ?_
      clear hK K
      refine wpAny_take (i := 8) (v := .pointer (some ⟨L.R, i * 2, none⟩)) rfl (by kernel_rfl) (by kernel_rfl) (by kernel_rfl) (fun _ _ _ h => h) (Or.inl ⟨by rfl, fun w => by go_simp⟩) ?_
      refine wpAny_take (i := 9) (v := .pointer (some ⟨L.R, i * 2 + 1, none⟩)) rfl (by kernel_rfl) (by kernel_rfl) (by kernel_rfl) (fun _ _ _ h => h) (Or.inl ⟨by rfl, fun w => by go_simp⟩) ?_
      refine wpAny_ready (rs := [10]) (by kernel_rfl) (by simp) ?_
      refine AllReady.cons rfl (fun K hK => ?_) AllReady.nil
      go_simp
      refine hK _ _ ?_
      clear hK K
      refine wpAny_done (by kernel_rfl) ?_ _
      go_wp2
      go_end0
      exact ⟨rfl, F3.out⟩

end Go.Proofs.Ytcnonioiggniiaa.Wd
