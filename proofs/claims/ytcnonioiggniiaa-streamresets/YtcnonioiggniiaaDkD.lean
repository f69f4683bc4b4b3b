/-
  The walk of a region's lay: the text's bytes lie over what lasts, noughts behind; the queue is empty. The rest of the disk is as it was.
-/
import Derived.Test.YtcnonioiggniiaaDkB
namespace Go.Proofs.Ytcnonioiggniiaa.Wd
open Go.ChangeShapes Go.WideShapes Go.ChangeAt Go.RowKit Go.Proofs.Ytcnonioiggniiaa.M

/-- The cells of a text. -/
def sc (x : ByteArray) (m : Nat) : List Value := (List.range m).map fun j => .int .u8 (bt x j)
theorem sc_length (x : ByteArray) (m : Nat) : (sc x m).length = m := by simp [sc]
theorem sc_get (x : ByteArray) (m j : Nat) (h : j < m) : (sc x m)[j]? = some (.int .u8 (bt x j)) := by
  unfold sc
  rw [List.getElem?_map, List.getElem?_range h]
  rfl
theorem sc_text (x : ByteArray) (m : Nat) (h : m ≤ x.size) : List.take m (List.map (fun b : UInt8 => Value.int IntKind.u8 (b.toNat : Int)) x.data.toList) = sc x m := by
  apply List.ext_getElem?
  intro j
  rw [List.getElem?_take]
  by_cases hj : j < m
  · rw [if_pos hj, sc_get _ _ _ hj, List.getElem?_map]
    have hs : j < x.size := by omega
    have : x.data.toList[j]? = some (x[j]) := by
      rw [Array.getElem?_toList]
      exact Array.getElem?_eq_getElem hs
    rw [this]
    show some (Value.int IntKind.u8 ((x[j]).toNat : Int)) = _
    rw [get_bt x j hs]
  · rw [if_neg hj, List.getElem?_eq_none (by rw [sc_length]; omega)]
theorem sc_one (x : ByteArray) (m : Nat) : ∀ v ∈ sc x m, v.oneCell' = true := fun v hv => by
  unfold sc at hv
  rw [List.mem_map] at hv
  obtain ⟨_, _, rfl⟩ := hv
  rfl

theorem info8z : (Try.prog.info? 5).map (fun i => (i.zero, i.size, i.bytes)) = some (some (.int .u8 0), 1, 1) := by kernel_rfl

theorem run_copy_text (W : World) (g t dT sT ty e o m c : Nat) (hu : Try.prog.underlying dT = some (.slice e)) (he : (Try.prog.info? e).map (·.size) = some 1) (cur : Array Value) (s : ByteArray) (h : W.heap[g]? = some (.cells cur t (0, 0))) (hc : o + m ≤ cur.size) :
    (Builtin.copy_ #[dT, sT] ty #[.slice (some ⟨g, o, none⟩) m c, .string s]).run Try.prog W = .ok (goInt ((min s.size m : Nat) : Int)) (W.setRow g (cur.toList.take o ++ sc s (min s.size m) ++ cur.toList.drop (o + min s.size m)).toArray) := by
  have hst := run_storeCells_at Try.prog g o t (sc s (min s.size m)) 0 cur W h (by rw [sc_length]; omega) (sc_one _ _)
  rw [sc_length, Nat.add_zero] at hst
  have htk := sc_text s (min s.size m) (by omega)
  have hmn : s.size.min m = min s.size m := rfl
  cases hq : Try.prog.info? e with
  | none => simp [hq] at he
  | some i =>
    simp [Builtin.copy_, run_underlying hu, Builtin.lenOf, Builtin.firstCells, sizeOf, typeInfo, hq]
    rw [hmn, htk, hst]
    simp [Result.andThen]

theorem run_clear (W : World) (g t T ty e o m c : Nat) (hu : Try.prog.underlying T = some (.slice e)) (he : (Try.prog.info? e).map (fun i => (i.zero, i.size, i.bytes)) = some (some (.int .u8 0), 1, 1)) (cur : Array Value) (h : W.heap[g]? = some (.cells cur t (0, 0))) (hc : o + m ≤ cur.size) (hm : 0 < m) :
    (Builtin.clear_ #[T] ty #[.slice (some ⟨g, o, none⟩) m c]).run Try.prog W = .ok (.tuple #[]) (W.setRow g (cur.toList.take o ++ List.replicate m (Value.int .u8 0) ++ cur.toList.drop (o + m)).toArray) := by
  have hst := run_storeCells_at Try.prog g o t (List.replicate m (Value.int .u8 0)) 0 cur W h (by rw [List.length_replicate]; omega) (fun v hv => by rw [List.eq_of_mem_replicate hv]; rfl)
  rw [List.length_replicate, Nat.add_zero] at hst
  obtain ⟨i0, hi, hz0, hz1, hz2⟩ := info_parts he
  have hz : (Builtin.zeroCells (Value.int IntKind.u8 0).cells m).toList = List.replicate m (Value.int .u8 0) := by
    simp only [Builtin.zeroCells, Value.cells]
    apply List.ext_getElem
    · simp
    · intro j _ _
      simp [Nat.mod_one]
  obtain ⟨m', rfl⟩ : ∃ m', m = m' + 1 := ⟨m - 1, by omega⟩
  simp [Builtin.clear_, run_underlying hu, zeroValue, typeInfo, hi, hz0]
  rw [hz, hst]
  simp [Result.andThen]

theorem run_clear_none (W : World) (T ty e : Nat) (a : Option Addr) (c : Nat) (hu : Try.prog.underlying T = some (.slice e)) : (Builtin.clear_ #[T] ty #[.slice a 0 c]).run Try.prog W = .ok (.tuple #[]) W := by
  cases a <;> simp [Builtin.clear_, run_underlying hu]

/-- What lies behind the copy and the clearing. -/
theorem laid_cells (s : Nat → ByteArray) (n : Nat) (x : ByteArray) (h : x.size < 64 * n) :
    List.take x.size (List.take 0 (lc s n) ++ sc x x.size ++ List.drop (0 + x.size) (lc s n)) ++ List.replicate (64 * n - x.size) (Value.int .u8 0) ++ List.drop (x.size + (64 * n - x.size)) (List.take 0 (lc s n) ++ sc x x.size ++ List.drop (0 + x.size) (lc s n)) = lc (fun k => cut64 x (64 * k)) n := by
  have hl := lc_length s n
  have hs := sc_length x x.size
  rw [List.take_zero, List.nil_append, Nat.zero_add, List.take_left' hs]
  have e1 : x.size + (64 * n - x.size) = 64 * n := by omega
  rw [e1, List.drop_eq_nil_of_le (by rw [List.length_append, hs, List.length_drop, hl]; omega), List.append_nil]
  apply List.ext_getElem?
  intro j
  by_cases hj : j < 64 * n
  · rw [lc_get _ _ _ hj, bt_bx, cut64_bx _ _ _ (by omega)]
    have e : 64 * (j / 64) + j % 64 = j := by omega
    rw [e]
    by_cases c : j < x.size
    · rw [List.getElem?_append_left (by rw [hs]; exact c), sc_get _ _ _ c, bt_bx]
    · rw [List.getElem?_append_right (by rw [hs]; omega), hs, List.getElem?_replicate, if_pos (by omega), bx_none c]
      rfl
  · rw [List.getElem?_eq_none (by rw [List.length_append, hs, List.length_replicate]; omega), List.getElem?_eq_none (by rw [lc_length]; omega)]
theorem laid_full (s : Nat → ByteArray) (n : Nat) (x : ByteArray) :
    List.take 0 (lc s n) ++ sc x (64 * n) ++ List.drop (0 + 64 * n) (lc s n) = lc (fun k => cut64 x (64 * k)) n := by
  have hl := lc_length s n
  have hs := sc_length x (64 * n)
  rw [List.take_zero, List.nil_append, Nat.zero_add, List.drop_eq_nil_of_le (by omega), List.append_nil]
  apply List.ext_getElem?
  intro j
  by_cases hj : j < 64 * n
  · rw [lc_get _ _ _ hj, bt_bx, cut64_bx _ _ _ (by omega), sc_get _ _ _ hj, bt_bx]
    have e : 64 * (j / 64) + j % 64 = j := by omega
    rw [e]
  · rw [List.getElem?_eq_none (by rw [hs]; omega), List.getElem?_eq_none (by rw [lc_length]; omega)]

theorem cell_row {w : World} {g b j : Nat} (h : b ≠ g) (c : Array Value) : (w.setRow g c).cell? ⟨b, j, none⟩ = w.cell? ⟨b, j, none⟩ := World.cell?_of_block (blk_other h c)
theorem free_row {w : World} {g b j : Nat} (h : b ≠ g) (c : Array Value) : (w.setRow g c).frozen? ⟨b, j, none⟩ = w.frozen? ⟨b, j, none⟩ := World.frozen?_of_block (blk_other h c)

set_option maxRecDepth 100000 in
set_option maxHeartbeats 1600000 in
theorem lay {w : World} {D : Nat} {d : Dk} {F : Nat → Prop} {L : Ly} (h : DkL w D d F L) {i : Nat} (hi : i < d.k) (x : ByteArray) :
    Calls Try.prog 45 #[rp L i, .string x] w fun e w' => e = .returned (.tuple #[]) ∧ DkL w' D (d.at i ((d.r i).lay x)) F L ∧ Kept F w w' ∧ Nums w w' ∧ w'.heap.size = w.heap.size := by
  obtain ⟨c1, c2, c3⟩ := h.cR hi
  have hn := (h.ok.r i hi).n
  have hlbF := h.ownl i hi
  have hRF := h.ownR (by omega)
  have hne := lb_ne_R h hi
  have hcp := run_copy_text w (L.lb i) 5 67 9 3 5 0 (64 * (d.r i).n) (64 * (d.r i).n) Try.underlying67 (by kernel_rfl) _ x (h.lb i hi) (by rw [List.size_toArray, lc_length]; omega)
  have FIN : ∀ w2 : World, w2.heap.size = w.heap.size → w2.heap[L.lb i]? = some (.cells (lc (fun k => cut64 x (64 * k)) (d.r i).n).toArray 5 (0, 0)) → (∀ b, b ≠ L.lb i → w2.heap[b]? = w.heap[b]?) → w2.os = w.os → w2.tape = w.tape → w2.output = w.output →
      DkL (w2.setCell ⟨L.R, i * 2 + 1, none⟩ (.slice none 0 0)) D (d.at i ((d.r i).lay x)) F L ∧ Kept F w (w2.setCell ⟨L.R, i * 2 + 1, none⟩ (.slice none 0 0)) ∧ Nums w (w2.setCell ⟨L.R, i * 2 + 1, none⟩ (.slice none 0 0)) ∧ (w2.setCell ⟨L.R, i * 2 + 1, none⟩ (.slice none 0 0)).heap.size = w.heap.size := by
    intro w2 k1 k2 k3 k4 k5 k6
    refine ⟨h.reset hi k1 k2 k3 (fun k => cut64_size _ _), Kept.setCell ⟨k4, k5, k6, by rw [k1]; exact Nat.le_refl _, fun k _ hF => k3 k fun e => hF (by rw [e]; exact hlbF)⟩ hRF _, ?_, by rw [← k1]; simp [World.setCell]⟩
    obtain ⟨l, g1, _⟩ := h.rows (by omega)
    have g2 : w2.heap[L.R]? = _ := (k3 _ hne.symm).trans g1
    refine Nums.trans (fun b cs fr hb => k3 b fun e => ?_) (Nums.setCell g2 (by decide) _)
    rw [e, h.lb i hi] at hb
    simp at hb
  have HFIN : Hid _ := FIN
  clear FIN
  unfold rp lv qv at *
  by_cases c : x.size < 64 * (d.r i).n
  · rw [Nat.min_eq_left (by omega)] at hcp
    have e1 : (w.setRow (L.lb i) (List.take 0 (lc (d.r i).s (d.r i).n) ++ sc x x.size ++ List.drop (0 + x.size) (lc (d.r i).s (d.r i).n)).toArray).heap[L.lb i]? = _ := blk_row (h.lb i hi) _
    have hcl := run_clear _ (L.lb i) 5 67 0 5 x.size (64 * (d.r i).n - x.size) (64 * (d.r i).n - x.size) Try.underlying67 info8z _ e1 (by
      rw [List.size_toArray, List.length_append, List.length_append, List.length_take, List.length_drop, sc_length, lc_length]; omega) (by omega)
    simp only at hcp hcl
    rw [laid_cells _ _ _ c] at hcl
    have HE1 : Hid _ := e1
    clear e1
    generalize hG : (List.take 0 (lc (d.r i).s (d.r i).n) ++ sc x x.size ++ List.drop (0 + x.size) (lc (d.r i).s (d.r i).n)).toArray = G1 at hcp hcl HE1
    have r1 := (cell_row (w := w) (b := L.R) (j := i * 2) (Ne.symm hne) G1).trans c1
    have r2 := (cell_row (w := w.setRow (L.lb i) G1) (b := L.R) (j := i * 2 + 1) (Ne.symm hne) (lc (fun k => cut64 x (64 * k)) (d.r i).n).toArray).trans ((cell_row (Ne.symm hne) G1).trans c2)
    have r3 := (free_row (w := w.setRow (L.lb i) G1) (b := L.R) (j := i * 2 + 1) (Ne.symm hne) (lc (fun k => cut64 x (64 * k)) (d.r i).n).toArray).trans ((free_row (Ne.symm hne) G1).trans (c3 _))
    have HHP := HFIN.out ((w.setRow (L.lb i) G1).setRow (L.lb i) (lc (fun k => cut64 x (64 * k)) (d.r i).n).toArray) (by simp [World.setRow]) (blk_row HE1.out _) (fun b hb => (blk_other hb _).trans (blk_other hb _)) rfl rfl rfl
    have HP : Hid _ := HHP
    clear HHP hG
    go_enter Try.func45, Try.ntmps45
    go_wp2
    go_end0
    exact ⟨rfl, HP.out⟩
  · rw [Nat.min_eq_right (by omega)] at hcp
    simp only at hcp
    rw [laid_full] at hcp
    have hcl := fun a c => run_clear_none (w.setRow (L.lb i) (lc (fun k => cut64 x (64 * k)) (d.r i).n).toArray) 67 0 5 a c Try.underlying67
    have r1 := (cell_row (w := w) (b := L.R) (j := i * 2) (Ne.symm hne) (lc (fun k => cut64 x (64 * k)) (d.r i).n).toArray).trans c1
    have r2 := (cell_row (w := w) (b := L.R) (j := i * 2 + 1) (Ne.symm hne) (lc (fun k => cut64 x (64 * k)) (d.r i).n).toArray).trans c2
    have r3 := (free_row (w := w) (b := L.R) (j := i * 2 + 1) (Ne.symm hne) (lc (fun k => cut64 x (64 * k)) (d.r i).n).toArray).trans (c3 _)
    have HHP := HFIN.out (w.setRow (L.lb i) (lc (fun k => cut64 x (64 * k)) (d.r i).n).toArray) (by simp [World.setRow]) (blk_row (h.lb i hi) _) (fun b hb => blk_other hb _) rfl rfl rfl
    have HP : Hid _ := HHP
    clear HHP
    go_enter Try.func45, Try.ntmps45
    go_wp2
    go_end0
    exact ⟨rfl, HP.out⟩

end Go.Proofs.Ytcnonioiggniiaa.Wd
