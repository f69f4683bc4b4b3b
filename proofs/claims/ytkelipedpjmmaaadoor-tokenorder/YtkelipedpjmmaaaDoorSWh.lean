/-
  The walk of sha.State.wholeBlocks: it returns the state behind all whole blocks of a text, as 'whl' says, and what is left of the text; nothing that was in memory has turned. Conditions: the state has eight words, the text's length is an int, and the table of the rounds' numbers holds what it was laid with.
-/
import Derived.Test.YtkelipedpjmmaaaDoorRows
import Derived.Test.YtkelipedpjmmaaaDoorSBlk
import Derived.Test.YtkelipedpjmmaaaDoorQa
import Derived.WalkKit
import Derived.ProofKit
import Derived.OpenShut
import Derived.Laws.ResultCell
namespace Go.Proofs.YtkelipedpjmmaaaDoor.Wh
open Go.ChangeShapes Go.WideShapes Go.ChangeAt Go.RowKit Go.Proofs.YtkelipedpjmmaaaDoor.M

theorem c8_list (l : List UInt8) : c8 (l.map UInt8.toNat) = (l.map fun b => Value.int .u8 (b.toNat : Int)).toArray := by
  simp [c8]

/-- The first 64 bytes of a text into an array of bytes. -/
theorem run_copy_block (W : World) (g t dT sT ty e : Nat) (hu : Tryd.prog.underlying dT = some (.slice e)) (he : (Tryd.prog.info? e).map (·.size) = some 1) (cur : Array Value) (s : ByteArray) (h : W.heap[g]? = some (.cells cur t (0, 0))) (hc : cur.size = 64) (hs : 64 ≤ s.size) :
    (Builtin.copy_ #[dT, sT] ty #[.slice (some ⟨g, 0, none⟩) 64 64, .string s]).run Tryd.prog W = .ok (goInt 64) (W.setRow g (c8 (bkL s.data.toList 0))) := by
  have hmin : Nat.min s.size 64 = 64 := Nat.min_eq_right hs
  have htk : List.take 64 (List.map (fun b : UInt8 => Value.int IntKind.u8 (b.toNat : Int)) s.data.toList) = (c8 (bkL s.data.toList 0)).toList := by
    unfold bkL
    rw [c8_list]
    simp [List.map_take]
  have hl : (c8 (bkL s.data.toList 0)).size = 64 := by
    rw [c8_size, bkL_len _ _ (by rw [← size_list]; omega)]
  have hst := run_storeCells_from (P := Tryd.prog) g t (c8 (bkL s.data.toList 0)).toList 0 cur W h (by simp [hl, hc]) (fun v hv => (Array.all_eq_true_iff_forall_mem.1 (c8_one _)) v (by simpa using hv))
  simp only [List.take_zero, List.nil_append, Array.toArray_toList] at hst
  cases hq : Tryd.prog.info? e with
  | none => simp [hq] at he
  | some i =>
    simp [Builtin.copy_, run_underlying hu, Builtin.lenOf, Builtin.firstCells, sizeOf, typeInfo, hq, hmin]
    rw [htk, hst]
    simp [Result.andThen]

theorem zeros64b : c8 (List.replicate 64 0) = #[.int .u8 0, .int .u8 0, .int .u8 0, .int .u8 0, .int .u8 0, .int .u8 0, .int .u8 0, .int .u8 0, .int .u8 0, .int .u8 0, .int .u8 0, .int .u8 0, .int .u8 0, .int .u8 0, .int .u8 0, .int .u8 0, .int .u8 0, .int .u8 0, .int .u8 0, .int .u8 0, .int .u8 0, .int .u8 0, .int .u8 0, .int .u8 0, .int .u8 0, .int .u8 0, .int .u8 0, .int .u8 0, .int .u8 0, .int .u8 0, .int .u8 0, .int .u8 0, .int .u8 0, .int .u8 0, .int .u8 0, .int .u8 0, .int .u8 0, .int .u8 0, .int .u8 0, .int .u8 0, .int .u8 0, .int .u8 0, .int .u8 0, .int .u8 0, .int .u8 0, .int .u8 0, .int .u8 0, .int .u8 0, .int .u8 0, .int .u8 0, .int .u8 0, .int .u8 0, .int .u8 0, .int .u8 0, .int .u8 0, .int .u8 0, .int .u8 0, .int .u8 0, .int .u8 0, .int .u8 0, .int .u8 0, .int .u8 0, .int .u8 0, .int .u8 0] := rfl
theorem sizeByte1 : (Tryd.prog.info? 5).map (·.size) = some 1 := by kernel_rfl

/-- What lies where. -/
def JW (w : World) (s b : List Nat) (W : World) : Prop :=
  W.heap[w.heap.size]? = some (.cells (c32 s) 94 (0, 0)) ∧ W.heap[w.heap.size + 1]? = some (.cells (c32 (List.replicate 8 0)) 94 (0, 0)) ∧ W.heap[w.heap.size + 1 + 1]? = some (.cells (c8 b) 113 (0, 0)) ∧ Below w.heap.size w W
theorem JW.below {w W W' : World} {s b : List Nat} (h : JW w s b W) (hb : Below W.heap.size W W') : JW w s b W' := by
  obtain ⟨h1, h2, h3, h4⟩ := h
  have K : ∀ {k : Nat} {o : Obj}, W.heap[k]? = some o → W'.heap[k]? = some o := fun hk => (hb.block _ (Array.getElem?_eq_some_iff.1 hk).1).trans hk
  exact ⟨K h1, K h2, K h3, h4.trans (hb.mono h4.size)⟩
theorem JW.state {w W : World} {s b : List Nat} (h : JW w s b W) (s2 : List Nat) : JW w s2 b (W.setRow w.heap.size (c32 s2)) := by
  obtain ⟨h1, h2, h3, h4⟩ := h
  exact ⟨setRow_heap W _ _ _ _ _ h1, (setRow_other W _ _ _ (by omega)).trans h2, (setRow_other W _ _ _ (by omega)).trans h3, h4.trans (below_setRow (Nat.le_refl _))⟩
theorem JW.bytes {w W : World} {s b : List Nat} (h : JW w s b W) (b2 : List Nat) : JW w s b2 (W.setRow (w.heap.size + 1 + 1) (c8 b2)) := by
  obtain ⟨h1, h2, h3, h4⟩ := h
  exact ⟨(setRow_other W _ _ _ (by omega)).trans h1, (setRow_other W _ _ _ (by omega)).trans h2, setRow_heap W _ _ _ _ _ h3, h4.trans (below_setRow (by omega))⟩

set_option maxRecDepth 100000 in
set_option maxHeartbeats 2000000 in
theorem whole (s : List Nat) (T : ByteArray) (w : World) (hs : s.length = 8) (hW : W32 s) (hsz : T.size ≤ maxLen) (hT : Tab w) :
    Calls Tryd.prog 47 #[.agg (c32 s), .string T] w fun e w' => e = .returned (.tuple #[.agg (c32 (whl rns s T.data.toList (T.size / 64))), .string (tl T (T.size / 64))]) ∧ Below w.heap.size w w' := by
  unfold maxLen at hsz
  have HS : Hid (s.length = 8) := hs
  have HW : Hid (W32 s) := hW
  have HT : Hid (Tab w) := hT
  have h0 : tl T 0 = T := tl_zero T
  clear hs hW hT
  go_enter Tryd.func47, Tryd.ntmps47
  go_wp2
  go_loopw [1] (fun tv wr => ∃ i b, b.length = 64 ∧ 64 * i ≤ T.size ∧ tv = .string (tl T i) ∧ JW w (whl rns s T.data.toList i) b wr) (fun t _ => match t with | .string x => x.size | _ => 0)
  case atStart =>
    refine ⟨0, List.replicate 64 0, by simp, Nat.zero_le _, by rw [h0], ?_, ?_, ?_, (((Below.refl _ _).alloc (Nat.le_refl _) _).alloc (by simp) _).alloc (by simp <;> omega) _⟩
    · rw [heap_alloc_old _ _ (by simp <;> omega), heap_alloc_old _ _ (by simp)]
      exact heap_alloc_new w _
    · rw [heap_alloc_old _ _ (by simp), zeros8]
      exact heap_alloc2_new w _ _
    · rw [zeros64b]
      have := heap_alloc_new ((w.alloc (.cells (c32 s) 94)).alloc (.cells #[.int .u32 0, .int .u32 0, .int .u32 0, .int .u32 0, .int .u32 0, .int .u32 0, .int .u32 0, .int .u32 0] 94))
      simpa using this _
  case round =>
    clear h0
    obtain ⟨i, b, hb, hi, rfl, hj⟩ := hrel
    have hts := tl_size T i
    by_cases h64 : 64 ≤ (tl T i).size
    · have hT1 : Tab wr := HT.out.below hj.2.2.2 HT.out.pos
      have hcp := run_copy_block wr (w.heap.size + 1 + 1) 113 42 9 3 5 Tryd.underlying42 sizeByte1 (c8 b) (tl T i) hj.2.2.1 (by rw [c8_size, hb]) h64
      rw [bk_tl] at hcp
      have hj1 := hj.bytes (bkL T.data.toList i)
      have hT2 : Tab (wr.setRow (w.heap.size + 1 + 1) (c8 (bkL T.data.toList i))) := hT1.below (below_setRow (B := w.heap.size + 1) (by omega)) (by omega)
      have hlb : (bkL T.data.toList i).length = 64 := bkL_len _ _ (by rw [← size_list]; omega)
      have hls := whl_len rns s T.data.toList HS.out i
      have hlW := whl_W rns s T.data.toList HS.out HW.out i
      have hnx : whl rns s T.data.toList (i + 1) = blk rns (whl rns s T.data.toList i) (bkL T.data.toList i) := rfl
      have CB : Hid (∀ W, Tab W → Calls Tryd.prog 60 #[.agg (c32 (whl rns s T.data.toList i)), .agg (c8 (bkL T.data.toList i))] W fun e w' => e = .returned (.agg (c32 (whl rns s T.data.toList (i + 1)))) ∧ Below W.heap.size W w') :=
        fun W hW => block _ _ W hls hlW hlb (bkL_byte _ _) hW
      have hls2 := whl_len rns s T.data.toList HS.out (i + 1)
      clear hnx hlW hT1
      generalize hS2 : whl rns s T.data.toList (i + 1) = S2 at CB hls2
      generalize whl rns s T.data.toList i = S at CB hj hj1 hls
      generalize bkL T.data.toList i = b2 at CB hj1 hcp hT2 hlb
      have HS2 : Hid _ := hS2
      have HJ1 : Hid (JW w S b2 (wr.setRow (w.heap.size + 1 + 1) (c8 b2))) := hj1
      have i1 : Hid ((Tryd.prog.info? 113).map (·.size) = some (c8 b2).size) := by rw [c8_size, hlb]; exact info64b
      have i2 : Hid ((Tryd.prog.info? 94).map (·.size) = some (c32 S).size) := by rw [c32_size, hls]; exact info8s
      have i3 : Hid ((Tryd.prog.info? 94).map (·.size) = some (c32 S2).size) := by rw [c32_size, hls2]; exact info8s
      have hsz2 : Hid ((c32 S).size = (c32 S2).size) := by rw [c32_size, c32_size, hls, hls2]; rfl
      have htn := tl_next T i
      have hI : ((tl T i).size : Int) ≤ 9223372036854775807 := by omega
      have h64' : (64 : Int) ≤ ((tl T i).size : Int) := by omega
      clear hS2 hj hj1
      go_wp2_with (first
        | (refine wpList_load_row rfl 94 _ rfl w.heap.size rfl 94 (c32 S) (0, 0) _ HJ1.out.1 Tryd.underlying94 rfl i2.out ?_)
        | (refine wpList_load_row rfl 113 _ rfl (w.heap.size + 1 + 1) rfl 113 (c8 b2) (0, 0) _ HJ1.out.2.2.1 Tryd.underlying113 rfl i1.out ?_))
      refine (CB.out _ hT2).mono ?_
      rintro e w2 ⟨rfl, b2'⟩
      have HJ2 : Hid (JW w S b2 w2) := JW.below HJ1.out b2'
      clear HJ1 hcp CB hT2
      go_wp2_with (refine wpList_store_row rfl 94 _ _ rfl w.heap.size (c32 S2) rfl rfl 94 _ HJ2.out.1 i3.out hsz2.out (c32_one _) ?_)
      go_roundw
      case rel => exact ⟨i + 1, b2, hlb, by omega, by rw [← htn, hts], by rw [HS2.out]; exact HJ2.out.state S2⟩
      case measure =>
        rw [← hts, htn]
        show (tl T (i + 1)).size < (tl T i).size
        rw [tl_size, tl_size]
        omega
    · have hq : i = T.size / 64 := by omega
      have hls := whl_len rns s T.data.toList HS.out i
      rw [hq] at hj hls h64 ⊢
      generalize hS : whl rns s T.data.toList (T.size / 64) = S at hj hls
      generalize htl : tl T (T.size / 64) = R at h64 ⊢
      have HSS : Hid (whl rns s T.data.toList (T.size / 64) = S) := hS
      have HTL : Hid (tl T (T.size / 64) = R) := htl
      have HJ : Hid _ := hj
      have i2 : Hid ((Tryd.prog.info? 94).map (·.size) = some (c32 S).size) := by rw [c32_size, hls]; exact info8s
      have hsz2 : Hid ((c32 (List.replicate 8 0)).size = (c32 S).size) := by rw [c32_size, c32_size, hls]; rfl
      have hI : ¬ (64 : Int) ≤ (R.size : Int) := by omega
      clear hS htl hj hq hts hi h64
      go_wp2_with (first
        | (refine wpList_load_row rfl 94 _ rfl w.heap.size rfl 94 (c32 S) (0, 0) _ HJ.out.1 Tryd.underlying94 rfl i2.out ?_)
        | (refine wpList_store_row rfl 94 _ _ rfl (w.heap.size + 1) (c32 S) rfl rfl 94 _ HJ.out.2.1 i2.out hsz2.out (c32_one _) ?_))
      have hrow := setRow_heap wr _ _ (c32 S) _ _ HJ.out.2.1
      refine bodyPost_ret (v := .tuple #[.agg (c32 S), .string R]) ?_ rfl ⟨by rw [HSS.out, HTL.out], HJ.out.2.2.2.trans (below_setRow (by omega))⟩
      rw [results_cell_tmp Tryd.results47]
      simp [asAddr, Result.andThen, run_loadVar_row _ _ _ _ _ _ _ hrow Tryd.underlying94 rfl i2.out]

end Go.Proofs.YtkelipedpjmmaaaDoor.Wh
