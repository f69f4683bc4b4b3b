/-
  The walks of the document's With and Sum: the digest is 'dig'; nothing that was in memory has turned. Conditions: the text is of at most 2^47 bytes.
-/
import Derived.Test.YtkelipedpjmmaaaDoorRows
import Derived.Test.YtkelipedpjmmaaaDoorSRoot
import Derived.Test.YtkelipedpjmmaaaDoorSSum
import Derived.WalkKit
import Derived.ProofKit
import Derived.OpenShut
namespace Go.Proofs.YtkelipedpjmmaaaDoor.Wh
open Go.ChangeShapes Go.WideShapes Go.ChangeAt Go.RowKit Go.Proofs.YtkelipedpjmmaaaDoor.M

/-- The first i bytes of a block, noughts behind them. -/
def fil (b : List Nat) : Nat → List Nat
  | 0 => List.replicate 64 0
  | i + 1 => (fil b i).set i (b.getD i 0)
theorem fil_len (b : List Nat) : ∀ i, (fil b i).length = 64
  | 0 => by simp [fil]
  | i + 1 => by simp [fil, fil_len b i]
theorem fil_get (b : List Nat) : ∀ i j, i ≤ 64 → (fil b i).getD j 0 = if j < i then b.getD j 0 else 0
  | 0, j, _ => by
    simp only [fil, List.getD, List.getElem?_replicate]
    split <;> simp
  | i + 1, j, h => by
    show ((fil b i).set i (b.getD i 0)).getD j 0 = _
    rw [getD_set _ _ _ _ (by rw [fil_len]; omega), fil_get b i j (by omega)]
    by_cases e : j = i
    · subst e
      rw [if_pos rfl, if_pos (by omega)]
    · rw [if_neg e]
      by_cases h2 : j < i
      · rw [if_pos h2, if_pos (by omega)]
      · rw [if_neg h2, if_neg (by omega)]
theorem fil_full (b : List Nat) (h : b.length = 64) : fil b 64 = b := by
  apply List.ext_getElem
  · rw [fil_len, h]
  · intro i h1 h2
    have hk := fil_get b 64 i (Nat.le_refl _)
    rw [if_pos (by omega)] at hk
    simpa [List.getD, h1, h2] using hk
theorem bt_bkL (S : ByteArray) (n i : Nat) (hi : i < 64) : bt S (64 * n + i) = (((bkL S.data.toList n).getD i 0 : Nat) : Int) := by
  unfold bt bkL
  by_cases h : 64 * n + i < S.size
  · rw [dif_pos h]
    have hh : 64 * n + i < S.data.toList.length := by rw [← size_list]; exact h
    have e : S[64 * n + i] = S.data.toList[64 * n + i]'hh := by
      show S.data[64 * n + i]'_ = _
      simp
    rw [e]
    simp only [List.getD, List.getElem?_map, List.getElem?_take, List.getElem?_drop]
    rw [if_pos hi, List.getElem?_eq_getElem hh]
    simp
  · rw [dif_neg h]
    have hh : ¬ 64 * n + i < S.data.toList.length := by rw [← size_list]; exact h
    simp only [List.getD, List.getElem?_map, List.getElem?_take, List.getElem?_drop]
    rw [if_pos hi, List.getElem?_eq_none (by omega)]
    simp

/-- What lies where. -/
def JT (w : World) (g : Nat) (ks s : List Nat) (W : World) : Prop :=
  W.heap[w.heap.size]? = some (.cells (c32 ks) 74 (0, 0)) ∧ W.heap[g]? = some (.cells (c32 s) 93 (0, 0)) ∧ w.heap.size < g ∧ Below w.heap.size w W
theorem JT.below {w W W' : World} {g : Nat} {ks s : List Nat} (h : JT w g ks s W) (hb : Below W.heap.size W W') : JT w g ks s W' := by
  obtain ⟨h1, h2, h3, h4⟩ := h
  have K : ∀ {k : Nat} {o : Obj}, W.heap[k]? = some o → W'.heap[k]? = some o := fun hk => (hb.block _ (Array.getElem?_eq_some_iff.1 hk).1).trans hk
  exact ⟨K h1, K h2, h3, h4.trans (hb.mono h4.size)⟩
theorem JT.store {w W : World} {g : Nat} {ks s : List Nat} (h : JT w g ks s W) (s2 : List Nat) : JT w g ks s2 (W.setRow g (c32 s2)) := by
  obtain ⟨h1, h2, h3, h4⟩ := h
  exact ⟨(setRow_other W _ _ _ (by omega)).trans h1, setRow_heap W _ _ _ _ _ h2, h3, h4.trans (below_setRow (by omega))⟩
/-- .. and the bytes of a block. -/
def JU (w : World) (g q : Nat) (ks s b : List Nat) (W : World) : Prop := JT w g ks s W ∧ W.heap[q]? = some (.cells (c8 b) 113 (0, 0)) ∧ g < q
theorem JU.set {w W : World} {g q : Nat} {ks s b : List Nat} (h : JU w g q ks s b W) (i v : Nat) : JU w g q ks s (b.set i v) (W.setCell ⟨q, i, none⟩ (.int .u8 (v : Int))) := by
  obtain ⟨⟨h1, h2, h3, h4⟩, h5, h6⟩ := h
  have K : ∀ k, k ≠ q → (W.setCell ⟨q, i, none⟩ (.int .u8 (v : Int))).heap[k]? = W.heap[k]? := fun k hk => heap_setCell_other W _ k _ hk
  refine ⟨⟨(K _ (by omega)).trans h1, (K _ (by omega)).trans h2, h3, h4.setCell (p := ⟨_, _, none⟩) (by simp; omega) _⟩, ?_, h6⟩
  rw [heap_setCell_same W q i _ _ _ h5, c8_set]

set_option maxRecDepth 100000 in
set_option maxHeartbeats 1000000 in
theorem with_ (ks : List Nat) (T : ByteArray) (w : World) (hk : ks.length = 64) (hsz : T.size ≤ 140737488355328) :
    Calls Tryd.prog 52 #[.agg (c32 ks), .string T] w fun e w' => e = .returned (.string (txB (whl ks beg (allB T).data.toList (nBl T)) 8)) ∧ Below w.heap.size w w' := by
  have HK : Hid (ks.length = 64) := hk
  have i0 : Hid ((Tryd.prog.info? 74).map (·.size) = some (c32 ks).size) := by rw [c32_size, hk]; exact info64w
  have i1 : Hid ((Tryd.prog.info? 93).map (·.size) = some (c32 beg).size) := by rw [c32_size, beg_len]; exact info8a
  have hwr : IntKind.u64.wrap (T.size : Int) = (T.size : Int) := by rw [IntKind.wrap_u64]; omega
  have hps := pdB_size T.size
  have hpl := npad_lt T.size
  have hal : T ++ pdB T.size = allB T := rfl
  have haw := allB_whole T
  have has : (allB T).size ≤ 140737488355500 := by
    rw [allB_size, pd_length]
    omega
  clear hk
  go_enter Tryd.func52, Tryd.ntmps52
  go_wp2_with fail
  refine (beginRef _).mono ?_
  rintro e w1 ⟨rfl, b1⟩
  have hk1 : w1.heap[w.heap.size]? = some (.cells (c32 ks) 74 (0, 0)) := (b1.block _ (by simp)).trans (heap_alloc_new w _)
  have hlt1 : w.heap.size < w1.heap.size := (Array.getElem?_eq_some_iff.1 hk1).1
  have bb : Below w.heap.size w w1 := ((Below.refl _ _).alloc (Nat.le_refl _) _).trans (b1.mono (by simp))
  have hJ : Hid (JT w w1.heap.size ks beg (w1.alloc (.cells (c32 beg) 93))) := ⟨(heap_alloc_old _ _ hlt1).trans hk1, heap_alloc_new w1 _, hlt1, bb.alloc bb.size _⟩
  clear b1 hk1 bb
  go_wp2_with (refine store_new rfl 93 _ _ rfl w1.heap.size rfl (c32 beg) rfl rfl _ i1.out rfl (c32_one _) ?_)
  refine (padRef T.size _ (by omega)).mono ?_
  rintro e w2 ⟨rfl, b2⟩
  have hJ2 : Hid (JT w w1.heap.size ks beg w2) := JT.below hJ.out b2
  generalize w1.heap.size = g at hJ2 ⊢
  clear b2 hJ
  go_wp2
  clear hal hwr hps hpl hlt1
  generalize hAA : allB T = A at haw has ⊢
  generalize hNN : nBl T = N at haw
  have HAA : Hid _ := hAA
  have HNN : Hid _ := hNN
  have hgb := get_bt A
  clear hAA hNN
  go_loopw [8] (fun tv wr => ∃ n : Nat, n ≤ N ∧ tv = .int .i64 ((64 * n : Nat) : Int) ∧ JT w g ks (whl ks beg A.data.toList n) wr) (fun t _ => A.size - (intOf t).toNat)
  case atStart => exact ⟨0, Nat.zero_le _, rfl, hJ2.out⟩
  case round =>
    clear hJ2
    obtain ⟨n, hn, rfl, hj⟩ := hrel
    have ea : ((64 * n : Nat) : Int) = 64 * (n : Int) := by omega
    rw [ea]
    clear ea
    by_cases hlt : n < N
    · have ha1 : 64 * (n : Int) + 64 ≤ (A.size : Int) := by omega
      have ha2 : 64 * (n : Int) ≤ 140737488355500 := by omega
      have hq : Hid (JU w g wr.heap.size ks (whl ks beg A.data.toList n) (fil (bkL A.data.toList n) 0) (wr.alloc (.cells (c8 (List.replicate 64 0)) 113))) := by
        have hgl := (Array.getElem?_eq_some_iff.1 hj.2.1).1
        exact ⟨hj.below ((Below.refl _ _).alloc (Nat.le_refl _) _), heap_alloc_new wr _, hgl⟩
      have hJ3 : Hid (JU w g wr.heap.size ks (whl ks beg A.data.toList n) (fil (bkL A.data.toList n) 0) (wr.alloc (.cells #[.int .u8 0, .int .u8 0, .int .u8 0, .int .u8 0, .int .u8 0, .int .u8 0, .int .u8 0, .int .u8 0, .int .u8 0, .int .u8 0, .int .u8 0, .int .u8 0, .int .u8 0, .int .u8 0, .int .u8 0, .int .u8 0, .int .u8 0, .int .u8 0, .int .u8 0, .int .u8 0, .int .u8 0, .int .u8 0, .int .u8 0, .int .u8 0, .int .u8 0, .int .u8 0, .int .u8 0, .int .u8 0, .int .u8 0, .int .u8 0, .int .u8 0, .int .u8 0, .int .u8 0, .int .u8 0, .int .u8 0, .int .u8 0, .int .u8 0, .int .u8 0, .int .u8 0, .int .u8 0, .int .u8 0, .int .u8 0, .int .u8 0, .int .u8 0, .int .u8 0, .int .u8 0, .int .u8 0, .int .u8 0, .int .u8 0, .int .u8 0, .int .u8 0, .int .u8 0, .int .u8 0, .int .u8 0, .int .u8 0, .int .u8 0, .int .u8 0, .int .u8 0, .int .u8 0, .int .u8 0, .int .u8 0, .int .u8 0, .int .u8 0, .int .u8 0] 113))) := hq
      clear hq hj
      go_wp2
      obtain ⟨q, hqq⟩ : ∃ q, q = wr.heap.size := ⟨_, rfl⟩
      rw [← hqq]
      rw [← hqq] at hJ3
      clear hqq
      go_loopw [10] (fun iv wx => ∃ i : Nat, i ≤ 64 ∧ iv = .int .i64 (i : Int) ∧ JU w g q ks (whl ks beg A.data.toList n) (fil (bkL A.data.toList n) i) wx) (fun i _ => 64 - (intOf i).toNat)
      case atStart => exact ⟨0, Nat.zero_le _, rfl, hJ3.out⟩
      case round =>
        clear hJ3
        obtain ⟨i, hi, rfl, hj⟩ := hrel
        by_cases hi64 : i < 64
        · have hbb := bt_bkL A n i hi64
          have hrg := bt_range A (64 * n + i)
          have kc := (cell_of_row wr q i _ _ _ hj.2.1).trans (c8_get (fil (bkL A.data.toList n) i) i (by rw [fil_len]; exact hi64))
          have kz := frozen_of_row wr q i _ _ hj.2.1
          have hnx : fil (bkL A.data.toList n) (i + 1) = (fil (bkL A.data.toList n) i).set i ((bkL A.data.toList n).getD i 0) := rfl
          generalize (bkL A.data.toList n).getD i 0 = v at hbb hnx
          have HNX : Hid _ := hnx
          have hi1 : (i : Int) < 64 := by omega
          clear hnx
          go_wp2
          go_roundw
          case rel =>
            refine ⟨i + 1, by omega, by go_num, ?_⟩
            rw [HNX.out]
            exact hj.set i v
          case measure => simp [intOf] <;> omega
        · have h64 : i = 64 := by omega
          have e64 : (i : Int) = 64 := by omega
          have hlb : (bkL A.data.toList n).length = 64 := bkL_len _ _ (by rw [← size_list]; omega)
          rw [h64, fil_full _ hlb] at hj
          rw [e64]
          have hls := whl_len ks beg A.data.toList beg_len n
          have hlW := whl_W ks beg A.data.toList beg_len beg_W n
          have CB : Hid (∀ W, Calls Tryd.prog 66 #[.agg (c32 ks), .agg (c32 (whl ks beg A.data.toList n)), .agg (c8 (bkL A.data.toList n))] W fun e w' => e = .returned (.agg (c32 (whl ks beg A.data.toList (n + 1)))) ∧ Below W.heap.size W w') :=
            fun W => blockRef _ _ _ W HK.out hls hlW hlb (bkL_byte _ _)
          have hls2 := whl_len ks beg A.data.toList beg_len (n + 1)
          generalize hS2 : whl ks beg A.data.toList (n + 1) = S2 at CB hls2
          generalize whl ks beg A.data.toList n = S at CB hj hls
          generalize bkL A.data.toList n = b2 at CB hj hlb
          have HS2 : Hid _ := hS2
          have HJ1 : Hid (JU w g q ks S b2 wr) := hj
          have i2 : Hid ((Tryd.prog.info? 113).map (·.size) = some (c8 b2).size) := by rw [c8_size, hlb]; exact info64b
          have i3 : Hid ((Tryd.prog.info? 93).map (·.size) = some (c32 S).size) := by rw [c32_size, hls]; exact info8a
          have i4 : Hid ((Tryd.prog.info? 93).map (·.size) = some (c32 S2).size) := by rw [c32_size, hls2]; exact info8a
          have hsz2 : Hid ((c32 S).size = (c32 S2).size) := by rw [c32_size, c32_size, hls, hls2]; rfl
          have HAL : Hid (64 * (n : Int) + 64 = ((64 * (n + 1) : Nat) : Int)) := by
            show 64 * (n : Int) + 64 = ((64 * (n + 1) : Nat) : Int)
            omega
          have HLT : Hid (n < N ∧ 64 * n + 64 ≤ A.size) := ⟨hlt, by omega⟩
          clear hS2 hj h64 e64 hi64 hi hlW hlb hls hls2 hlt hn
          go_wp2_with (first
            | (refine wpList_load_row rfl 74 _ rfl w.heap.size rfl 74 (c32 ks) (0, 0) _ HJ1.out.1.1 Tryd.underlying74 rfl i0.out ?_)
            | (refine wpList_load_row rfl 93 _ rfl g rfl 93 (c32 S) (0, 0) _ HJ1.out.1.2.1 Tryd.underlying93 rfl i3.out ?_)
            | (refine wpList_load_row rfl 113 _ rfl q rfl 113 (c8 b2) (0, 0) _ HJ1.out.2.1 Tryd.underlying113 rfl i2.out ?_))
          refine (CB.out _).mono ?_
          rintro e w3 ⟨rfl, b3⟩
          have HJ2 : Hid (JT w g ks S w3) := HJ1.out.1.below b3
          clear HJ1 CB b3
          go_wp2_with (refine wpList_store_row rfl 93 _ _ rfl g (c32 S2) rfl rfl 93 _ HJ2.out.2.1 i4.out hsz2.out (c32_one _) ?_)
          go_roundw
          case rel => exact ⟨n + 1, by have := HLT.out; omega, by rw [← HAL.out], by rw [HS2.out]; exact JT.store HJ2.out S2⟩
          case measure => simp [intOf] <;> (have := HLT.out; omega)
    · have hnN : n = N := by omega
      have ha1 : ¬ 64 * (n : Int) + 64 ≤ (A.size : Int) := by omega
      rw [hnN] at hj
      have CT : Hid (∀ W, Calls Tryd.prog 67 #[.agg (c32 (whl ks beg A.data.toList N))] W fun e w' => e = .returned (.string (txB (whl ks beg A.data.toList N) 8)) ∧ Below W.heap.size W w') :=
        fun W => textRef _ W (whl_len ks beg _ beg_len _) (whl_W ks beg _ beg_len beg_W _)
      have hls := whl_len ks beg A.data.toList beg_len N
      rw [← HAA.out, ← HNN.out] at CT hj hls
      generalize hS : whl ks beg (allB T).data.toList (nBl T) = S at CT hj hls
      have HSS : Hid _ := hS
      have HJ : Hid (JT w g ks S wr) := hj
      have i3 : Hid ((Tryd.prog.info? 93).map (·.size) = some (c32 S).size) := by rw [c32_size, hls]; exact info8a
      have ha2 : 64 * (n : Int) ≤ 140737488355500 := by omega
      clear hS hj hls hnN hlt hn
      go_wp2_with (refine wpList_load_row rfl 93 _ rfl g rfl 93 (c32 S) (0, 0) _ HJ.out.2.1 Tryd.underlying93 rfl i3.out ?_)
      refine (CT.out _).mono ?_
      rintro e w3 ⟨rfl, b3⟩
      go_wp2
      go_ret
      exact ⟨by rw [HSS.out]; rfl, HJ.out.2.2.2.trans (b3.mono HJ.out.2.2.2.size)⟩

end Go.Proofs.YtkelipedpjmmaaaDoor.Wh
