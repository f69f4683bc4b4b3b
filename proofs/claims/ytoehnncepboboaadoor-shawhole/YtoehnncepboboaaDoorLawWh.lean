/-
  The walk of the law ShaWhole: it returns true, and nothing that was in memory has turned. Conditions: the text is of at most 2^47 bytes; the table of the rounds' numbers holds what it was laid with.
-/
import Derived.Test.YtoehnncepboboaaDoorRows
import Derived.Test.YtoehnncepboboaaDoorSSum
import Derived.WalkKit
import Derived.ProofKit
import Derived.OpenShut
namespace Go.Proofs.YtoehnncepboboaaDoor.Wh
open Go.ChangeShapes Go.WideShapes Go.ChangeAt Go.RowKit Go.Proofs.YtoehnncepboboaaDoor.M

theorem bk_ext (A : ByteArray) (n : Nat) : bkL (A.extract (64 * n) A.size).data.toList 0 = bkL A.data.toList n := by
  have h : (A.extract (64 * n) A.size).data.toList = A.data.toList.drop (64 * n) := by
    rw [ByteArray.data_extract, size_list]
    simp
    rw [List.take_of_length_le (by simp)]
  rw [h]
  simp [bkL]

theorem JS.other {w0 w : World} {p q : Nat} {l : List Nat} (h : JS w0 p l w) (hq : p < q) (cs : Array Value) : JS w0 p l (w.setRow q cs) :=
  ⟨(setRow_other w q p cs (by omega)).trans h.1, h.2.1, h.2.2.1.trans (below_setRow (by have := h.2.1; omega)), h.2.2.2.1.below (below_setRow (B := q) (Nat.le_refl _)) (by omega), h.2.2.2.2⟩

set_option maxRecDepth 100000 in
set_option maxHeartbeats 1000000 in
theorem wholes (T : ByteArray) (w : World) (hsz : T.size ≤ 140737488355328) (hT : Tab w) :
    Calls Tryd.prog 5 #[.string T] w fun e w' => e = .returned (.bool true) ∧ Below w.heap.size w w' := by
  have HT : Hid (Tab w) := hT
  have hwr : IntKind.u64.wrap (T.size : Int) = (T.size : Int) := by rw [IntKind.wrap_u64]; omega
  have hps := pdB_size T.size
  have hpl := npad_lt T.size
  have hal : T ++ pdB T.size = allB T := rfl
  have haw := allB_whole T
  have has : (allB T).size ≤ 140737488355500 := by
    rw [allB_size, pd_length]
    omega
  have hm : ((allB T).size : Int).tmod 64 = 0 := by
    rw [Int.tmod_eq_emod_of_nonneg (by omega)]
    omega
  have CS : Hid (∀ w, Tab w → Calls Tryd.prog 7 #[.string T] w fun e w' => e = .returned (.string (dig T)) ∧ Below w.heap.size w w') := fun w h => sum T w (by omega) h
  have hd : (dig T).size = 32 := dig_size T
  have CT : Hid (∀ W, Calls Tryd.prog 14 #[.agg (c32 (whl rns beg (allB T).data.toList (nBl T)))] W fun e w' => e = .returned (.string (dig T)) ∧ Below W.heap.size W w') :=
    fun W => text _ W (whl_len rns beg _ beg_len _) (whl_W rns beg _ beg_len beg_W _)
  generalize dig T = D at CS CT hd
  have HAW : Hid ((allB T).size = 64 * nBl T) := haw
  clear haw
  have i1 : Hid ((Tryd.prog.info? 28).map (·.size) = some (c32 beg).size) := by rw [c32_size, beg_len]; exact info8s
  clear hT
  go_enter Tryd.func5, Tryd.ntmps5
  go_wp2_with fail
  refine (pad T.size w).mono ?_
  rintro e w1 ⟨rfl, b1⟩
  have hT1 : Hid (Tab w1) := HT.out.below b1 HT.out.pos
  go_wp2_with fail
  refine (wakes w1 hT1.out).mono ?_
  rintro e w2 ⟨rfl, b2⟩
  have hT2 : Hid (Tab w2) := hT1.out.below b2 hT1.out.pos
  clear hal hps hpl
  go_wp2_with fail
  refine (begin_ w2).mono ?_
  rintro e w3 ⟨rfl, b3⟩
  have hT3 : Hid (Tab w3) := hT2.out.below b3 hT2.out.pos
  have bb : Below w.heap.size w w3 := b1.trans ((b2.mono b1.size).trans (b3.mono (Nat.le_trans b1.size b2.size)))
  have hJ : Hid (JS w w3.heap.size beg (w3.alloc (.cells (c32 beg) 28))) :=
    ⟨heap_alloc_new w3 _, bb.size, bb.alloc bb.size _, hT3.out.below ((Below.refl w3.heap.size w3).alloc (Nat.le_refl _) _) hT3.out.pos, hT3.out.pos⟩
  clear b1 b2 b3 hT1 hT2 hT3 HT bb
  go_wp2_with (refine store_new rfl 28 _ _ rfl w3.heap.size rfl (c32 beg) rfl rfl _ i1.out rfl (c32_one _) ?_)
  generalize allB T = A at HAW has hm CT ⊢
  generalize nBl T = N at HAW CT
  clear hm
  generalize w3.heap.size = g at hJ ⊢
  go_loopw [5] (fun tv wr => ∃ n : Nat, n ≤ N ∧ tv = .int .i64 ((64 * n : Nat) : Int) ∧ JS w g (whl rns beg A.data.toList n) wr) (fun t _ => A.size - (intOf t).toNat)
  case atStart => exact ⟨0, Nat.zero_le _, rfl, hJ.out⟩
  case round =>
    clear hJ
    obtain ⟨n, hn, rfl, hj⟩ := hrel
    have ea : ((64 * n : Nat) : Int) = 64 * (n : Int) := by omega
    rw [ea]
    clear ea
    have haw := HAW.out
    by_cases hlt : n < N
    · have ha1 : 64 * (n : Int) < (A.size : Int) := by omega
      have ha2 : 64 * (n : Int) ≤ (A.size : Int) := by omega
      have hlb : (bkL A.data.toList n).length = 64 := bkL_len _ _ (by rw [← size_list]; omega)
      obtain ⟨W0, hW0⟩ : ∃ W0, W0 = wr.alloc (.cells (c8 (List.replicate 64 0)) 27) := ⟨_, rfl⟩
      have hq0 : W0.heap[wr.heap.size]? = some (.cells (c8 (List.replicate 64 0)) 27 (0, 0)) := by rw [hW0]; exact heap_alloc_new wr _
      have hj0 : JS w g (whl rns beg A.data.toList n) W0 := by
        rw [hW0]
        exact hj.below ((Below.refl _ _).alloc (Nat.le_refl _) _)
      have hgq : g < wr.heap.size := (Array.getElem?_eq_some_iff.1 hj.1).1
      have hcp : ∀ W1 : World, W1.heap = W0.heap → (Builtin.copy_ #[37, 9] 3 #[.slice (some ⟨wr.heap.size, 0, none⟩) 64 64, .string (A.extract (64 * n) A.size)]).run Tryd.prog W1 = .ok (goInt 64) (W1.setRow wr.heap.size (c8 (bkL A.data.toList n))) := by
        intro W1 h1
        have h := run_copy_block W1 wr.heap.size 27 37 9 3 5 Tryd.underlying37 sizeByte1 (c8 (List.replicate 64 0)) (A.extract (64 * n) A.size) (by rw [h1]; exact hq0) (by rw [c8_size]; rfl) (by simp; omega)
        rw [bk_ext] at h
        exact h
      have hcp0 := hcp W0 rfl
      have hcp1 := hcp W0.drew rfl
      have hcp2 := hcp W0.drew.drew rfl
      rw [zeros64b] at hW0
      have HLT : Hid (n < N ∧ 64 * n + 64 ≤ A.size) := ⟨hlt, by omega⟩
      clear hcp haw hj
      go_wp2
      rw [← hW0]
      generalize wr.heap.size = q at hq0 hcp0 hcp1 hcp2 hgq ⊢
      clear hW0
      have HQ0 : Hid _ := hq0
      have HJ0 : Hid _ := hj0
      clear hq0 hj0
      go_region
      have hjc : JS w g (whl rns beg A.data.toList n) (W0.drew.setRow q (c8 (bkL A.data.toList n))) := (JS.drew HJ0.out).other hgq _
      have hqc : (W0.drew.setRow q (c8 (bkL A.data.toList n))).heap[q]? = some (.cells (c8 (bkL A.data.toList n)) 27 (0, 0)) := setRow_heap _ _ _ _ _ _ HQ0.out
      have hls := whl_len rns beg A.data.toList beg_len n
      have hlW := whl_W rns beg A.data.toList beg_len beg_W n
      have CB : Hid (∀ W, Tab W → Calls Tryd.prog 10 #[.agg (c32 (whl rns beg A.data.toList n)), .agg (c8 (bkL A.data.toList n))] W fun e w' => e = .returned (.agg (c32 (whl rns beg A.data.toList (n + 1)))) ∧ Below W.heap.size W w') :=
        fun W hW => block _ _ W hls hlW hlb (bkL_byte _ _) hW
      have hls2 := whl_len rns beg A.data.toList beg_len (n + 1)
      generalize W0.drew.setRow q (c8 (bkL A.data.toList n)) = Wc at hjc hqc ⊢
      generalize hS2 : whl rns beg A.data.toList (n + 1) = S2 at CB hls2
      generalize whl rns beg A.data.toList n = S at CB hjc hls
      generalize bkL A.data.toList n = b2 at CB hqc hlb
      have HS2 : Hid _ := hS2
      have HJc : Hid (JS w g S Wc) := hjc
      have HQc : Hid _ := hqc
      have i2 : Hid ((Tryd.prog.info? 27).map (·.size) = some (c8 b2).size) := by rw [c8_size, hlb]; exact info64b
      have i3 : Hid ((Tryd.prog.info? 28).map (·.size) = some (c32 S).size) := by rw [c32_size, hls]; exact info8s
      have i4 : Hid ((Tryd.prog.info? 28).map (·.size) = some (c32 S2).size) := by rw [c32_size, hls2]; exact info8s
      have hsz2 : Hid ((c32 S).size = (c32 S2).size) := by rw [c32_size, c32_size, hls, hls2]; rfl
      have HAL : Hid (64 * (n : Int) + 64 = ((64 * (n + 1) : Nat) : Int)) := by
        show 64 * (n : Int) + 64 = ((64 * (n + 1) : Nat) : Int)
        omega
      clear hS2 hjc hqc hcp0 hcp1 hcp2 HJ0 HQ0 hls hls2 hlW hlb hlt hn
      go_wp2_with (first
        | (refine wpList_load_row rfl 28 _ rfl g rfl 28 (c32 S) (0, 0) _ HJc.out.1 Tryd.underlying28 rfl i3.out ?_)
        | (refine wpList_load_row rfl 27 _ rfl q rfl 27 (c8 b2) (0, 0) _ HQc.out Tryd.underlying27 rfl i2.out ?_))
      refine (CB.out _ HJc.out.2.2.2.1).mono ?_
      rintro e w4 ⟨rfl, b4⟩
      have HJ4 : Hid (JS w g S w4) := JS.below HJc.out b4
      clear HJc HQc CB b4
      go_wp2_with (refine wpList_store_row rfl 28 _ _ rfl g (c32 S2) rfl rfl 28 _ HJ4.out.1 i4.out hsz2.out (c32_one _) ?_)
      go_roundw
      case rel => exact ⟨n + 1, by have := HLT.out; omega, by rw [← HAL.out], by rw [HS2.out]; exact JS.store HJ4.out S2⟩
      case measure => simp [intOf] <;> (have := HLT.out; omega)
    · have hnN : n = N := by omega
      have ha1 : ¬ 64 * (n : Int) < (A.size : Int) := by omega
      rw [hnN] at hj
      have hls := whl_len rns beg A.data.toList beg_len N
      generalize whl rns beg A.data.toList N = S at CT hj hls
      have HJ : Hid (JS w g S wr) := hj
      have i3 : Hid ((Tryd.prog.info? 28).map (·.size) = some (c32 S).size) := by rw [c32_size, hls]; exact info8s
      clear hj hls hnN hlt hn haw
      go_wp2_with (refine wpList_load_row rfl 28 _ rfl g rfl 28 (c32 S) (0, 0) _ HJ.out.1 Tryd.underlying28 rfl i3.out ?_)
      refine (CT.out _).mono ?_
      rintro e w4 ⟨rfl, b4⟩
      have HJ4 : Hid (JS w g S w4) := JS.below HJ.out b4
      go_wp2_with fail
      refine (CS.out _ HJ4.out.2.2.2.1).mono ?_
      rintro e w5 ⟨rfl, b5⟩
      have HJ5 : Hid (JS w g S w5) := JS.below HJ4.out b5
      go_wp2_with fail
      refine (CS.out _ HJ5.out.2.2.2.1).mono ?_
      rintro e w6 ⟨rfl, b6⟩
      have HJ6 : Hid (JS w g S w6) := JS.below HJ5.out b6
      go_wp2
      go_ret
      exact ⟨rfl, HJ6.out.2.2.1⟩

end Go.Proofs.YtoehnncepboboaaDoor.Wh
