/-
  The walks of sha.Begin, sha.Pad, sha.State.Text and of the document's Begin, Pad, Text: each returns what 'beg', 'pd', 'tx' say, and nothing that was in memory has turned. Conditions: none but that each number fits its kind.
-/
import Derived.Test.YtkelipedpjmmaaaDoorRows
import Derived.Test.YtkelipedpjmmaaaDoorPut
import Derived.Test.YtkelipedpjmmaaaDoorRep
import Derived.Test.YtkelipedpjmmaaaDoorQa
import Derived.WalkKit
import Derived.ProofKit
import Derived.OpenShut
namespace Go.Proofs.YtkelipedpjmmaaaDoor.Wh
open Go.ChangeShapes Go.WideShapes Go.ChangeAt Go.RowKit Go.Proofs.YtkelipedpjmmaaaDoor.M

theorem info8s : (Tryd.prog.info? 94).map (·.size) = some 8 := by kernel_rfl
theorem info8a : (Tryd.prog.info? 93).map (·.size) = some 8 := by kernel_rfl

theorem begin_ (w : World) :
    Calls Tryd.prog 46 #[] w fun e w' => e = .returned (.agg (c32 beg)) ∧ Below w.heap.size w w' := by
  go_enter Tryd.func46, Tryd.ntmps46
  go_wp2
  exact bodyPost_ret (v := .agg (c32 beg)) (results_cell_row Tryd.results46 _ _ w.heap.size 94 (c32 beg) (0, 0) _ rfl (heap_alloc_new w _) Tryd.underlying94 rfl info8s) rfl ⟨rfl, (Below.refl _ _).alloc (Nat.le_refl _) _⟩
theorem beginRef (w : World) :
    Calls Tryd.prog 64 #[] w fun e w' => e = .returned (.agg (c32 beg)) ∧ Below w.heap.size w w' := by
  go_enter Tryd.func64, Tryd.ntmps64
  go_wp2
  exact bodyPost_ret (v := .agg (c32 beg)) (results_cell_row Tryd.results64 _ _ w.heap.size 93 (c32 beg) (0, 0) _ rfl (heap_alloc_new w _) Tryd.underlying93 rfl info8a) rfl ⟨rfl, (Below.refl _ _).alloc (Nat.le_refl _) _⟩

theorem noughts (n : Nat) : wrap64 ((IntKind.u64.wrap (-IntKind.u64.wrap (IntKind.u64.wrap ((n : Int) + 1) + 8))).tmod 64) = ((npad n : Nat) : Int) := by
  rw [IntKind.wrap_u64, IntKind.wrap_u64, IntKind.wrap_u64, Int.tmod_eq_emod_of_nonneg (by omega)]
  unfold wrap64 npad
  omega

theorem pad (n : Nat) (w : World) :
    Calls Tryd.prog 48 #[.int .u64 (n : Int)] w fun e w' => e = .returned (.string (pdB n)) ∧ Below w.heap.size w w' := by
  have hn := npad_lt n
  have he := noughts n
  have hc := pd_code n
  have e8 : Wp.kOf 8 = 8 := by decide
  have HC : Hid _ := hc
  clear hc
  go_enter Tryd.func48, Tryd.ntmps48
  go_wp2_with fail
  rw [he]
  refine (Wx.repeat_ _ _ _ (by omega) (by show 1 * npad n ≤ _; omega)).mono ?_
  rintro e w1 ⟨rfl, b1⟩
  have hs1 : (⟨(Lib.repeatL (ByteArray.mk #[0]).data.toList (npad n)).toArray⟩ : ByteArray).size = npad n := by
    show (Lib.repeatL [0] (npad n)).toArray.size = _
    rw [repeat0]
    simp
  clear he
  go_wp2_with fail
  refine (Wp.putAny _ _ _ ?_ ?_).mono ?_
  · rw [IntKind.wrap_u64]; omega
  · rw [IntKind.wrap_u64]; omega
  rintro e w2 ⟨rfl, b2⟩
  rw [IntKind.wrap_u64, e8]
  have hs2 := beB_size 8 (8 * (n : Int) % 18446744073709551616)
  go_wp2
  go_ret
  exact ⟨by rw [← HC.out]; rfl, b1.trans (b2.mono b1.size)⟩

/-- An element of an array that is a value. -/
theorem run_index {t : Nat} {n : Nat} (hu : Tryd.prog.underlying t = some (.array n 73)) (l : List Nat) (i : Nat) (hi : i < l.length) (hn : l.length = n) (u : World) :
    (Instr.index t (.agg (c32 l)) (.int .i64 (i : Int))).run Tryd.prog u = .ok (.int .u32 ((l.getD i 0 : Nat) : Int)) u := by
  have h1 := c32_get l i hi
  have h2 : ¬ n ≤ i := by omega
  simp [Instr.index, asIntOf, run_underlying hu, Tryd.sizeOf73, Tryd.isAgg73, part, h1]
  exact fun h => absurd h h2

theorem builder_below {T e B b : Nat} {bs : List Value} {w w' : World} (h : Lib.IsBuilder T e B b bs w) (hb : Below w.heap.size w w') : Lib.IsBuilder T e B b bs w' := by
  have K : ∀ p, Lib.BuilderAt T e B b p bs w → Lib.BuilderAt T e B b p bs w' := by
    rintro p ⟨hB, v, hbk, hown, hne⟩
    exact ⟨hB, v, (hb.block b (Array.getElem?_eq_some_iff.1 hbk).1).trans hbk, hown.kept (row := none) ⟨hb.os, hb.tape, hb.output, hb.size, fun k hk _ => hb.block k hk⟩ (by cases v.ownBlock <;> simp), hne⟩
  rcases h with h | h
  · exact .inl (K _ h)
  · exact .inr (K _ h)

set_option maxRecDepth 100000 in
theorem text (l : List Nat) (w : World) (hl : l.length = 8) (hW : W32 l) :
    Calls Tryd.prog 49 #[.agg (c32 l)] w fun e w' => e = .returned (.string (txB l 8)) ∧ Below w.heap.size w w' := by
  have HL : Hid _ := hl
  have e4 : Wp.kOf 4 = 4 := by decide
  have hg : Hid (((w.alloc (.cells (c32 l) 94)).alloc (.cells #[.pointer none, .slice none 0 0] 105)).heap[w.heap.size]? = some (.cells (c32 l) 94 (0, 0))) := heap_alloc2_old w _ _
  have hi : Hid ((Tryd.prog.info? 94).map (·.size) = some (c32 l).size) := by
    rw [c32_size, hl]
    exact info8s
  have HB : Hid (Lib.IsBuilder 105 5 w.heap.size (w.heap.size + 1) (Lib.byteCells (tx l 0)) ((w.alloc (.cells (c32 l) 94)).alloc (.cells #[.pointer none, .slice none 0 0] 105))) :=
    .inl ⟨by omega, _, heap_alloc2_new w _ _, ⟨rfl, .inl ⟨rfl, rfl⟩⟩, by simp [Value.ownBlock]⟩
  clear hl
  go_enter Tryd.func49, Tryd.ntmps49
  go_wp2_with (refine wpList_load_row rfl 94 _ rfl w.heap.size rfl 94 (c32 l) (0, 0) _ hg.out Tryd.underlying94 rfl hi.out ?_)
  go_loopw [7] (fun iv wr => ∃ i : Nat, i ≤ 8 ∧ iv = .int .i64 (i : Int) ∧ Lib.IsBuilder 105 5 w.heap.size (w.heap.size + 1) (Lib.byteCells (tx l i)) wr ∧ Below w.heap.size w wr) (fun i _ => 8 - (intOf i).toNat)
  case atStart => exact ⟨0, Nat.zero_le _, rfl, HB.out, ((Below.refl _ _).alloc (Nat.le_refl _) _).alloc (by simp) _⟩
  case round =>
    obtain ⟨i, hi8, rfl, hb, hbel⟩ := hrel
    by_cases hlt : i < 8
    · have hx := run_index Tryd.underlying94 l i (by rw [HL.out]; exact hlt) HL.out
      have hx1 := hW i
      have htl := tx_length l i
      generalize hgen : l.getD i 0 = x at hx hx1
      have HG : Hid _ := hgen
      clear hgen
      go_wp2_with fail
      refine (Wp.putAny _ _ _ ?_ ?_).mono ?_
      · omega
      · omega
      rintro e w1 ⟨rfl, b1⟩
      rw [e4]
      have hb1 := builder_below hb b1
      have hsz := beB_size 4 (x : Int)
      have hB := Nat.le_trans hbel.size b1.size
      go_wp2_with fail
      refine (Wx.write _ _ _ _ _ hb1 ?_ ?_).mono ?_
      · rw [Lib.byteCells_length, htl, hsz]; omega
      · exact hB
      rintro e w2 ⟨rfl, hb2, b2⟩
      go_wp2
      go_roundw
      case rel =>
        refine ⟨i + 1, by omega, by go_num, ?_, (hbel.trans (b1.mono hbel.size)).trans b2⟩
        show Lib.IsBuilder _ _ _ _ (Lib.byteCells (tx l i ++ be 4 ((l.getD i 0 : Nat) : Int))) w2
        rw [HG.out]
        have e : Lib.byteCells (tx l i ++ be 4 (x : Int)) = Lib.byteCells (tx l i) ++ Lib.strCells (beB 4 (x : Int)) := by
          simp [Lib.byteCells, Lib.strCells, beB]
        rw [e]
        exact hb2
      case measure => simp [intOf] <;> omega
    · have h8 : i = 8 := by omega
      subst h8
      go_wp2_with fail
      refine (Wx.string _ _ (tx l 8) _ hb ?_).mono ?_
      · intro h0
        have := tx_length l 8
        rw [h0] at this
        exact absurd this (by decide)
      rintro e w1 ⟨rfl, b1⟩
      go_wp2
      go_ret
      exact ⟨rfl, hbel.trans b1⟩

theorem padRef (n : Nat) (w : World) (h : n < 18446744073709551616) :
    Calls Tryd.prog 65 #[.int .u64 (n : Int)] w fun e w' => e = .returned (.string (pdB n)) ∧ Below w.heap.size w w' := by
  have hn := npad_lt n
  have e8 : Wp.kOf 8 = 8 := by decide
  have HC : Hid _ := pz_code n
  have hcond : ∀ i : Nat, i ≤ npad n → ((((n : Int) % 64 + (i + 1) + 8) % 64 = 0) ↔ i = npad n) := by
    intro i hi
    unfold npad at hi ⊢
    omega
  have h0n : ((n : Int)).tmod 64 = (n : Int) % 64 := Int.tmod_eq_emod_of_nonneg (by omega)
  go_enter Tryd.func65, Tryd.ntmps65
  go_wp2
  go_loop [3, 4] (fun sv iv => ∃ i : Nat, i ≤ npad n ∧ iv = .int .i64 (i : Int) ∧ sv = .string (pz i)) (fun _ i => 64 - (intOf i).toNat)
  case atStart => exact ⟨0, Nat.zero_le _, rfl, rfl⟩
  case round =>
    obtain ⟨i, hi, rfl, rfl⟩ := hrel
    have hc := hcond i hi
    have hsz := pz_size i
    clear hcond
    by_cases hlt : i = npad n
    · have ht := hc.2 hlt
      subst hlt
      clear hc
      go_wp2_with fail
      refine (Wp.putRefAny _ _ _ ?_ ?_).mono ?_
      · rw [IntKind.wrap_u64]; omega
      · rw [IntKind.wrap_u64]; omega
      rintro e w2 ⟨rfl, b2⟩
      rw [IntKind.wrap_u64, e8]
      have hs2 := beB_size 8 (8 * (n : Int) % 18446744073709551616)
      go_wp2
      go_ret
      exact ⟨by rw [← HC.out]; rfl, b2⟩
    · have ht : ¬ ((((n : Int) % 64 + (i + 1) + 8) % 64 = 0)) := fun h => hlt (hc.1 h)
      clear hc
      go_wp2
      go_round
      case rel => exact ⟨i + 1, by omega, by go_num, by rw [pz_next]⟩
      case measure => simp [intOf] <;> omega

set_option maxRecDepth 100000 in
theorem textRef (l : List Nat) (w : World) (hl : l.length = 8) (hW : W32 l) :
    Calls Tryd.prog 67 #[.agg (c32 l)] w fun e w' => e = .returned (.string (txB l 8)) ∧ Below w.heap.size w w' := by
  have e4 : Wp.kOf 4 = 4 := by decide
  have HG0 : Hid ((w.alloc (.cells (c32 l) 93)).heap[w.heap.size]? = some (.cells (c32 l) 93 (0, 0))) := heap_alloc_new w _
  go_enter Tryd.func67, Tryd.ntmps67
  go_wp2
  go_loopw [3, 4] (fun sv iv wr => ∃ i : Nat, i ≤ 8 ∧ iv = .int .i64 (i : Int) ∧ sv = .string (txB l i) ∧ wr.heap[w.heap.size]? = some (.cells (c32 l) 93 (0, 0)) ∧ Below w.heap.size w wr) (fun _ i _ => 8 - (intOf i).toNat)
  case atStart => exact ⟨0, Nat.zero_le _, rfl, rfl, HG0.out, (Below.refl _ _).alloc (Nat.le_refl _) _⟩
  case round =>
    obtain ⟨i, hi8, rfl, rfl, hg, hbel⟩ := hrel
    by_cases hlt : i < 8
    · have hx := (cell_of_row wr w.heap.size i (c32 l) _ _ hg).trans (c32_get l i (by rw [hl]; exact hlt))
      have hx1 := hW i
      have htl := txB_size l i
      have hn := txB_next l i
      have HG : Hid _ := hg
      clear hg
      generalize hgen : l.getD i 0 = x at hx hx1 hn
      have hsz := beB_size 4 (x : Int)
      have HN : Hid _ := hn
      clear hgen hn
      go_wp2_with fail
      refine (Wp.putRefAny _ _ _ ?_ ?_).mono ?_
      · omega
      · omega
      rintro e w1 ⟨rfl, b1⟩
      rw [e4]
      go_wp2
      go_roundw
      case rel => exact ⟨i + 1, by omega, by go_num, by rw [HN.out], (b1.block _ (Array.getElem?_eq_some_iff.1 HG.out).1).trans HG.out, hbel.trans (b1.mono hbel.size)⟩
      case measure => simp [intOf] <;> omega
    · have h8 : i = 8 := by omega
      subst h8
      go_wp2
      go_ret
      exact ⟨rfl, hbel⟩

end Go.Proofs.YtkelipedpjmmaaaDoor.Wh
