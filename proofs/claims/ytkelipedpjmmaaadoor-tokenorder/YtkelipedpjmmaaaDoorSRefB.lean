/-
  The walk of the document's Block: it returns the state that 'blk' says, with the rounds' numbers that it is given, and nothing that was in memory has turned. Conditions: the state has eight words, the block 64 bytes, the numbers are 64 of 32 bits.
-/
import Derived.Test.YtkelipedpjmmaaaDoorRows
import Derived.Test.YtkelipedpjmmaaaDoorSRef
import Derived.Test.YtkelipedpjmmaaaDoorSBlk
import Derived.WalkKit
import Derived.ProofKit
import Derived.OpenShut
import Derived.Deep.RegionHeld3
import Derived.BigQuiet
namespace Go.Proofs.YtkelipedpjmmaaaDoor.Wh
open Go.ChangeShapes Go.WideShapes Go.ChangeAt Go.RowKit Go.Proofs.YtkelipedpjmmaaaDoor.M

/-- What lies where. -/
def JR (w : World) (ks s b ws : List Nat) (W : World) : Prop :=
  W.heap[w.heap.size]? = some (.cells (c32 ks) 74 (0, 0)) ∧ W.heap[w.heap.size + 1]? = some (.cells (c32 s) 93 (0, 0)) ∧ W.heap[w.heap.size + 1 + 1]? = some (.cells (c8 b) 113 (0, 0)) ∧
  W.heap[w.heap.size + 1 + 1 + 1]? = some (.cells (c32 (List.replicate 8 0)) 93 (0, 0)) ∧ W.heap[w.heap.size + 1 + 1 + 1 + 1]? = some (.cells (c32 ws) 74 (0, 0)) ∧ Below w.heap.size w W
theorem JR.drew {w W : World} {ks s b ws : List Nat} (h : JR w ks s b ws W) : JR w ks s b ws W.drew := ⟨h.1, h.2.1, h.2.2.1, h.2.2.2.1, h.2.2.2.2.1, h.2.2.2.2.2.drew⟩
theorem JR.drewN {w W : World} {ks s b ws : List Nat} (h : JR w ks s b ws W) (n : Nat) : JR w ks s b ws (W.drewN n) := ⟨h.1, h.2.1, h.2.2.1, h.2.2.2.1, h.2.2.2.2.1, h.2.2.2.2.2.trans ⟨rfl, rfl, rfl, Nat.le_refl _, fun _ _ => rfl⟩⟩
theorem JR.set {w W : World} {ks s b ws : List Nat} (h : JR w ks s b ws W) (i v : Nat) : JR w ks s b (ws.set i v) (W.setCell ⟨w.heap.size + 1 + 1 + 1 + 1, i, none⟩ (.int .u32 (v : Int))) := by
  obtain ⟨h1, h2, h3, h4, h5, h6⟩ := h
  have K : ∀ k, k ≠ w.heap.size + 1 + 1 + 1 + 1 → (W.setCell ⟨w.heap.size + 1 + 1 + 1 + 1, i, none⟩ (.int .u32 (v : Int))).heap[k]? = W.heap[k]? := fun k hk => heap_setCell_other W _ k _ hk
  refine ⟨(K _ (by omega)).trans h1, (K _ (by omega)).trans h2, (K _ (by omega)).trans h3, (K _ (by omega)).trans h4, ?_, h6.setCell (p := ⟨_, _, none⟩) (by simp; omega) _⟩
  rw [heap_setCell_same W _ i _ _ _ h5, c32_set]
theorem JR.word {w W : World} {ks s b ws : List Nat} (h : JR w ks s b ws W) (i : Nat) (hi : i < ws.length) : W.cell? ⟨w.heap.size + 1 + 1 + 1 + 1, i, none⟩ = some (.int .u32 ((ws.getD i 0 : Nat) : Int)) :=
  (cell_of_row W _ i _ _ _ h.2.2.2.2.1).trans (c32_get ws i hi)
theorem JR.free {w W : World} {ks s b ws : List Nat} (h : JR w ks s b ws W) (i : Nat) : W.frozen? ⟨w.heap.size + 1 + 1 + 1 + 1, i, none⟩ = false := frozen_of_row W _ i _ _ h.2.2.2.2.1
theorem JR.byte {w W : World} {ks s b ws : List Nat} (h : JR w ks s b ws W) (i : Nat) (hi : i < b.length) : W.cell? ⟨w.heap.size + 1 + 1, i, none⟩ = some (.int .u8 ((b.getD i 0 : Nat) : Int)) :=
  (cell_of_row W _ i _ _ _ h.2.2.1).trans (c8_get b i hi)
theorem JR.num {w W : World} {ks s b ws : List Nat} (h : JR w ks s b ws W) (i : Nat) (hi : i < ks.length) : W.cell? ⟨w.heap.size, i, none⟩ = some (.int .u32 ((ks.getD i 0 : Nat) : Int)) :=
  (cell_of_row W _ i _ _ _ h.1).trans (c32_get ks i hi)
theorem JR.old {w W : World} {ks s b ws : List Nat} (h : JR w ks s b ws W) (i : Nat) (hi : i < s.length) : W.cell? ⟨w.heap.size + 1, i, none⟩ = some (.int .u32 ((s.getD i 0 : Nat) : Int)) :=
  (cell_of_row W _ i _ _ _ h.2.1).trans (c32_get s i hi)

/-- The words with i bytes of the t-th. -/
def schI (b : List Nat) (t i : Nat) : List Nat := (sch b t).set t (wdk b t i)
theorem sch_zero (b : List Nat) : ∀ t j, t ≤ j → (sch b t).getD j 0 = 0
  | 0, j, _ => by
    simp only [sch, List.getD, List.getElem?_replicate]
    split <;> rfl
  | t + 1, j, h => by
    show ((sch b t).set t _).getD j 0 = 0
    by_cases hl : t < (sch b t).length
    · rw [getD_set _ _ _ _ hl, if_neg (by omega)]
      exact sch_zero b t j (by omega)
    · rw [List.set_eq_of_length_le (by omega)]
      exact sch_zero b t j (by omega)
theorem schI_zero (b : List Nat) (t : Nat) (ht : t < 64) : schI b t 0 = sch b t := by
  unfold schI
  have h : (sch b t).getD t 0 = 0 := sch_zero b t t (Nat.le_refl _)
  have hl : t < (sch b t).length := by rw [sch_len]; exact ht
  have e : (sch b t)[t]'hl = 0 := by simpa [List.getD, hl] using h
  show (sch b t).set t 0 = sch b t
  rw [← e]
  exact List.set_getElem_self hl
theorem schI_four (b : List Nat) (t : Nat) (ht : t < 16) : schI b t 4 = sch b (t + 1) := by
  simp [schI, sch, wS, ht]
theorem schI_next (b : List Nat) (t i : Nat) : (schI b t i).set t (wdk b t (i + 1)) = schI b t (i + 1) := by
  simp [schI, List.set_set]
theorem schI_len (b : List Nat) (t i : Nat) : (schI b t i).length = 64 := by simp [schI, sch_len]
theorem schI_get (b : List Nat) (t i : Nat) (ht : t < 64) : (schI b t i).getD t 0 = wdk b t i := by
  unfold schI
  rw [getD_set _ _ _ _ (by rw [sch_len]; exact ht)]
  simp

/-- .. and the words under way. -/
def JV (w : World) (g : Nat) (ks s b ws v : List Nat) (W : World) : Prop := JR w ks s b ws W ∧ W.heap[g]? = some (.cells (c32 v) 93 (0, 0))
theorem JV.drewN {w W : World} {g : Nat} {ks s b ws v : List Nat} (h : JV w g ks s b ws v W) (n : Nat) : JV w g ks s b ws v (W.drewN n) := ⟨h.1.drewN n, h.2⟩
theorem JV.drew {w W : World} {g : Nat} {ks s b ws v : List Nat} (h : JV w g ks s b ws v W) : JV w g ks s b ws v W.drew := ⟨h.1.drew, h.2⟩
theorem JV.set {w W : World} {g : Nat} {ks s b ws v : List Nat} (h : JV w g ks s b ws v W) (hg : w.heap.size + 1 + 1 + 1 + 1 < g) (i x : Nat) : JV w g ks s b ws (v.set i x) (W.setCell ⟨g, i, none⟩ (.int .u32 (x : Int))) := by
  obtain ⟨⟨h1, h2, h3, h4, h5, h6⟩, h7⟩ := h
  have K : ∀ k, k ≠ g → (W.setCell ⟨g, i, none⟩ (.int .u32 (x : Int))).heap[k]? = W.heap[k]? := fun k hk => heap_setCell_other W _ k _ hk
  refine ⟨⟨(K _ (by omega)).trans h1, (K _ (by omega)).trans h2, (K _ (by omega)).trans h3, (K _ (by omega)).trans h4, (K _ (by omega)).trans h5, h6.setCell (p := ⟨_, _, none⟩) (by simp; omega) _⟩, ?_⟩
  rw [heap_setCell_same W _ i _ _ _ h7, c32_set]
theorem JV.word {w W : World} {g : Nat} {ks s b ws v : List Nat} (h : JV w g ks s b ws v W) (i : Nat) (hi : i < v.length) : W.cell? ⟨g, i, none⟩ = some (.int .u32 ((v.getD i 0 : Nat) : Int)) :=
  (cell_of_row W _ i _ _ _ h.2).trans (c32_get v i hi)
theorem JV.free {w W : World} {g : Nat} {ks s b ws v : List Nat} (h : JV w g ks s b ws v W) (i : Nat) : W.frozen? ⟨g, i, none⟩ = false := frozen_of_row W _ i _ _ h.2
theorem JV.cells {w W : World} {p : Nat} {ks s q ws : List Nat} {a b c d e f g h : Nat} (k : JV w p ks s q ws [a, b, c, d, e, f, g, h] W) :
    W.cell? ⟨p, 0, none⟩ = some (.int .u32 (a : Int)) ∧ W.cell? ⟨p, 1, none⟩ = some (.int .u32 (b : Int)) ∧ W.cell? ⟨p, 2, none⟩ = some (.int .u32 (c : Int)) ∧ W.cell? ⟨p, 3, none⟩ = some (.int .u32 (d : Int)) ∧
    W.cell? ⟨p, 4, none⟩ = some (.int .u32 (e : Int)) ∧ W.cell? ⟨p, 5, none⟩ = some (.int .u32 (f : Int)) ∧ W.cell? ⟨p, 6, none⟩ = some (.int .u32 (g : Int)) ∧ W.cell? ⟨p, 7, none⟩ = some (.int .u32 (h : Int)) :=
  ⟨k.word 0 (by simp), k.word 1 (by simp), k.word 2 (by simp), k.word 3 (by simp), k.word 4 (by simp), k.word 5 (by simp), k.word 6 (by simp), k.word 7 (by simp)⟩
/-- The words, moved on by one place each, from the last on: j of them. -/
def shf (v : List Nat) : Nat → List Nat
  | 0 => v
  | j + 1 => (shf v j).set (7 - j) ((shf v j).getD (6 - j) 0)
theorem shf_len (v : List Nat) : ∀ j, (shf v j).length = v.length
  | 0 => rfl
  | j + 1 => by simp [shf, shf_len v j]
theorem sub_u32 (x : Nat) (h : x < 4294967296) : IntKind.u32.wrap (4294967295 - (x : Int)) = ((4294967295 - x : Nat) : Int) := by
  rw [IntKind.wrap_u32']
  omega

set_option maxRecDepth 100000 in
set_option maxHeartbeats 4000000 in
theorem blockRef (ks s b : List Nat) (w : World) (hk : ks.length = 64) (hs : s.length = 8) (hW : W32 s) (hl : b.length = 64) (hb : ∀ i, b.getD i 0 < 256) :
    Calls Tryd.prog 66 #[.agg (c32 ks), .agg (c32 s), .agg (c8 b)] w fun e w' => e = .returned (.agg (c32 (blk ks s b))) ∧ Below w.heap.size w w' := by
  have HK : Hid (ks.length = 64) := hk
  have HS : Hid (s.length = 8) := hs
  have HW : Hid (W32 s) := hW
  have HL : Hid (b.length = 64) := hl
  have HB : Hid (∀ i, b.getD i 0 < 256) := hb
  clear hk hs hW hl hb
  go_enter Tryd.func66, Tryd.ntmps66
  go_wp2
  go_loopw [8] (fun tv wr => ∃ t : Nat, t ≤ 16 ∧ tv = .int .i64 (t : Int) ∧ JR w ks s b (sch b t) wr) (fun t _ => 16 - (intOf t).toNat)
  case atStart =>
    refine ⟨0, by decide, rfl, ?_, ?_, ?_, ?_, ?_, (((((Below.refl _ _).alloc (Nat.le_refl _) _).alloc (by simp) _).alloc (by simp; omega) _).alloc (by simp; omega) _).alloc (by simp; omega) _⟩
    · rw [heap_alloc_old _ _ (by simp <;> omega), heap_alloc_old _ _ (by simp <;> omega), heap_alloc_old _ _ (by simp <;> omega), heap_alloc_old _ _ (by simp)]
      exact heap_alloc_new w _
    · rw [heap_alloc_old _ _ (by simp <;> omega), heap_alloc_old _ _ (by simp <;> omega), heap_alloc_old _ _ (by simp)]
      exact heap_alloc2_new w _ _
    · rw [heap_alloc_old _ _ (by simp <;> omega), heap_alloc_old _ _ (by simp)]
      have := heap_alloc_new ((w.alloc (.cells (c32 ks) 74)).alloc (.cells (c32 s) 93))
      simpa using this (.cells (c8 b) 113)
    · rw [heap_alloc_old _ _ (by simp), zeros8]
      have := heap_alloc_new (((w.alloc (.cells (c32 ks) 74)).alloc (.cells (c32 s) 93)).alloc (.cells (c8 b) 113))
      simpa using this _
    · show _ = some (Obj.cells (c32 (List.replicate 64 0)) _ _)
      rw [zeros64]
      have := heap_alloc_new ((((w.alloc (.cells (c32 ks) 74)).alloc (.cells (c32 s) 93)).alloc (.cells (c8 b) 113)).alloc (.cells #[.int .u32 0, .int .u32 0, .int .u32 0, .int .u32 0, .int .u32 0, .int .u32 0, .int .u32 0, .int .u32 0] 93))
      simpa using this _
  case round =>
    obtain ⟨t, ht, rfl, hj⟩ := hrel
    by_cases ht16 : t < 16
    · have htI : (t : Int) < 16 := by omega
      have HJ : Hid (JR w ks s b (schI b t 0) wr) := by
        show JR w ks s b (schI b t 0) wr
        rw [schI_zero b t (by omega)]
        exact hj
      clear hj
      go_wp2
      go_loopw [9] (fun iv wq => ∃ i : Nat, i ≤ 4 ∧ iv = .int .i64 (i : Int) ∧ JR w ks s b (schI b t i) wq) (fun i _ => 4 - (intOf i).toNat)
      case atStart => exact ⟨0, by decide, rfl, HJ.out⟩
      case round =>
        obtain ⟨i, hi, rfl, hj⟩ := hrel
        by_cases hi4 : i < 4
        · have kb := hj.byte (4 * t + i) (by rw [HL.out]; omega)
          have kw := hj.word t (by rw [schI_len]; omega)
          have kf := hj.free t
          rw [schI_get b t i (by omega)] at kw
          have hB := HB.out (4 * t + i)
          have hn : wdk b t (i + 1) = (wdk b t i * 256 + b.getD (4 * t + i) 0) % 4294967296 := rfl
          have hz := schI_next b t i
          rw [hn] at hz
          obtain ⟨q, hq⟩ : ∃ q : Nat, q = 4 * t := ⟨_, rfl⟩
          obtain ⟨r, hr⟩ : ∃ r : Nat, r = 4 * t + i := ⟨_, rfl⟩
          rw [← hr] at kb hB hz
          have hr' : r = q + i := by omega
          have wq : IntKind.i64.wrap (4 * (t : Int)) = (q : Int) := by rw [IntKind.wrap_i64]; omega
          have wr_ : IntKind.i64.wrap ((q : Int) + (i : Int)) = (r : Int) := by rw [IntKind.wrap_i64]; omega
          generalize b.getD r 0 = B at kb hB hz
          generalize wdk b t i = X at kw hz
          obtain ⟨Y, hY⟩ : ∃ Y : Nat, X * 256 % 4294967296 = Y := ⟨_, rfl⟩
          obtain ⟨Z, hZ⟩ : ∃ Z : Nat, (X * 256 + B) % 4294967296 = Z := ⟨_, rfl⟩
          rw [hZ] at hz
          have q1 : IntKind.u32.wrap ((X : Int) * 256) = (Y : Int) := by rw [IntKind.wrap_u32']; omega
          have q2 : IntKind.u32.wrap ((Y : Int) + (B : Int)) = (Z : Int) := by rw [IntKind.wrap_u32']; omega
          have r0 : (0 : Int) ≤ (r : Int) := by omega
          have r1 : (r : Int) < 64 := by omega
          have t0 : (0 : Int) ≤ (t : Int) := by omega
          have t1 : (t : Int) < 64 := by omega
          have HZ : Hid _ := hz
          have HI : Hid (i < 4) := hi4
          have HR : Hid (t < 16) := ht16
          clear hn hY hZ hz hr hr' hq
          go_wp2
          go_region
          go_wp2
          go_roundw
          case rel => exact ⟨i + 1, by have := HI.out; omega, by go_num, by rw [← HZ.out]; exact (hj.set t Z).drew⟩
          case measure => simp [intOf] <;> (have := HI.out; omega)
        · have h4 : i = 4 := by omega
          subst h4
          have HJ4 : Hid (JR w ks s b (sch b (t + 1)) wr) := by
            show JR w ks s b (sch b (t + 1)) wr
            rw [← schI_four b t ht16]
            exact hj
          clear hj HJ
          go_wp2
          go_roundw
          case rel => exact ⟨t + 1, by omega, by go_num, HJ4.out⟩
          case measure => simp [intOf] <;> omega
    · have h16 : t = 16 := by omega
      have e16 : (t : Int) = 16 := by omega
      have HJ : Hid (JR w ks s b (sch b 16) wr) := h16 ▸ hj
      rw [e16]
      clear hj h16 e16 ht16 ht
      go_wp2
      go_loopw [10] (fun tv wr => ∃ t : Nat, 16 ≤ t ∧ t ≤ 64 ∧ tv = .int .i64 (t : Int) ∧ JR w ks s b (sch b t) wr) (fun t _ => 64 - (intOf t).toNat)
      case atStart => exact ⟨16, Nat.le_refl _, by decide, rfl, HJ.out⟩
      case round =>
        clear HJ
        obtain ⟨t, ht16, ht, rfl, hj⟩ := hrel
        by_cases ht64 : t < 64
        · obtain ⟨a, ha⟩ : ∃ a : Nat, (t : Int) - 2 = (a : Int) := ⟨t - 2, by omega⟩
          obtain ⟨c, hc7⟩ : ∃ c : Nat, (t : Int) - 7 = (c : Int) := ⟨t - 7, by omega⟩
          obtain ⟨d, hd⟩ : ∃ d : Nat, (t : Int) - 15 = (d : Int) := ⟨t - 15, by omega⟩
          obtain ⟨f, hf16⟩ : ∃ f : Nat, (t : Int) - 16 = (f : Int) := ⟨t - 16, by omega⟩
          have ka := hj.word a (by rw [sch_len]; omega)
          have kc := hj.word c (by rw [sch_len]; omega)
          have kd := hj.word d (by rw [sch_len]; omega)
          have kf := hj.word f (by rw [sch_len]; omega)
          have kt := hj.word t (by rw [sch_len]; omega)
          have kz := hj.free t
          have la := sch_W b t a
          have ld := sch_W b t d
          have hs1 : sch b (t + 1) = (sch b t).set t (ad (ad (ad (sg1 ((sch b t).getD a 0)) ((sch b t).getD c 0)) (sg0 ((sch b t).getD d 0))) ((sch b t).getD f 0)) := by
            simp only [sch, wS, nx]
            rw [if_neg (by omega), show t - 2 = a by omega, show t - 7 = c by omega, show t - 15 = d by omega, show t - 16 = f by omega]
          generalize (sch b t).getD a 0 = x2 at ka la hs1
          generalize (sch b t).getD c 0 = x7 at kc hs1
          generalize (sch b t).getD d 0 = x15 at kd ld hs1
          generalize (sch b t).getD f 0 = x16 at kf hs1
          have es1 : sg1 x2 = rr x2 17 ^^^ rr x2 19 ^^^ x2 / 2 ^ 10 := rfl
          have es0 : sg0 x15 = rr x15 7 ^^^ rr x15 18 ^^^ x15 / 2 ^ 3 := rfl
          have C1 : Hid _ := fun w => rightRef x15 7 w ld (by decide) (by decide)
          have C2 : Hid _ := fun w => rightRef x15 18 w ld (by decide) (by decide)
          have C3 : Hid _ := fun w => shiftRef x15 3 w ld (by decide)
          have C4 : Hid _ := fun w => rightRef x2 17 w la (by decide) (by decide)
          have C5 : Hid _ := fun w => rightRef x2 19 w la (by decide) (by decide)
          have C6 : Hid _ := fun w => shiftRef x2 10 w la (by decide)
          have b1 := rr_lt ld 7 (by decide) (by decide)
          have b2 := rr_lt ld 18 (by decide) (by decide)
          have b3 : x15 / 2 ^ 3 < 4294967296 := Nat.lt_of_le_of_lt (Nat.div_le_self _ _) ld
          have b4 := rr_lt la 17 (by decide) (by decide)
          have b5 := rr_lt la 19 (by decide) (by decide)
          have b6 : x2 / 2 ^ 10 < 4294967296 := Nat.lt_of_le_of_lt (Nat.div_le_self _ _) la
          generalize rr x15 7 = p1 at C1 b1 es0
          generalize rr x15 18 = p2 at C2 b2 es0
          generalize x15 / 2 ^ 3 = p3 at C3 b3 es0
          generalize rr x2 17 = p4 at C4 b4 es1
          generalize rr x2 19 = p5 at C5 b5 es1
          generalize x2 / 2 ^ 10 = p6 at C6 b6 es1
          have X1 := u32_xor_nat p4 p5 b4 b5
          have X2 := u32_xor_nat (p4 ^^^ p5) p6 (xor_lt b4 b5) b6
          have X3 := u32_xor_nat p1 p2 b1 b2
          have X4 := u32_xor_nat (p1 ^^^ p2) p3 (xor_lt b1 b2) b3
          rw [← es1] at X2
          rw [← es0] at X4
          generalize sg1 x2 = y2 at X2 hs1
          generalize sg0 x15 = y15 at X4 hs1
          generalize p4 ^^^ p5 = P45 at X1 X2
          generalize p1 ^^^ p2 = P12 at X3 X4
          have q1 := wrap_ad y2 x7
          have q2 := wrap_ad (ad y2 x7) y15
          have q3 := wrap_ad (ad (ad y2 x7) y15) x16
          generalize ad y2 x7 = z1 at q1 q2 q3 hs1
          generalize ad z1 y15 = z2 at q2 q3 hs1
          generalize ad z2 x16 = z3 at q3 hs1
          have HS1 : Hid _ := hs1
          have ba : (a : Int) < 64 := by omega
          have bc : (c : Int) < 64 := by omega
          have bd : (d : Int) < 64 := by omega
          have bf : (f : Int) < 64 := by omega
          have wa : IntKind.i64.wrap ((t : Int) - 2) = (a : Int) := by rw [IntKind.wrap_i64]; omega
          have wc : IntKind.i64.wrap ((t : Int) - 7) = (c : Int) := by rw [IntKind.wrap_i64]; omega
          have wd : IntKind.i64.wrap ((t : Int) - 15) = (d : Int) := by rw [IntKind.wrap_i64]; omega
          have wf : IntKind.i64.wrap ((t : Int) - 16) = (f : Int) := by rw [IntKind.wrap_i64]; omega
          have na : (0 : Int) ≤ (a : Int) := by omega
          have nc : (0 : Int) ≤ (c : Int) := by omega
          have nd : (0 : Int) ≤ (d : Int) := by omega
          have nf : (0 : Int) ≤ (f : Int) := by omega
          have ec : ¬ c = t := by omega
          have ef : ¬ f = t := by omega
          have nt : (0 : Int) ≤ (t : Int) := by omega
          have bt : (t : Int) < 64 := by omega
          clear hs1 la ld ha hc7 hd hf16 es1 es0 b1 b2 b3 b4 b5 b6
          go_wp2_with fail
          refine (C1.out _).mono ?_
          rintro e w1 ⟨rfl, n1, rfl⟩
          go_wp2_with fail
          refine (C2.out _).mono ?_
          rintro e w1 ⟨rfl, n2, rfl⟩
          go_wp2_with fail
          refine (C3.out _).mono ?_
          rintro e w1 ⟨rfl, rfl⟩
          go_wp2_with fail
          refine (C4.out _).mono ?_
          rintro e w1 ⟨rfl, n4, rfl⟩
          go_wp2_with fail
          refine (C5.out _).mono ?_
          rintro e w1 ⟨rfl, n5, rfl⟩
          go_wp2_with fail
          refine (C6.out _).mono ?_
          rintro e w1 ⟨rfl, rfl⟩
          go_wp2
          have hj1 := hj.drewN (n1 + n2 + n4 + n5)
          have kc1 : (wr.drewN (n1 + n2 + n4 + n5)).cell? ⟨w.heap.size + 1 + 1 + 1 + 1, c, none⟩ = some (.int .u32 (x7 : Int)) := kc
          have kf1 : (wr.drewN (n1 + n2 + n4 + n5)).cell? ⟨w.heap.size + 1 + 1 + 1 + 1, f, none⟩ = some (.int .u32 (x16 : Int)) := kf
          have kt1 : (wr.drewN (n1 + n2 + n4 + n5)).cell? ⟨w.heap.size + 1 + 1 + 1 + 1, t, none⟩ = some (.int .u32 (((sch b t).getD t 0 : Nat) : Int)) := kt
          have kz1 : (wr.drewN (n1 + n2 + n4 + n5)).frozen? ⟨w.heap.size + 1 + 1 + 1 + 1, t, none⟩ = false := kz
          generalize wr.drewN (n1 + n2 + n4 + n5) = W at hj1 kc1 kf1 kt1 kz1 ⊢
          clear ka kc kd kf kt kz hj C1 C2 C3 C4 C5 C6 wa wd na nd ba bd
          go_region_held3 (fun w' => w'.cell? ⟨w.heap.size + 1 + 1 + 1 + 1, c, none⟩ = some (.int .u32 (x7 : Int)) ∧ w'.cell? ⟨w.heap.size + 1 + 1 + 1 + 1, f, none⟩ = some (.int .u32 (x16 : Int))) (first | exact ⟨keep_cell ec kc1, keep_cell ef kf1⟩ | go_keep) (fail)
          go_wp2
          go_roundw
          case rel => exact ⟨t + 1, by omega, by omega, by go_num, by rw [HS1.out]; exact (hj1.set t z3).drew⟩
          case measure => simp [intOf] <;> omega
        · have h64 : t = 64 := by omega
          have e64 : (t : Int) = 64 := by omega
          have HJ : Hid (JR w ks s b (sch b 64) wr) := h64 ▸ hj
          rw [e64]
          clear hj h64 e64 ht64 ht ht16
          have hJ1 : Hid (wr.heap[w.heap.size + 1]? = some (.cells (c32 s) 93 (0, 0))) := HJ.out.2.1
          have i3 : Hid ((Tryd.prog.info? 93).map (·.size) = some (c32 s).size) := by rw [c32_size, HS.out]; exact info8a
          go_wp2_with (first
            | (refine wpList_load_row rfl 93 _ rfl (w.heap.size + 1) rfl 93 (c32 s) (0, 0) _ hJ1.out Tryd.underlying93 rfl i3.out ?_)
            | (refine store_new rfl 93 _ _ rfl wr.heap.size rfl (c32 s) rfl rfl _ i3.out (by rw [c32_size, HS.out]; rfl) (c32_one _) ?_))
          obtain ⟨g, hg⟩ : ∃ g, g = wr.heap.size := ⟨_, rfl⟩
          have hgl : w.heap.size + 1 + 1 + 1 + 1 < g := by
            rw [hg]
            exact (Array.getElem?_eq_some_iff.1 HJ.out.2.2.2.2.1).1
          have HV : Hid (JV w g ks s b (sch b 64) (rds ks (sch b 64) s 0) (wr.alloc (.cells (c32 s) 93))) := by
            obtain ⟨h1, h2, h3, h4, h5, h6⟩ := HJ.out
            have K : ∀ {k : Nat} {o : Obj}, wr.heap[k]? = some o → (wr.alloc (.cells (c32 s) 93)).heap[k]? = some o := fun hk => (heap_alloc_old _ _ (Array.getElem?_eq_some_iff.1 hk).1).trans hk
            refine ⟨⟨K h1, K h2, K h3, K h4, K h5, h6.alloc h6.size _⟩, ?_⟩
            rw [hg]
            exact heap_alloc_new wr _
          rw [← hg]
          clear HJ hJ1 hg
          go_loopw [18] (fun tv wr => ∃ t : Nat, t ≤ 64 ∧ tv = .int .i64 (t : Int) ∧ JV w g ks s b (sch b 64) (rds ks (sch b 64) s t) wr) (fun t _ => 64 - (intOf t).toNat)
          case atStart => exact ⟨0, by decide, rfl, HV.out⟩
          case round =>
            clear HV
            obtain ⟨t, ht, rfl, hj⟩ := hrel
            by_cases ht64 : t < 64
            · have hlen := rds_len ks (sch b 64) s HS.out t
              have hWr := rds_W ks (sch b 64) s HS.out HW.out t
              have hnext : rds ks (sch b 64) s (t + 1) = rnd (rds ks (sch b 64) s t) (ks.getD t 0) ((sch b 64).getD t 0) := rfl
              have kk := hj.1.num t (by rw [HK.out]; exact ht64)
              have kw := hj.1.word t (by rw [sch_len]; exact ht64)
              obtain ⟨x0, x1, x2, x3, x4, x5, x6, x7, hst⟩ := eight hlen
              rw [hst] at hj hWr hnext
              obtain ⟨l0, l1, l2, l3, l4, l5, l6, l7⟩ := W32_eight.1 hWr
              clear hst hlen hWr
              generalize ks.getD t 0 = k at kk hnext
              generalize (sch b 64).getD t 0 = v at kw hnext
              have es1 : bs1 x4 = rr x4 6 ^^^ rr x4 11 ^^^ rr x4 25 := rfl
              have es0 : bs0 x0 = rr x0 2 ^^^ rr x0 13 ^^^ rr x0 22 := rfl
              have C1 : Hid _ := fun w => rightRef x4 6 w l4 (by decide) (by decide)
              have C2 : Hid _ := fun w => rightRef x4 11 w l4 (by decide) (by decide)
              have C3 : Hid _ := fun w => rightRef x4 25 w l4 (by decide) (by decide)
              have C4 : Hid _ := fun w => rightRef x0 2 w l0 (by decide) (by decide)
              have C5 : Hid _ := fun w => rightRef x0 13 w l0 (by decide) (by decide)
              have C6 : Hid _ := fun w => rightRef x0 22 w l0 (by decide) (by decide)
              have b1 := rr_lt l4 6 (by decide) (by decide)
              have b2 := rr_lt l4 11 (by decide) (by decide)
              have b3 := rr_lt l4 25 (by decide) (by decide)
              have b4 := rr_lt l0 2 (by decide) (by decide)
              have b5 := rr_lt l0 13 (by decide) (by decide)
              have b6 := rr_lt l0 22 (by decide) (by decide)
              generalize rr x4 6 = p1 at C1 b1 es1
              generalize rr x4 11 = p2 at C2 b2 es1
              generalize rr x4 25 = p3 at C3 b3 es1
              generalize rr x0 2 = p4 at C4 b4 es0
              generalize rr x0 13 = p5 at C5 b5 es0
              generalize rr x0 22 = p6 at C6 b6 es0
              have X1 := u32_xor_nat p1 p2 b1 b2
              have X2 := u32_xor_nat (p1 ^^^ p2) p3 (xor_lt b1 b2) b3
              have X3 := u32_xor_nat p4 p5 b4 b5
              have X4 := u32_xor_nat (p4 ^^^ p5) p6 (xor_lt b4 b5) b6
              rw [← es1] at X2
              rw [← es0] at X4
              generalize p1 ^^^ p2 = P12 at X1 X2
              generalize p4 ^^^ p5 = P45 at X3 X4
              clear es1 es0 b1 b2 b3 b4 b5 b6
              have N1 := sub_u32 x4 l4
              have N2 : (4294967295 - x4 : Nat) < 4294967296 := by omega
              have A1 := u32_and_nat x4 x5 l4 l5
              have A2 := u32_and_nat (4294967295 - x4) x6 N2 l6
              have A3 := u32_xor_nat (x4 &&& x5) ((4294967295 - x4) &&& x6) (and_lt l5) (and_lt l6)
              have ec : chs x4 x5 x6 = (x4 &&& x5) ^^^ ((4294967295 - x4) &&& x6) := rfl
              rw [← ec] at A3
              clear ec N2
              generalize x4 &&& x5 = A at A1 A3
              generalize (4294967295 - x4) &&& x6 = B at A2 A3
              generalize (4294967295 - x4 : Nat) = N at N1 A2
              have M1 := u32_and_nat x0 x1 l0 l1
              have M2 := u32_and_nat x0 x2 l0 l2
              have M3 := u32_and_nat x1 x2 l1 l2
              have M4 := u32_xor_nat (x0 &&& x1) (x0 &&& x2) (and_lt l1) (and_lt l2)
              have M5 := u32_xor_nat ((x0 &&& x1) ^^^ (x0 &&& x2)) (x1 &&& x2) (xor_lt (and_lt l1) (and_lt l2)) (and_lt l2)
              have em : maj x0 x1 x2 = (x0 &&& x1) ^^^ (x0 &&& x2) ^^^ (x1 &&& x2) := rfl
              rw [← em] at M5
              clear em
              generalize (x0 &&& x1) ^^^ (x0 &&& x2) = D at M4 M5
              generalize x0 &&& x1 = A' at M1 M4
              generalize x0 &&& x2 = B' at M2 M4
              generalize x1 &&& x2 = C' at M3 M5
              simp only [rnd] at hnext
              generalize bs1 x4 = S1 at X2 hnext
              generalize bs0 x0 = S0 at X4 hnext
              generalize chs x4 x5 x6 = CH at A3 hnext
              generalize maj x0 x1 x2 = MA at M5 hnext
              have q1 := wrap_ad x7 S1
              have q2 := wrap_ad (ad x7 S1) CH
              have q3 := wrap_ad (ad (ad x7 S1) CH) k
              have q4 := wrap_ad (ad (ad (ad x7 S1) CH) k) v
              have q5 := wrap_ad S0 MA
              have q6 := wrap_ad (ad (ad (ad (ad x7 S1) CH) k) v) (ad S0 MA)
              have q7 := wrap_ad x3 (ad (ad (ad (ad x7 S1) CH) k) v)
              generalize ad x7 S1 = t1 at q1 q2 q3 q4 q6 q7 hnext
              generalize ad t1 CH = t2 at q2 q3 q4 q6 q7 hnext
              generalize ad t2 k = t3 at q3 q4 q6 q7 hnext
              generalize ad t3 v = t4 at q4 q6 q7 hnext
              generalize ad S0 MA = u at q5 q6 hnext
              generalize ad t4 u = r at q6 hnext
              generalize ad x3 t4 = q at q7 hnext
              have HN : Hid _ := hnext
              have HJ : Hid _ := hj
              obtain ⟨k0, k1, k2, k3, k4, k5, k6, k7⟩ := hj.cells
              have nt : (0 : Int) ≤ (t : Int) := by omega
              have bt : (t : Int) < 64 := by omega
              clear hnext hj l0 l1 l2 l3 l4 l5 l6 l7
              go_wp2_with fail
              refine (C1.out _).mono ?_
              rintro e w1 ⟨rfl, n1, rfl⟩
              go_wp2_with fail
              refine (C2.out _).mono ?_
              rintro e w1 ⟨rfl, n2, rfl⟩
              go_wp2_with fail
              refine (C3.out _).mono ?_
              rintro e w1 ⟨rfl, n3, rfl⟩
              clear C1 C2 C3
              go_wp2
              go_quiet (fail)
              go_wp2_with fail
              refine (C4.out _).mono ?_
              rintro e w1 ⟨rfl, n4, rfl⟩
              go_wp2_with fail
              refine (C5.out _).mono ?_
              rintro e w1 ⟨rfl, n5, rfl⟩
              go_wp2_with fail
              refine (C6.out _).mono ?_
              rintro e w1 ⟨rfl, n6, rfl⟩
              go_wp2
              have HJ0 : Hid (JV w g ks s b (sch b 64) (shf [x0, x1, x2, x3, x4, x5, x6, x7] 0) (wr.drewN (n1 + n2 + n3 + nq + n4 + n5 + n6))) := JV.drewN HJ.out _
              clear HJ k0 k1 k2 k3 k4 k5 k6 k7 kk kw C4 C5 C6 X1 X2 X3 X4 N1 A1 A2 A3 M1 M2 M3 M4 M5 q1 q2 q3 q4 q5
              go_loopw [29] (fun iv wr => ∃ j : Nat, j ≤ 7 ∧ iv = .int .i64 ((7 - j : Nat) : Int) ∧ JV w g ks s b (sch b 64) (shf [x0, x1, x2, x3, x4, x5, x6, x7] j) wr) (fun i _ => (intOf i).toNat)
              case atStart => exact ⟨0, by decide, rfl, HJ0.out⟩
              case round =>
                clear HJ0
                obtain ⟨j, hj7, rfl, hj⟩ := hrel
                by_cases hlt : j < 7
                · have hsl := shf_len [x0, x1, x2, x3, x4, x5, x6, x7] j
                  have hsl8 : (shf [x0, x1, x2, x3, x4, x5, x6, x7] j).length = 8 := hsl
                  have hn : shf [x0, x1, x2, x3, x4, x5, x6, x7] (j + 1) = (shf [x0, x1, x2, x3, x4, x5, x6, x7] j).set (7 - j) ((shf [x0, x1, x2, x3, x4, x5, x6, x7] j).getD (6 - j) 0) := rfl
                  have ka := hj.word (6 - j) (by rw [hsl8]; omega)
                  have kb := hj.word (7 - j) (by rw [hsl8]; omega)
                  have kz := hj.free (7 - j)
                  obtain ⟨m, hm⟩ : ∃ m : Nat, m = 6 - j := ⟨_, rfl⟩
                  have hm7 : 7 - j = m + 1 := by omega
                  have hm7' : 7 - (j + 1) = m := by omega
                  rw [hm7] at kb kz hn ⊢
                  rw [← hm] at ka hn
                  generalize (shf [x0, x1, x2, x3, x4, x5, x6, x7] j).getD m 0 = y at ka hn
                  generalize (shf [x0, x1, x2, x3, x4, x5, x6, x7] j).getD (m + 1) 0 = z at kb
                  have HN2 : Hid _ := hn
                  have HM : Hid (m ≤ 6 ∧ j < 7 ∧ 7 - (j + 1) = m) := ⟨by omega, hlt, hm7'⟩
                  have hc1 : ((m + 1 : Nat) : Int) = (m : Int) + 1 := by omega
                  have hlm : (m : Int) < 7 := by omega
                  clear hn hsl hsl8 hm hm7 hm7' hlt hj7
                  go_wp2
                  go_roundw
                  case rel =>
                    refine ⟨j + 1, by have := HM.out; omega, ?_, ?_⟩
                    · rw [HM.out.2.2]
                    · rw [HN2.out]
                      exact hj.set hgl (m + 1) y
                  case measure => simp [intOf] <;> omega
                · have h7 : j = 7 := by omega
                  have e7 : ((7 - j : Nat) : Int) = 0 := by omega
                  have hj' : JV w g ks s b (sch b 64) [x0, x0, x1, x2, x3, x4, x5, x6] wr := by
                    rw [h7] at hj
                    exact hj
                  rw [e7]
                  have HJ' : Hid _ := hj'
                  obtain ⟨k0, k1, k2, k3, k4, k5, k6, k7⟩ := hj'.cells
                  have z4 := hj'.free 4
                  have z0 := hj'.free 0
                  clear h7 e7 hlt hj7 hj hj'
                  go_wp2
                  go_roundw
                  case rel =>
                    refine ⟨t + 1, by omega, by go_num, ?_⟩
                    rw [HN.out]
                    exact (JV.set HJ'.out hgl 4 q).set hgl 0 r
                  case measure => simp [intOf] <;> omega
            · have h64 : t = 64 := by omega
              have e64 : (t : Int) = 64 := by omega
              have hR8 := rds_len ks (sch b 64) s HS.out 64
              have hbk : blk ks s b = adl (rds ks (sch b 64) s 64) s 8 := rfl
              rw [h64] at hj
              generalize rds ks (sch b 64) s 64 = R at hj hR8 hbk
              have HJ : Hid (JV w g ks s b (sch b 64) (adl R s 0) wr) := hj
              have HBK : Hid _ := hbk
              have HR8 : Hid (R.length = 8) := hR8
              rw [e64]
              clear hbk hR8 hj h64 e64 ht64 ht
              go_wp2
              go_loopw [30] (fun iv wr => ∃ i : Nat, i ≤ 8 ∧ iv = .int .i64 (i : Int) ∧ JV w g ks s b (sch b 64) (adl R s i) wr) (fun i _ => 8 - (intOf i).toNat)
              case atStart => exact ⟨0, by decide, rfl, HJ.out⟩
              case round =>
                clear HJ
                obtain ⟨i, hi8, rfl, hj⟩ := hrel
                by_cases hi : i < 8
                · have ka := hj.word i (by rw [adl_len, HR8.out]; exact hi)
                  have kz := hj.free i
                  have ks_ := hj.1.old i (by rw [HS.out]; exact hi)
                  have hq := wrap_ad ((adl R s i).getD i 0) (s.getD i 0)
                  have hn : adl R s (i + 1) = (adl R s i).set i (ad ((adl R s i).getD i 0) (s.getD i 0)) := rfl
                  generalize ad ((adl R s i).getD i 0) (s.getD i 0) = z at hq hn
                  generalize (adl R s i).getD i 0 = x at hq ka
                  generalize s.getD i 0 = y at hq ks_
                  have HN : Hid _ := hn
                  have ni : (0 : Int) ≤ (i : Int) := by omega
                  have bi : (i : Int) < 8 := by omega
                  clear hn
                  go_wp2
                  go_region
                  all_goals (go_wp2; go_roundw; (exact ⟨i + 1, by omega, by go_num, by rw [HN.out]; exact (hj.set hgl i z).drew⟩); (simp [intOf] <;> omega))
                · have h8 : i = 8 := by omega
                  have e8 : (i : Int) = 8 := by omega
                  have hlenB := blk_len ks s b HS.out
                  rw [h8, ← HBK.out] at hj
                  obtain ⟨⟨_, _, _, h4, _, h6⟩, h7⟩ := hj
                  generalize hr : blk ks s b = r at h7 hlenB
                  have HRR : Hid (blk ks s b = r) := hr
                  have H4 : Hid _ := h4
                  have H7 : Hid (wr.heap[g]? = some (.cells (c32 r) 93 (0, 0))) := h7
                  have i4 : Hid ((Tryd.prog.info? 93).map (·.size) = some (c32 r).size) := by rw [c32_size, hlenB]; exact info8a
                  have hsz : Hid ((c32 (List.replicate 8 0)).size = (c32 r).size) := by rw [c32_size, c32_size, hlenB]; rfl
                  rw [e8]
                  clear h4 h7 HBK hr h8 e8 hi hi8
                  go_wp2_with (first
                    | (refine wpList_load_row rfl 93 _ rfl g rfl 93 (c32 r) (0, 0) _ H7.out Tryd.underlying93 rfl i4.out ?_)
                    | (refine wpList_store_row rfl 93 _ _ rfl (w.heap.size + 1 + 1 + 1) (c32 r) rfl rfl 93 _ H4.out i4.out hsz.out (c32_one _) ?_))
                  exact bodyPost_ret (v := .agg (c32 r)) (results_cell_row Tryd.results66 _ _ (w.heap.size + 1 + 1 + 1) 93 (c32 r) (0, 0) _ rfl (setRow_heap wr _ _ _ _ _ H4.out) Tryd.underlying93 rfl i4.out) rfl ⟨by rw [HRR.out], h6.trans (below_setRow (by omega))⟩

end Go.Proofs.YtkelipedpjmmaaaDoor.Wh
