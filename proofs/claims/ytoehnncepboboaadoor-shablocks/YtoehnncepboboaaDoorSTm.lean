/-
  The walks of the document's atMost and times: what they return is 'am' and 'tm'; nothing that was in memory has turned. Conditions: the numbers lie whole in blocks of their own, and fit 64 bits.
-/
import Derived.Test.YtoehnncepboboaaDoorRows
import Derived.Test.YtoehnncepboboaaDoorMathRt
import Derived.Test.YtoehnncepboboaaDoorSBlk
import Derived.WalkKit
import Derived.ProofKit
import Derived.OpenShut
import Derived.BigRegion
namespace Go.Proofs.YtoehnncepboboaaDoor.Wh
open Go.ChangeShapes Go.WideShapes Go.ChangeAt Go.RowKit Go.Proofs.YtoehnncepboboaaDoor.M

/-- A row of limbs: its cells. -/
def c64 (l : List Nat) : Array Value := (l.map fun n : Nat => Value.int .u64 (n : Int)).toArray
theorem c64_size (l : List Nat) : (c64 l).size = l.length := by simp [c64]
theorem c64_get (l : List Nat) (i : Nat) (h : i < l.length) : (c64 l)[i]? = some (.int .u64 ((l.getD i 0 : Nat) : Int)) := by simp [c64, h, List.getD]
theorem c64_set (l : List Nat) (i v : Nat) : (c64 l).setIfInBounds i (.int .u64 (v : Int)) = c64 (l.set i v) := by
  unfold c64
  rw [List.map_set]
  simp

set_option maxRecDepth 100000 in
theorem atMost (A B : List Nat) (ga gb t t' : Nat) (w : World) (hA : w.heap[ga]? = some (.cells (c64 A) t (0, 0))) (hB : w.heap[gb]? = some (.cells (c64 B) t' (0, 0))) :
    Calls Tryd.prog 38 #[.slice (some ⟨ga, 0, none⟩) A.length A.length, .slice (some ⟨gb, 0, none⟩) B.length B.length] w fun e w' => e = .returned (.bool (am A B 16)) ∧ w = w' := by
  have HA : Hid _ := hA
  have HB : Hid _ := hB
  have hF : Hid (am A B 16 = am A B 16) := rfl
  generalize hFF : am A B 16 = F
  have HF : Hid (am A B 16 = F) := hFF
  clear hA hB hF hFF
  go_enter Tryd.func38, Tryd.ntmps38
  go_wp2
  go_loop [5] (fun iv => ∃ i : Nat, i ≤ 16 ∧ iv = .int .i64 ((i : Int) - 1) ∧ am A B i = F) (fun i => (intOf i + 1).toNat)
  case atStart => exact ⟨16, Nat.le_refl _, rfl, HF.out⟩
  case round =>
    obtain ⟨i, hi, rfl, hf⟩ := hrel
    have HFF : Hid _ := hf
    clear hf HF
    by_cases h0 : 0 < i
    · obtain ⟨j, rfl⟩ : ∃ j, i = j + 1 := ⟨i - 1, by omega⟩
      have e1 : ((j + 1 : Nat) : Int) - 1 = (j : Int) := by omega
      have hf : (if A.getD j 0 = B.getD j 0 then am A B j else decide (A.getD j 0 < B.getD j 0)) = F := HFF.out
      rw [e1]
      have ca : j < A.length → w.cell? ⟨ga, j, none⟩ = some (.int .u64 ((A.getD j 0 : Nat) : Int)) := fun h => (cell_of_row w ga j _ _ _ HA.out).trans (c64_get A j h)
      have cb : j < B.length → w.cell? ⟨gb, j, none⟩ = some (.int .u64 ((B.getD j 0 : Nat) : Int)) := fun h => (cell_of_row w gb j _ _ _ HB.out).trans (c64_get B j h)
      have na : ¬ j < A.length → A.getD j 0 = 0 := fun h => by simp [List.getD, h]
      have nb : ¬ j < B.length → B.getD j 0 = 0 := fun h => by simp [List.getD, h]
      generalize A.getD j 0 = x at hf ca na
      generalize B.getD j 0 = y at hf cb nb
      clear e1 HFF
      have jA : ((j : Int) < (A.length : Int)) ↔ j < A.length := by omega
      have jB : ((j : Int) < (B.length : Int)) ↔ j < B.length := by omega
      by_cases ha : j < A.length
      · have ka := ca ha
        have ha' := jA.2 ha
        clear ca na jA
        by_cases hb : j < B.length
        · have kb := cb hb
          have hb' := jB.2 hb
          clear cb nb jB
          by_cases hxy : x = y
          · subst hxy
            rw [if_pos rfl] at hf
            have HF2 : Hid _ := hf
            clear hf
            go_wp2
            go_round
            case rel => exact ⟨j, by omega, rfl, HF2.out⟩
            case measure => simp [intOf] <;> omega
          · rw [if_neg hxy] at hf
            have hne : ¬ (x : Int) = (y : Int) := by omega
            have hd : decide ((x : Int) < (y : Int)) = F := by rw [← hf]; exact decide_eq_decide.2 (by omega)
            clear hf hxy
            go_wp2
            all_goals (go_ret; exact ⟨by simp_all, rfl⟩)
        · have y0 := nb hb
          have hb' : ¬ (j : Int) < (B.length : Int) := fun h => hb (jB.1 h)
          subst y0
          clear cb nb jB
          by_cases hxy : x = 0
          · subst hxy
            rw [if_pos rfl] at hf
            have HF2 : Hid _ := hf
            clear hf
            go_wp2
            go_round
            case rel => exact ⟨j, by omega, rfl, HF2.out⟩
            case measure => simp [intOf] <;> omega
          · rw [if_neg hxy] at hf
            have hne : ¬ (x : Int) = 0 := by omega
            have hd : decide ((x : Int) < 0) = F := by rw [← hf]; exact decide_eq_decide.2 (by omega)
            clear hf hxy
            go_wp2
            all_goals (go_ret; exact ⟨by simp_all, rfl⟩)
      · have x0 := na ha
        have ha' : ¬ (j : Int) < (A.length : Int) := fun h => ha (jA.1 h)
        subst x0
        clear ca na jA
        by_cases hb : j < B.length
        · have kb := cb hb
          have hb' := jB.2 hb
          clear cb nb jB
          by_cases hxy : 0 = y
          · subst hxy
            rw [if_pos rfl] at hf
            have HF2 : Hid _ := hf
            clear hf
            go_wp2
            go_round
            case rel => exact ⟨j, by omega, rfl, HF2.out⟩
            case measure => simp [intOf] <;> omega
          · rw [if_neg hxy] at hf
            have hne : ¬ 0 = (y : Int) := by omega
            have hd : decide (0 < (y : Int)) = F := by rw [← hf]; exact decide_eq_decide.2 (by omega)
            clear hf hxy
            go_wp2
            all_goals (go_ret; exact ⟨by simp_all, rfl⟩)
        · have y0 := nb hb
          have hb' : ¬ (j : Int) < (B.length : Int) := fun h => hb (jB.1 h)
          subst y0
          clear cb nb jB
          rw [if_pos rfl] at hf
          have HF2 : Hid _ := hf
          clear hf
          go_wp2
          go_round
          case rel => exact ⟨j, by omega, rfl, HF2.out⟩
          case measure => simp [intOf] <;> omega
    · have h00 : i = 0 := by omega
      subst h00
      have hf : true = F := HFF.out
      subst hf
      go_wp2
      go_ret
      exact ⟨rfl, rfl⟩

theorem made64 (k : Nat) : madeCells #[.int .u64 0] k = c64 (List.replicate k 0) := by
  apply Array.toList_inj.1
  apply List.ext_getElem
  · simp [madeCells, c64]
  · intro i h1 h2
    simp [madeCells, c64, Nat.mod_one]
theorem info64 : (Tryd.prog.info? 36).map (fun i => (i.zero, i.size, i.bytes)) = some (some (.int .u64 0), 1, 8) := by kernel_rfl
theorem wrap_mul64 (x y : Nat) : IntKind.u64.wrap ((x : Int) * (y : Int)) = ((x * y % m64 : Nat) : Int) := by
  rw [IntKind.wrap_u64, ← Int.natCast_mul]
  rfl
theorem wrap_add64 (x y : Nat) : IntKind.u64.wrap ((x : Int) + (y : Int)) = (((x + y) % m64 : Nat) : Int) := by
  rw [IntKind.wrap_u64, ← Int.natCast_add]
  rfl
theorem tmod_nat (x y : Nat) : (x : Int).tmod (y : Int) = ((x % y : Nat) : Int) := by
  rw [Int.tmod_eq_emod_of_nonneg (by omega)]
  rfl

/-- What lies where: the two numbers, and the product under way. -/
def JM (w : World) (o : List Nat) (L : Nat) (W : World) : Prop := W.heap[w.heap.size]? = some (.cells (c64 o) 36 (0, 0)) ∧ o.length = L ∧ Below w.heap.size w W
theorem JM.drew {w W : World} {o : List Nat} {L : Nat} (h : JM w o L W) : JM w o L W.drew := ⟨h.1, h.2.1, h.2.2.drew⟩
theorem JM.set {w W : World} {o : List Nat} {L : Nat} (h : JM w o L W) (i v : Nat) : JM w (o.set i v) L (W.setCell ⟨w.heap.size, i, none⟩ (.int .u64 (v : Int))) := by
  refine ⟨?_, by rw [List.length_set]; exact h.2.1, h.2.2.setCell (p := ⟨_, _, none⟩) (Nat.le_refl _) _⟩
  rw [heap_setCell_same W _ i _ _ _ h.1, c64_set]
theorem JM.limb {w W : World} {o : List Nat} {L : Nat} (h : JM w o L W) (i : Nat) (hi : i < L) : W.cell? ⟨w.heap.size, i, none⟩ = some (.int .u64 ((o.getD i 0 : Nat) : Int)) :=
  (cell_of_row W _ i _ _ _ h.1).trans (c64_get o i (by rw [h.2.1]; exact hi))
theorem JM.free {w W : World} {o : List Nat} {L : Nat} (h : JM w o L W) (i : Nat) : W.frozen? ⟨w.heap.size, i, none⟩ = false := frozen_of_row W _ i _ _ h.1

set_option maxRecDepth 100000 in
set_option maxHeartbeats 2000000 in
theorem timesAt (A B : List Nat) (ga gb t t' la lb L : Nat) (w : World) (hA : Hid (w.heap[ga]? = some (.cells (c64 A) t (0, 0)))) (hB : Hid (w.heap[gb]? = some (.cells (c64 B) t' (0, 0)))) (lA : Hid (A.length = la)) (lB : Hid (B.length = lb)) (hL : Hid (la + lb = L)) (h1 : 1 ≤ la) (h2 : la ≤ 50) (h3 : lb ≤ 50) :
    Calls Tryd.prog 37 #[.slice (some ⟨ga, 0, none⟩) la la, .slice (some ⟨gb, 0, none⟩) lb lb] w fun e w' => e = .returned (.slice (some ⟨w.heap.size, 0, none⟩) L L) ∧ w'.heap[w.heap.size]? = some (.cells (c64 (tm A B)) 36 (0, 0)) ∧ Below w.heap.size w w' := by
  obtain ⟨i0, hi, hz0, hz1, hz2⟩ := info_parts info64
  have hLL := hL.out
  have eL : (la : Int) + (lb : Int) = (L : Int) := by omega
  have hmk : ∀ u : World, (Instr.makeSlice 62 (.int .i64 (L : Int)) (.int .i64 (L : Int))).run Tryd.prog u =
      .ok (.slice (some ⟨u.heap.size, 0, none⟩) L L) (u.alloc (.cells (c64 (List.replicate L 0)) 36)) := fun u => by
    have h := run_make (P := Tryd.prog) u 62 36 i0 (.int .u64 0) Tryd.underlying62 hi hz0 .i64 .i64 (L : Int) (L : Int) (by omega) (Int.le_refl _) (by rw [hz2]; omega) (by omega)
    rw [← made64]
    simpa [hz1, Value.cells] using h
  have hL0 : (1 : Int) ≤ (L : Int) := by omega
  have hL1 : (L : Int) ≤ 100 := by omega
  clear hi hz0 hz1 hz2
  go_enter Tryd.func37, Tryd.ntmps37
  go_wp2
  clear hmk eL hLL
  go_loopw [6] (fun iv wr => ∃ (i : Nat) (o : List Nat), i ≤ la ∧ iv = .int .i64 (i : Int) ∧ JM w o L wr ∧ tmI A B (la - i) i o = tm A B) (fun i _ => la - (intOf i).toNat)
  case atStart =>
    refine ⟨0, List.replicate L 0, Nat.zero_le _, rfl, ⟨heap_alloc_new w _, by simp, (Below.refl _ _).alloc (Nat.le_refl _) _⟩, ?_⟩
    unfold tm
    rw [lA.out, lB.out, hL.out]
    rfl
  case round =>
    obtain ⟨i, o, hi, rfl, hj, ht⟩ := hrel
    by_cases hlt : i < la
    · have ht2 : tmI A B (la - (i + 1)) (i + 1) (tmK A B i lb 0 o) = tm A B := by
        rw [← ht, show la - i = (la - (i + 1)) + 1 by omega]
        show _ = tmI A B (la - (i + 1)) (i + 1) (tmK A B i B.length 0 o)
        rw [lB.out]
      have HT2 : Hid _ := ht2
      have HJ : Hid _ := hj
      have HI : Hid (i < la) := hlt
      have ka : ∀ W, Below w.heap.size w W → W.cell? ⟨ga, i, none⟩ = some (.int .u64 ((A.getD i 0 : Nat) : Int)) := fun W hb =>
        (hb.cell (p := ⟨ga, i, none⟩) (Array.getElem?_eq_some_iff.1 hA.out).1).trans ((cell_of_row w ga i _ _ _ hA.out).trans (c64_get A i (by rw [lA.out]; exact hlt)))
      have KA : Hid _ := ka
      have hltI : (i : Int) < (la : Int) := by omega
      clear ht ht2 hj ka
      go_wp2
      go_loopw [7] (fun kv wr => ∃ (k : Nat) (o1 : List Nat), k ≤ lb ∧ kv = .int .i64 (k : Int) ∧ JM w o1 L wr ∧ tmK A B i (lb - k) k o1 = tmK A B i lb 0 o) (fun k _ => lb - (intOf k).toNat)
      case atStart => exact ⟨0, o, Nat.zero_le _, rfl, HJ.out, rfl⟩
      case round =>
        clear HJ
        obtain ⟨k, o1, hk, rfl, hj, ht⟩ := hrel
        by_cases hklt : k < lb
        · have ht2 : tmK A B i (lb - (k + 1)) (k + 1) (tmS A B i k o1) = tmK A B i lb 0 o := by
            rw [← ht, show lb - k = (lb - (k + 1)) + 1 by omega]
            rfl
          have hts : tmS A B i k o1 = cy (L - 1 - (i + k)) (i + k) (o1.set (i + k) ((o1.getD (i + k) 0 + A.getD i 0 * B.getD k 0 % m64) % m64)) := by
            unfold tmS
            rw [lA.out, lB.out, hL.out]
          have hLL := hL.out
          have kA := KA.out wr hj.2.2
          have kB : wr.cell? ⟨gb, k, none⟩ = some (.int .u64 ((B.getD k 0 : Nat) : Int)) := (hj.2.2.cell (p := ⟨gb, k, none⟩) (Array.getElem?_eq_some_iff.1 hB.out).1).trans ((cell_of_row w gb k _ _ _ hB.out).trans (c64_get B k (by rw [lB.out]; exact hklt)))
          obtain ⟨s, hs⟩ : ∃ s : Nat, s = i + k := ⟨_, rfl⟩
          have kO := hj.limb s (by omega)
          have kz := hj.free s
          have ws : IntKind.i64.wrap ((i : Int) + (k : Int)) = (s : Int) := by rw [IntKind.wrap_i64]; omega
          have es : (i : Int) + (k : Int) = (s : Int) := by omega
          rw [← hs] at hts
          generalize A.getD i 0 = x at kA hts
          generalize B.getD k 0 = y at kB hts
          generalize o1.getD s 0 = z at kO hts
          have q1 := wrap_mul64 x y
          have q2 := wrap_add64 z (x * y % m64)
          generalize (z + x * y % m64) % m64 = v at q2 hts
          generalize x * y % m64 = u at q1 q2
          have HTS : Hid _ := hts
          have HT3 : Hid _ := ht2
          have HJ1 : Hid _ := hj
          have HS : Hid (s + 2 ≤ L ∧ s = i + k ∧ k < lb) := ⟨by omega, hs, hklt⟩
          have hkI : (k : Int) < (lb : Int) := by omega
          have s0 : (0 : Int) ≤ (s : Int) := by omega
          have s1 : (s : Int) < (L : Int) := by omega
          clear hts ht2 ht hs hj hLL hlt
          go_wp2
          go_region
          have HJ8 : Hid (JM w (o1.set s v) L ((wr.setCell ⟨w.heap.size, s, none⟩ (.int .u64 (v : Int))).drew)) := (JM.set HJ1.out s v).drew
          generalize tmS A B i k o1 = O2 at HTS HT3
          clear HJ1 kA kB kO kz q1 q2 ws
          go_wp2
          go_loopw [8] (fun jv wr => ∃ (j : Nat) (o3 : List Nat), j + 1 ≤ L ∧ jv = .int .i64 (j : Int) ∧ JM w o3 L wr ∧ cy (L - 1 - j) j o3 = O2) (fun j _ => L - (intOf j).toNat)
          case atStart => exact ⟨s, _, by have := HS.out; omega, rfl, HJ8.out, HTS.out.symm⟩
          case round =>
            clear HJ8 HTS
            obtain ⟨j, o3, hjL, rfl, hj, hc⟩ := hrel
            by_cases hjl : j + 1 < L
            · have kx := hj.limb j (by omega)
              have ky := hj.limb (j + 1) (by omega)
              have kz1 := hj.free (j + 1)
              have kz0 := hj.free j
              rw [show L - 1 - j = (L - 1 - (j + 1)) + 1 by omega] at hc
              have hc' : (if 65536 ≤ o3.getD j 0 then cy (L - 1 - (j + 1)) (j + 1) (cyS j o3) else o3) = O2 := hc
              have hcy : cyS j o3 = (o3.set (j + 1) ((o3.getD (j + 1) 0 + o3.getD j 0 / 65536) % m64)).set j (o3.getD j 0 % 65536) := by
                unfold cyS
                rw [getD_set _ _ _ _ (by rw [hj.2.1]; omega), if_neg (by omega)]
              generalize o3.getD j 0 = x at kx hc' hcy
              generalize o3.getD (j + 1) 0 = y at ky hcy
              have jI : (j : Int) < (L : Int) - 1 := by omega
              have j1I : (j : Int) + 1 < (L : Int) := by omega
              have j0I : (0 : Int) ≤ (j : Int) := by omega
              have jLI : (j : Int) < (L : Int) := by omega
              by_cases hx : 65536 ≤ x
              · rw [if_pos hx] at hc'
                have hxI : (65536 : Int) ≤ (x : Int) := by omega
                have d1 : IntKind.u64.wrap ((x : Int) / 65536) = ((x / 65536 % m64 : Nat) : Int) := by rw [IntKind.wrap_u64]; rfl
                have d2 : (x : Int).tmod 65536 = ((x % 65536 : Nat) : Int) := tmod_nat x 65536
                have d4 : (x : Int) % 65536 = ((x % 65536 : Nat) : Int) := rfl
                have d3 := wrap_add64 y (x / 65536 % m64)
                rw [Nat.add_mod_mod] at d3
                generalize (y + x / 65536) % m64 = v1 at d3 hcy
                generalize x / 65536 % m64 = xq at d1 d3
                generalize x % 65536 = xr at d2 d4 hcy
                have HC : Hid _ := hc'
                have HCY : Hid _ := hcy
                have HJ3 : Hid _ := hj
                have HJL : Hid (j + 1 < L) := hjl
                clear hc hc' hcy hj hjl hx hjL
                have w1 : IntKind.i64.wrap ((j : Int) + 1) = (j : Int) + 1 := by rw [IntKind.wrap_i64]; omega
                go_wp2
                go_region
                have HJ9 : Hid (JM w (o3.set (j + 1) v1) L ((wr.setCell ⟨w.heap.size, j + 1, none⟩ (.int .u64 (v1 : Int))).drew)) := (JM.set HJ3.out (j + 1) v1).drew
                have kx1 : ((wr.setCell ⟨w.heap.size, j + 1, none⟩ (.int .u64 (v1 : Int))).drew).cell? ⟨w.heap.size, j, none⟩ = some (.int .u64 (x : Int)) := keep_cell (by omega) kx
                have kf1 := JM.free HJ9.out j
                generalize (wr.setCell ⟨w.heap.size, j + 1, none⟩ (.int .u64 (v1 : Int))).drew = W9 at HJ9 kx1 kf1 ⊢
                clear kx ky kz1 kz0 HJ3
                go_wp2
                go_roundw
                case rel => exact ⟨j + 1, _, by have := HJL.out; omega, by go_num, JM.set HJ9.out j xr, by rw [← HCY.out]; exact HC.out⟩
                case measure => simp [intOf] <;> (have := HJL.out; omega)
              · rw [if_neg hx] at hc'
                have hxI : ¬ (65536 : Int) ≤ (x : Int) := by omega
                have HJ3 : Hid (JM w O2 L wr) := hc' ▸ hj
                clear hc hc' hcy hj hx
                go_wp2
                go_roundw
                case rel => exact ⟨k + 1, O2, by have := HS.out; omega, by go_num, HJ3.out, HT3.out⟩
                case measure => simp [intOf] <;> (have := HS.out; omega)
            · have hjl' : ¬ (j : Int) < (L : Int) - 1 := by omega
              rw [show L - 1 - j = 0 by omega] at hc
              have hc' : o3 = O2 := hc
              have HJ3 : Hid (JM w O2 L wr) := hc' ▸ hj
              clear hc hc' hj
              go_wp2
              go_roundw
              case rel => exact ⟨k + 1, O2, by have := HS.out; omega, by go_num, HJ3.out, HT3.out⟩
              case measure => simp [intOf] <;> (have := HS.out; omega)
        · have hkb : k = lb := by omega
          have hkI : ¬ (k : Int) < (lb : Int) := by omega
          rw [show lb - k = 0 by omega] at ht
          have ht' : o1 = tmK A B i lb 0 o := ht
          have HJ2 : Hid (JM w (tmK A B i lb 0 o) L wr) := ht' ▸ hj
          clear ht ht' hj hkb
          go_wp2
          go_roundw
          case rel => exact ⟨i + 1, _, by have := HI.out; omega, by go_num, HJ2.out, HT2.out⟩
          case measure => simp [intOf] <;> (have := HI.out; omega)
    · have hiI : ¬ (i : Int) < (la : Int) := by omega
      rw [show la - i = 0 by omega] at ht
      have ht' : o = tm A B := ht
      have HJ2 : Hid (JM w (tm A B) L wr) := ht' ▸ hj
      clear ht ht' hj
      go_wp2
      go_ret
      exact ⟨rfl, HJ2.out.1, HJ2.out.2.2⟩

theorem times (A B : List Nat) (ga gb t t' : Nat) (w : World) (hA : w.heap[ga]? = some (.cells (c64 A) t (0, 0))) (hB : w.heap[gb]? = some (.cells (c64 B) t' (0, 0))) (h1 : 1 ≤ A.length) (h2 : A.length ≤ 50) (h3 : B.length ≤ 50) :
    Calls Tryd.prog 37 #[.slice (some ⟨ga, 0, none⟩) A.length A.length, .slice (some ⟨gb, 0, none⟩) B.length B.length] w fun e w' => e = .returned (.slice (some ⟨w.heap.size, 0, none⟩) (A.length + B.length) (A.length + B.length)) ∧ w'.heap[w.heap.size]? = some (.cells (c64 (tm A B)) 36 (0, 0)) ∧ Below w.heap.size w w' := by
  have e1 : Hid (A.length = A.length) := rfl
  have e2 : Hid (B.length = B.length) := rfl
  have e3 : Hid (A.length + B.length = A.length + B.length) := rfl
  exact timesAt A B ga gb t t' A.length B.length (A.length + B.length) w hA hB e1 e2 e3 h1 h2 h3

end Go.Proofs.YtoehnncepboboaaDoor.Wh
