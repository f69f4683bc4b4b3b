/-
  The walks of the document's root and ByRoots: what they return is 'rt' and the table 'rns'; nothing that was in memory has turned. Conditions: none but that the number fits 64 bits.
-/
import Derived.Test.YtoehnncepboboaaDoorRows
import Derived.Test.YtoehnncepboboaaDoorSTm
import Derived.Test.YtoehnncepboboaaDoorSRef
import Derived.Test.YtoehnncepboboaaDoorMathRa
import Derived.Test.YtoehnncepboboaaDoorMathRb
import Derived.Test.YtoehnncepboboaaDoorMathRc
import Derived.Test.YtoehnncepboboaaDoorMathRd
import Derived.WalkKit
import Derived.ProofKit
import Derived.OpenShut
namespace Go.Proofs.YtoehnncepboboaaDoor.Wh
open Go.ChangeShapes Go.WideShapes Go.ChangeAt Go.RowKit Go.Proofs.YtoehnncepboboaaDoor.M

theorem cy_len : ∀ n j o, (cy n j o).length = o.length
  | 0, _, _ => rfl
  | n + 1, j, o => by
    show (if 65536 ≤ o.getD j 0 then cy n (j + 1) (cyS j o) else o).length = o.length
    split
    · rw [cy_len n (j + 1)]
      simp [cyS]
    · rfl
theorem tmK_len (a b : List Nat) (i : Nat) : ∀ n k o, (tmK a b i n k o).length = o.length
  | 0, _, _ => rfl
  | n + 1, k, o => by
    show (tmK a b i n (k + 1) (tmS a b i k o)).length = o.length
    rw [tmK_len a b i n]
    unfold tmS
    rw [cy_len]
    simp
theorem tmI_len (a b : List Nat) : ∀ n i o, (tmI a b n i o).length = o.length
  | 0, _, _ => rfl
  | n + 1, i, o => by
    show (tmI a b n (i + 1) (tmK a b i b.length 0 o)).length = o.length
    rw [tmI_len a b n, tmK_len]
theorem tm_len (a b : List Nat) : (tm a b).length = a.length + b.length := by
  unfold tm
  rw [tmI_len]
  simp

theorem e33 : Hid (3 + 3 = 6) := (rfl : 3 + 3 = 6)
theorem e63 : Hid (6 + 3 = 9) := (rfl : 6 + 3 = 9)

/-- The goal lies where it was laid. -/
def JG (w : World) (p : Nat) (W : World) : Prop := W.heap[w.heap.size]? = some (.cells (c64 (gol p)) 36 (0, 0)) ∧ Below w.heap.size w W
theorem JG.below {w W W' : World} {p : Nat} (h : JG w p W) (hb : Below W.heap.size W W') : JG w p W' :=
  ⟨(hb.block _ (Array.getElem?_eq_some_iff.1 h.1).1).trans h.1, h.2.trans (hb.mono h.2.size)⟩

set_option maxRecDepth 100000 in
set_option maxHeartbeats 1000000 in
theorem root (p : Nat) (w : World) :
    Calls Tryd.prog 22 #[.int .u64 (p : Int)] w fun e w' => e = .returned (.int .u32 ((rt p : Nat) : Int)) ∧ Below w.heap.size w w' := by
  have HG0 : Hid (JG w p (w.alloc (.cells #[.int .u64 0, .int .u64 0, .int .u64 0, .int .u64 0, .int .u64 0, .int .u64 0, .int .u64 (p : Int), .int .u64 0, .int .u64 0, .int .u64 0, .int .u64 0] 36))) := ⟨heap_alloc_new w _, (Below.refl _ _).alloc (Nat.le_refl _) _⟩
  go_enter Tryd.func22, Tryd.ntmps22
  go_wp2
  go_loopw [4, 5] (fun rv bv wr => ∃ b r : Nat, b ≤ 35 ∧ r < 18446744073709551616 ∧ bv = .int .i64 ((b : Int) - 1) ∧ rv = .int .u64 (r : Int) ∧ rtB p b r = rtB p 35 0 ∧ JG w p wr) (fun _ b _ => (intOf b + 1).toNat)
  case atStart => exact ⟨35, 0, Nat.le_refl _, by decide, rfl, rfl, rfl, HG0.out⟩
  case round =>
    clear HG0
    obtain ⟨b', r, hb', hr, rfl, rfl, hrt, hg⟩ := hrel
    by_cases h0 : 0 < b'
    · obtain ⟨b, rfl⟩ : ∃ b, b' = b + 1 := ⟨b' - 1, by omega⟩
      have e1 : ((b + 1 : Nat) : Int) - 1 = (b : Int) := by omega
      rw [e1]
      have hrt' : rtB p b (rtS p b r) = rtB p 35 0 := hrt
      have HRT : Hid _ := hrt'
      have HG : Hid _ := hg
      have hb34 : (b : Int) ≤ 34 := by omega
      clear e1 hrt hrt' hg h0
      go_wp2
      go_loop [7, 8] (fun av iv => ∃ i : Nat, i ≤ b ∧ iv = .int .i64 (i : Int) ∧ av = .int .u64 ((p2 i : Nat) : Int)) (fun _ i => b - (intOf i).toNat)
      case atStart => exact ⟨0, Nat.zero_le _, rfl, rfl⟩
      case round =>
        obtain ⟨i, hi, rfl, rfl⟩ := hrel
        by_cases hlt : i < b
        · have hp : 2 ^ i ≤ 17179869184 := Nat.pow_le_pow_right (n := 2) (by decide) (show i ≤ 34 by omega)
          have hp2 : 2 * ((p2 i : Nat) : Int) < 18446744073709551616 := by unfold p2; omega
          have HQ : Hid (((p2 (i + 1) : Nat) : Int) = 2 * ((p2 i : Nat) : Int)) := by
            show ((p2 (i + 1) : Nat) : Int) = 2 * ((p2 i : Nat) : Int)
            unfold p2
            rw [Nat.pow_succ]
            omega
          have HI : Hid (i < b ∧ b + 1 ≤ 35) := ⟨hlt, hb'⟩
          have hltI : (i : Int) < (b : Int) := by omega
          clear hp hlt hb'
          generalize p2 i = P at HQ hp2
          go_wp2
          go_round
          case rel => exact ⟨i + 1, by have := HI.out; omega, by go_num, by rw [HQ.out]⟩
          case measure => simp [intOf] <;> (have := HI.out; omega)
        · have hib : i = b := by omega
          subst hib
          have hltI : ¬ (i : Int) < (i : Int) := by omega
          have hX := wrap_add64 r (p2 i)
          have hrs : rtS p i r = if am (tm (tm (lmb ((r + p2 i) % m64)) (lmb ((r + p2 i) % m64))) (lmb ((r + p2 i) % m64))) (gol p) 16 then (r + p2 i) % m64 else r := rfl
          have hXl : (r + p2 i) % m64 < 18446744073709551616 := Nat.mod_lt _ (by decide)
          generalize p2 i = P at hX hrs hXl ⊢
          generalize (r + P) % m64 = X at hX hrs hXl
          have hlm : lmb X = [X % 65536, X / 65536 % 65536, X / 4294967296] := rfl
          have f1 : (X : Int).tmod 65536 = ((X % 65536 : Nat) : Int) := tmod_nat X 65536
          have f1' : (X : Int) % 65536 = ((X % 65536 : Nat) : Int) := rfl
          have f2 : IntKind.u64.wrap ((X : Int) / 65536) = ((X / 65536 : Nat) : Int) := by rw [IntKind.wrap_u64]; omega
          have f2' : (X : Int) / 65536 = ((X / 65536 : Nat) : Int) := rfl
          have f3 : ((X / 65536 : Nat) : Int).tmod 65536 = ((X / 65536 % 65536 : Nat) : Int) := tmod_nat _ 65536
          have f3' : ((X / 65536 : Nat) : Int) % 65536 = ((X / 65536 % 65536 : Nat) : Int) := rfl
          have f4 : IntKind.u64.wrap ((X : Int) / 4294967296) = ((X / 4294967296 : Nat) : Int) := by rw [IntKind.wrap_u64]; omega
          have f4' : (X : Int) / 4294967296 = ((X / 4294967296 : Nat) : Int) := rfl
          have fb : X / 65536 < 18446744073709551616 := by omega
          have fc : X / 4294967296 < 18446744073709551616 := by omega
          generalize X / 65536 % 65536 = X2 at hlm f3 f3'
          generalize X / 65536 = Xq at f2 f2' f3 f3' fb
          generalize X % 65536 = X1 at hlm f1 f1'
          generalize X / 4294967296 = X3 at hlm f4 f4' fc
          have HLM : Hid _ := hlm
          have HRS : Hid _ := hrs
          have HB : Hid (i + 1 ≤ 35 ∧ X < 18446744073709551616 ∧ r < 18446744073709551616) := ⟨hb', hXl, hr⟩
          clear hlm hrs hb' hi hlt
          have hl1 : tm (tm (lmb X) (lmb X)) (lmb X) = tm (tm [X1, X2, X3] [X1, X2, X3]) [X1, X2, X3] := by rw [HLM.out]
          have L2 := tm_len [X1, X2, X3] [X1, X2, X3]
          have L3 := tm_len (tm [X1, X2, X3] [X1, X2, X3]) [X1, X2, X3]
          have L2' : Hid ((tm [X1, X2, X3] [X1, X2, X3]).length = 6) := L2
          have L3' : Hid ((tm (tm [X1, X2, X3] [X1, X2, X3]) [X1, X2, X3]).length = 9) := by
            rw [L2] at L3
            exact L3
          have HL1 : Hid _ := hl1
          clear L2 L3 hl1
          have HA1 : Hid ((wr.alloc (.cells #[.int .u64 (X1 : Int), .int .u64 (X2 : Int), .int .u64 (X3 : Int)] 36)).heap[wr.heap.size]? = some (.cells (c64 [X1, X2, X3]) 36 (0, 0))) := heap_alloc_new wr _
          have HG1 : Hid (JG w p (wr.alloc (.cells #[.int .u64 (X1 : Int), .int .u64 (X2 : Int), .int .u64 (X3 : Int)] 36))) := JG.below HG.out ((Below.refl _ _).alloc (Nat.le_refl _) _)
          have E3 : Hid ([X1, X2, X3].length = 3) := rfl
          go_wp2_with fail
          generalize wr.alloc (.cells #[.int .u64 (X1 : Int), .int .u64 (X2 : Int), .int .u64 (X3 : Int)] 36) = W1 at HA1 HG1 ⊢
          generalize wr.heap.size = g1 at HA1 ⊢
          refine (timesAt [X1, X2, X3] [X1, X2, X3] g1 g1 36 36 3 3 6 W1 HA1 HA1 E3 E3 e33 (by decide) (by decide) (by decide)).mono ?_
          rintro e w2 ⟨rfl, h2, b2⟩
          have HA2 : Hid (w2.heap[g1]? = some (.cells (c64 [X1, X2, X3]) 36 (0, 0))) := (b2.block _ (Array.getElem?_eq_some_iff.1 HA1.out).1).trans HA1.out
          have HB2 : Hid (w2.heap[W1.heap.size]? = some (.cells (c64 (tm [X1, X2, X3] [X1, X2, X3])) 36 (0, 0))) := h2
          have HG2 : Hid (JG w p w2) := JG.below HG1.out b2
          generalize W1.heap.size = g2 at HB2 ⊢
          clear h2 b2 HA1 HG1 HG
          go_wp2_with fail
          refine (timesAt (tm [X1, X2, X3] [X1, X2, X3]) [X1, X2, X3] g2 g1 36 36 6 3 9 w2 HB2 HA2 L2' E3 e63 (by decide) (by decide) (by decide)).mono ?_
          rintro e w3 ⟨rfl, h3, b3⟩
          have HC3 : Hid (w3.heap[w2.heap.size]? = some (.cells (c64 (tm (tm [X1, X2, X3] [X1, X2, X3]) [X1, X2, X3])) 36 (0, 0))) := h3
          have HG3 : Hid (JG w p w3) := JG.below HG2.out b3
          generalize w2.heap.size = g3 at HC3 ⊢
          clear h3 b3 HA2 HB2 HG2
          have CA : Hid (Calls Tryd.prog 38 #[.slice (some ⟨g3, 0, none⟩) 9 9, .slice (some ⟨w.heap.size, 0, none⟩) 11 11] w3 fun e w' => e = .returned (.bool (am (tm (tm [X1, X2, X3] [X1, X2, X3]) [X1, X2, X3]) (gol p) 16)) ∧ w3 = w') := by
            have h := atMost (tm (tm [X1, X2, X3] [X1, X2, X3]) [X1, X2, X3]) (gol p) g3 w.heap.size _ _ w3 HC3.out HG3.out.1
            rw [L3'.out] at h
            exact h
          rw [HL1.out] at HRS
          generalize am (tm (tm [X1, X2, X3] [X1, X2, X3]) [X1, X2, X3]) (gol p) 16 = ok at CA HRS
          clear HC3 L2' L3' HL1
          go_wp2_with fail
          refine (CA.out).mono ?_
          rintro e w4 ⟨rfl, rfl⟩
          cases ok with
          | true =>
            have hx : rtS p i r = X := HRS.out
            have HX : Hid _ := hx
            clear hx HRS
            go_wp2
            go_roundw
            case rel => exact ⟨i, X, by have := HB.out; omega, HB.out.2.1, rfl, rfl, by rw [← HX.out]; exact HRT.out, HG3.out⟩
            case measure => simp [intOf] <;> omega
          | false =>
            have hx : rtS p i r = r := HRS.out
            have HX : Hid _ := hx
            clear hx HRS
            go_wp2
            go_roundw
            case rel => exact ⟨i, r, by have := HB.out; omega, HB.out.2.2, rfl, rfl, by have := HRT.out; rw [HX.out] at this; exact this, HG3.out⟩
            case measure => simp [intOf] <;> omega
    · have hb0 : b' = 0 := by omega
      have e1 : (b' : Int) - 1 = -1 := by omega
      rw [hb0] at hrt
      have hrt' : r = rtB p 35 0 := hrt
      have hR : rt p = r % 4294967296 := by
        unfold rt
        rw [← hrt']
      have q1 : (r : Int).tmod 4294967296 = ((r % 4294967296 : Nat) : Int) := tmod_nat r 4294967296
      have q2 : (r : Int) % 4294967296 = ((r % 4294967296 : Nat) : Int) := rfl
      have q3 : r % 4294967296 < 4294967296 := Nat.mod_lt _ (by decide)
      generalize r % 4294967296 = R at hR q1 q2 q3
      have HR : Hid _ := hR
      have HG : Hid _ := hg
      rw [e1]
      clear hR hrt hrt' hb0 h0 e1 hg hb'
      go_wp2
      go_ret
      exact ⟨by rw [HR.out]; rfl, HG.out.2⟩

theorem prs_rt : prs.map rt = rns := by
  have e : prs = [2, 3, 5, 7] ++ [11, 13, 17, 19] ++ [23, 29, 31, 37] ++ [41, 43, 47, 53] ++ ([59, 61, 67, 71] ++ [73, 79, 83, 89] ++ [97, 101, 103, 107] ++ [109, 113, 127, 131]) ++ ([137, 139, 149, 151] ++ [157, 163, 167, 173] ++ [179, 181, 191, 193] ++ [197, 199, 211, 223]) ++ ([227, 229, 233, 239] ++ [241, 251, 257, 263] ++ [269, 271, 277, 281] ++ [283, 293, 307, 311]) := rfl
  rw [e]
  simp only [List.map_append, rtsa0, rtsa1, rtsa2, rtsa3, rtsb0, rtsb1, rtsb2, rtsb3, rtsc0, rtsc1, rtsc2, rtsc3, rtsd0, rtsd1, rtsd2, rtsd3]
  rfl
theorem rt_zero : rt 0 = 0 := by decide +kernel
theorem st_end : (st rt 310).1 = 64 ∧ (st rt 310).2 = rns := by
  obtain ⟨h1, h2⟩ := st_map rt 310
  rw [st310] at h1 h2
  exact ⟨h1, (h2 rt_zero).trans prs_rt⟩
theorem st_under (k : Nat) (h : k < 310) : (st rt k).1 < 64 := by
  have h1 := st_le rt k (309 - k)
  rw [show k + (309 - k) = 309 by omega, st309] at h1
  omega

/-- What lies where. -/
def JY (w : World) (l : List Nat) (W : World) : Prop := W.heap[w.heap.size]? = some (.cells (c32 (List.replicate 64 0)) 32 (0, 0)) ∧ W.heap[w.heap.size + 1]? = some (.cells (c32 l) 32 (0, 0)) ∧ Below w.heap.size w W
theorem JY.below {w W W' : World} {l : List Nat} (h : JY w l W) (hb : Below W.heap.size W W') : JY w l W' := by
  obtain ⟨h1, h2, h3⟩ := h
  have K : ∀ {k : Nat} {o : Obj}, W.heap[k]? = some o → W'.heap[k]? = some o := fun hk => (hb.block _ (Array.getElem?_eq_some_iff.1 hk).1).trans hk
  exact ⟨K h1, K h2, h3.trans (hb.mono h3.size)⟩
theorem JY.set {w W : World} {l : List Nat} (h : JY w l W) (i v : Nat) : JY w (l.set i v) (W.setCell ⟨w.heap.size + 1, i, none⟩ (.int .u32 (v : Int))) := by
  obtain ⟨h1, h2, h3⟩ := h
  refine ⟨(heap_setCell_other W _ _ _ (by simp)).trans h1, ?_, h3.setCell (p := ⟨_, _, none⟩) (by simp) _⟩
  rw [heap_setCell_same W _ i _ _ _ h2, c32_set]

set_option maxRecDepth 100000 in
set_option maxHeartbeats 1000000 in
theorem byRoots (w : World) :
    Calls Tryd.prog 12 #[] w fun e w' => e = .returned (.agg (c32 rns)) ∧ Below w.heap.size w w' := by
  go_enter Tryd.func12, Tryd.ntmps12
  go_wp2
  go_loopw [2, 3] (fun nv pv wr => ∃ k : Nat, k ≤ 310 ∧ nv = .int .i64 (((st rt k).1 : Nat) : Int) ∧ pv = .int .u64 ((2 + k : Nat) : Int) ∧ JY w (st rt k).2 wr) (fun _ p _ => 400 - (intOf p).toNat)
  case atStart =>
    refine ⟨0, Nat.zero_le _, rfl, rfl, ?_, ?_, ((Below.refl _ _).alloc (Nat.le_refl _) _).alloc (by simp) _⟩
    · rw [zeros64]
      exact heap_alloc2_old w _ _
    · show _ = some (Obj.cells (c32 (List.replicate 64 0)) _ _)
      rw [zeros64]
      exact heap_alloc2_new w _ _
  case round =>
    obtain ⟨k, hk, rfl, rfl, hj⟩ := hrel
    obtain ⟨p, hp⟩ : ∃ p : Nat, p = 2 + k := ⟨_, rfl⟩
    have hst1 : pr p = true → (st rt (k + 1)).1 = (st rt k).1 + 1 ∧ (st rt (k + 1)).2 = (st rt k).2.set (st rt k).1 (rt p) := fun h => by
      show (stS rt (2 + k) (st rt k)).1 = _ ∧ (stS rt (2 + k) (st rt k)).2 = _
      unfold stS
      rw [← hp, if_pos h]
      exact ⟨rfl, rfl⟩
    have hst0 : pr p = false → (st rt (k + 1)).1 = (st rt k).1 ∧ (st rt (k + 1)).2 = (st rt k).2 := fun h => by
      show (stS rt (2 + k) (st rt k)).1 = _ ∧ (stS rt (2 + k) (st rt k)).2 = _
      unfold stS
      rw [← hp, if_neg (by rw [h]; decide)]
      exact ⟨rfl, rfl⟩
    rw [← hp]
    by_cases hlt : k < 310
    · have hn := st_under k hlt
      have hlen := st_len rt k
      generalize (st rt k).1 = n at hn hst1 hst0 ⊢
      generalize (st rt k).2 = l at hj hlen hst1 hst0
      have HST1 : Hid _ := hst1
      have HST0 : Hid _ := hst0
      have HJ : Hid (JY w l wr) := hj
      have HP : Hid (p = 2 + k ∧ k < 310 ∧ l.length = 64) := ⟨hp, hlt, hlen⟩
      have hnI : (n : Int) < 64 := by omega
      have hpI : (p : Int) ≤ 312 := by omega
      have hp2 : (2 : Int) ≤ (p : Int) := by omega
      clear hst1 hst0 hj hp hk hlt hlen
      go_wp2
      go_loop [4, 5] (fun cv qv => ∃ (q : Nat) (c : Bool), 2 ≤ q ∧ q ≤ p ∧ qv = .int .u64 (q : Int) ∧ cv = .bool c ∧ prq p (p - q) q c = pr p) (fun _ q => p - (intOf q).toNat)
      case atStart => exact ⟨2, true, Nat.le_refl _, by omega, rfl, rfl, rfl⟩
      case round =>
        obtain ⟨q, c, hq2, hqp, rfl, rfl, hc⟩ := hrel
        by_cases hqlt : q < p
        · have hqI : (q : Int) < (p : Int) := by omega
          have hq0 : ¬ (q : Int) = 0 := by omega
          rw [show p - q = (p - (q + 1)) + 1 by omega] at hc
          have hc' : prq p (p - (q + 1)) (q + 1) (if p % q = 0 then false else c) = pr p := hc
          have d1 : (p : Int).tmod (q : Int) = ((p % q : Nat) : Int) := tmod_nat p q
          have hQ : Hid (2 ≤ q ∧ q < p) := ⟨hq2, hqlt⟩
          by_cases hm : p % q = 0
          · rw [if_pos hm] at hc'
            have HC : Hid _ := hc'
            have d2 : (p : Int).tmod (q : Int) = 0 := by rw [d1, hm]; rfl
            clear hc hc' hm d1 hq2 hqp hqlt
            go_wp2
            go_round
            case rel => exact ⟨q + 1, false, by have := hQ.out; omega, by have := hQ.out; omega, by go_num, rfl, HC.out⟩
            case measure => simp [intOf] <;> (have := hQ.out; omega)
          · rw [if_neg hm] at hc'
            have HC : Hid _ := hc'
            have hm' : ¬ ((p % q : Nat) : Int) = 0 := by omega
            generalize p % q = m at d1 hm'
            clear hc hc' hm hq2 hqp hqlt
            go_wp2
            go_round
            case rel => exact ⟨q + 1, c, by have := hQ.out; omega, by have := hQ.out; omega, by go_num, rfl, HC.out⟩
            case measure => simp [intOf] <;> (have := hQ.out; omega)
        · have hqp' : q = p := by omega
          have hqI : ¬ (q : Int) < (p : Int) := by omega
          rw [show p - q = 0 by omega] at hc
          have hc' : c = pr p := hc
          cases hpr : pr p with
          | false =>
            rw [hpr] at hc'
            subst hc'
            obtain ⟨s1, s2⟩ := HST0.out hpr
            have S1 : Hid _ := s1
            have S2 : Hid _ := s2
            clear hc hpr s1 s2 HST1 HST0
            go_wp2
            go_roundw
            case rel => exact ⟨k + 1, by have := HP.out; omega, by rw [S1.out], by have := HP.out; go_num, by rw [S2.out]; exact HJ.out⟩
            case measure => simp [intOf] <;> omega
          | true =>
            rw [hpr] at hc'
            subst hc'
            obtain ⟨s1, s2⟩ := HST1.out hpr
            have S1 : Hid _ := s1
            have S2 : Hid _ := s2
            clear hc hpr s1 s2 HST1 HST0
            go_wp2_with fail
            refine (root p _).mono ?_
            rintro e w2 ⟨rfl, b2⟩
            have hj2 := JY.below HJ.out b2
            have kc := (cell_of_row w2 (w.heap.size + 1) n _ _ _ hj2.2.1).trans (c32_get l n (by rw [HP.out.2.2]; exact hn))
            have kz := frozen_of_row w2 (w.heap.size + 1) n _ _ hj2.2.1
            have HJ2 : Hid _ := hj2
            generalize rt p = R at S2 ⊢
            clear hj2 b2 HJ
            go_wp2
            go_roundw
            case rel => exact ⟨k + 1, by have := HP.out; omega, by rw [S1.out]; go_num, by have := HP.out; go_num, by rw [S2.out]; exact JY.set HJ2.out n R⟩
            case measure => simp [intOf] <;> omega
    · have hk0 : k = 310 := by omega
      obtain ⟨e1, e2⟩ := st_end
      rw [hk0] at hj hp ⊢
      rw [e2] at hj
      rw [e1, hp]
      have HJ : Hid (JY w rns wr) := hj
      have i2 : Hid ((Tryd.prog.info? 32).map (·.size) = some (c32 rns).size) := by rw [c32_size, rns_len]; exact info64w
      have hs : Hid ((c32 (List.replicate 64 0)).size = (c32 rns).size) := by rw [c32_size, c32_size]; rfl
      clear e1 e2 hj hp hk0 hst1 hst0 hk hlt
      go_wp2_with (first
        | (refine wpList_load_row rfl 32 _ rfl (w.heap.size + 1) rfl 32 (c32 rns) (0, 0) _ HJ.out.2.1 Tryd.underlying32 rfl i2.out ?_)
        | (refine wpList_store_row rfl 32 _ _ rfl w.heap.size (c32 rns) rfl rfl 32 _ HJ.out.1 i2.out hs.out (c32_one _) ?_))
      exact bodyPost_ret (v := .agg (c32 rns)) (results_cell_row Tryd.results12 _ _ w.heap.size 32 (c32 rns) (0, 0) _ rfl (setRow_heap wr _ _ _ _ _ HJ.out.1) Tryd.underlying32 rfl i2.out) rfl ⟨rfl, HJ.out.2.2.trans (below_setRow (Nat.le_refl _))⟩

end Go.Proofs.YtoehnncepboboaaDoor.Wh
