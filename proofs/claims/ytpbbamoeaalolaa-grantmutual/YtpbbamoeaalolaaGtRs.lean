/-
  The walk of the law GrantReaches: Reach answers as the document's: it returns true, and nothing that was in memory has turned. Conditions: none but that the arguments lie in memory as such do.
-/
import Derived.Test.YtpbbamoeaalolaaGtB
import Derived.Test.YtpbbamoeaalolaaGtJ
import Derived.Lib.MinMax
namespace Go.Proofs.Ytpbbamoeaalolaa.Wg
open Go.ChangeShapes Go.WideShapes Go.ChangeAt Go.RowKit Go.Proofs.Ytpbbamoeaalolaa.M Go.Maps

theorem own_eds {w : World} {base e : Nat} {v : Value} {l : List Ed} (h : w.ownsRow base e 2 v l.length (l.flatMap eC)) :
    ∃ a cap, v = .slice a l.length cap ∧ l.length ≤ cap ∧ EdsAt w a l := by
  have h' := h
  rcases h'.2 with ⟨rfl, hn⟩ | ⟨g, cap, cur, rfl, hb, hg, hc, hm, _, _⟩
  · rw [hn]
    exact ⟨none, 0, rfl, Nat.le_refl _, .inl (List.length_eq_zero_iff.1 hn)⟩
  · exact ⟨_, cap, rfl, hc, .inr ⟨g, 0, rfl, blk_lt hg, by simpa using rd_of_holds eC_len (holds_of_own eC_len h)⟩⟩
theorem eC_one (x : Ed) : ∀ u ∈ eC x, u.oneCell' = true := fun u hu => by simp [eC] at hu; rcases hu with rfl | rfl <;> rfl
theorem ownE_more {w4 : World} {base e : Nat} {v : Value} {l : List Ed} {x : Ed} (h : w4.ownsRow base e 2 v (l.length + 1) (l.flatMap eC ++ eC x)) : w4.ownsRow base e 2 v (l ++ [x]).length ((l ++ [x]).flatMap eC) := by
  rw [List.flatMap_append, List.length_append]
  simpa using h
/-- The first edges. -/
def edl (A : Nat → Ed) (k : Nat) : List Ed := (List.range k).map A
theorem length_edl (A : Nat → Ed) (k : Nat) : (edl A k).length = k := by simp [edl]
theorem edl_succ (A : Nat → Ed) (k : Nat) : edl A (k + 1) = edl A k ++ [A k] := by simp [edl, List.range_succ]
theorem edl_at {A : Nat → Ed} {k i : Nat} {x : Ed} (h : (edl A k)[i]? = some x) : i < k ∧ x = A i := by
  unfold edl at h
  rw [List.getElem?_map] at h
  by_cases c : i < k
  · rw [List.getElem?_range c] at h
    exact ⟨c, by injection h with h; exact h.symm⟩
  · rw [List.getElem?_eq_none (by simpa using c)] at h
    cases h
theorem edl_ok {w : World} {p : Option Addr} {n k : Nat} {A : Nat → Ed} (h : Eds w p n A) (hk : k ≤ n) : ∀ e ∈ edl A k, EOk e := fun e he => by
  obtain ⟨i, hi⟩ := List.mem_iff_getElem?.1 he
  obtain ⟨h1, rfl⟩ := edl_at hi
  exact h.1 i (by omega)
theorem edl_in {w : World} {p : Option Addr} {n k : Nat} {A : Nat → Ed} (h : Eds w p n A) (hk : k ≤ n) : EdsAt w p (edl A k) := by
  rcases h.2 with h0 | ⟨b, o, h1, h2, h3⟩
  · have : k = 0 := by omega
    subst this
    exact .inl rfl
  · refine .inr ⟨b, o, h1, h2, fun i x hx t v hv => ?_⟩
    obtain ⟨hi, rfl⟩ := edl_at hx
    exact h3 i (by omega) t v hv

set_option maxRecDepth 100000 in
set_option maxHeartbeats 1600000 in
theorem reaches (f : Int) (p : Option Addr) (n cap : Nat) (A : Nat → Ed) (w : World) (hf1 : -9223372036854775808 ≤ f) (hf2 : f < 9223372036854775808) (hc : n ≤ cap) (_ : cap ≤ maxLen) (hA : Eds w p n A) :
    Calls Try.prog 6 #[.int .i64 f, .slice p n cap] w fun e w' => e = .returned (.bool true) ∧ Below w.heap.size w w' := by
  have k1' : min (n : Int) 40 = ((min n 40 : Nat) : Int) := by omega
  obtain ⟨kk, hkk⟩ : ∃ k, k = min n 40 := ⟨_, rfl⟩
  have hkk1 : kk ≤ 40 := by omega
  have hkk2 : kk ≤ n := by omega
  rw [← hkk] at k1'
  clear hkk
  have HA := hid hA
  have HO := hid (edl_ok hA hkk2)
  have HI := hid (edl_in hA hkk2)
  have HF : Hid (I64 f) := ⟨hf1, hf2⟩
  have WK := hid Wg.wakes
  obtain ⟨i0, hi, hz0, hz1, hz2⟩ := info_parts infoE
  clear hA hf1 hf2
  go_enter Try.func6, Try.ntmps6
  go_wp2
  go_loopw [5, 18] (fun v i wr => ∃ m : Nat, i = .int .i64 m ∧ m ≤ kk ∧ wr.ownsRow w.heap.size 52 2 v (edl A m).length ((edl A m).flatMap eC) ∧ Below w.heap.size w wr) (fun _ i _ => kk - (intOf i).toNat)
  case atStart => exact ⟨0, rfl, Nat.zero_le _, World.ownsRow_nil _ _ _ _, Below.refl _ _⟩
  case round =>
    obtain ⟨m, rfl, hm, own, bw⟩ := hrel
    by_cases cm : m < kk
    · obtain ⟨hA1, hA2⟩ := HA.out
      rcases hA2 with hA2 | ⟨b, o, rfl, q3, q4⟩
      · omega
      have y0 := (bw.cell (p := ⟨b, o + m * 2 + 0, none⟩) q3).trans (q4 m (by omega) 0 _ rfl)
      have y1 := (bw.cell (p := ⟨b, o + m * 2 + 1, none⟩) q3).trans (q4 m (by omega) 1 _ rfl)
      rw [Nat.add_zero] at y0
      have hs := hid (edl_succ A m)
      have hll : Hid ((edl A m).length = m) := length_edl A m
      generalize A m = x at y0 y1 hs
      have bz := bw.size
      have lo := fun k hk => (own.lt k hk).1
      clear hA1 q4 HA HO HI
      go_wp2_with (first | (at_builtin; refine wpList_append_own _ rfl _ _ 50 rfl w.heap.size 52 i0 (.agg #[.int .i64 0, .int .i64 0]) 2 16 Try.underlying50 hi hz0 hz1 hz2 rfl (by decide) _ _ _ rfl ((own.alloc _).alloc _) ⟨wr.heap.size + 1, 0, none⟩ 1 1 (eC x) rfl rfl (two_newS (by simp) _ _ _) (eC_one x) (by rw [hll.out]; unfold maxLen; omega) (by rw [hll.out]; omega) (by simp; omega) ?_; intro v4 w4 o4 g4 n4; go_frame))
      have b4 : Below w.heap.size w w4 := ((bw.alloc bw.size _).alloc (by simp; omega) _).grown g4 (by simp; omega) lo
      have o5 := ownE_more o4
      rw [← hs.out] at o5
      go_roundw
      case rel => exact ⟨m + 1, by go_num, cm, o5, b4⟩
      case measure => simp [intOf]; omega
    · have hmk : m = kk := by omega
      subst hmk
      obtain ⟨a, cap1, rfl, _, hE⟩ := own_eds own
      have hl := length_edl A m
      have RA := hid (reach (cap := cap1) f HF.out HO.out hE (by omega))
      have RB := hid fun (W : World) (b : Below w.heap.size w W) => reachRef (w := W) (cap := cap) f (HI.out.below b) (by omega)
      rw [hl] at RB
      generalize edl A m = es at RA RB ⊢
      clear hl own hE HA HO HI
      go_wp2_with fail
      refine RA.out.mono ?_
      intro e w1 h1
      unfold ReachP at h1
      obtain ⟨R, g, cp, h2, rfl, h3, _, h5, h6, h7, h8⟩ := h1
      have h2' := hid h2
      have b1 := bw.trans (h8.mono bw.size)
      have RB1 := hid (RB.out w1 b1)
      clear RA RB h2
      go_wp2_with fail
      refine RB1.out.mono ?_
      intro e w2 h1
      unfold ReachR at h1
      obtain ⟨R', g', cp', k2, rfl, k3, k4, k5⟩ := h1
      have e := k2.one h2'.out
      subst e
      have b2 := b1.trans (k5.mono b1.size)
      have hRl : R'.length ≤ 9223372036854775807 := by unfold maxLen at h7; omega
      clear RB1 k2 h2'
      go_wp2_with fail
      refine (WK.out _).mono ?_
      rintro e w3 ⟨rfl, b3⟩
      have b4 := hid (b2.trans (b3.mono b2.size))
      have r1 : Hid (RdI w3 g R') := fun i x hx => by
        have := (Nat.lt_of_lt_of_le h5 k5.size)
        exact (b3.cell (p := ⟨g, i, none⟩) this).trans ((k5.cell (p := ⟨g, i, none⟩) h5).trans (h3 i x hx))
      have r2 := hid (k3.below b3)
      clear WK h3 k3 h8 k5 b1 b2 b3 bw
      go_wp2
      go_loopw [10, 44] (fun _ i wr => ∃ n : Nat, n ≤ R'.length ∧ i = .int .i64 n ∧ ∃ q, wr = w3.drewN q) (fun _ i _ => R'.length - (intOf i).toNat)
      case atStart => exact ⟨0, Nat.zero_le _, rfl, 0, rfl⟩
      case round =>
        obtain ⟨n, hn, rfl, q, rfl⟩ := hrel
        by_cases c : n < R'.length
        · obtain ⟨x, hx⟩ : ∃ x, R'[n]? = some x := ⟨R'[n], List.getElem?_eq_getElem c⟩
          rcases r2.out with r3 | ⟨g2, rfl, _, r4⟩
          · rw [r3] at c; simp at c
          have y0 := r1.out n x hx
          have y1 := r4 n x hx
          clear r4 hx
          go_wp2
          go_quiet (fail)
          go_wp2
          go_roundw
          case rel => exact ⟨n + 1, c, by go_num, _, rfl⟩
          case measure => simp [intOf]; omega
        · go_wp2
          go_ret
          exact ⟨rfl, b4.out.os, b4.out.tape, b4.out.output, b4.out.size, b4.out.block⟩

end Go.Proofs.Ytpbbamoeaalolaa.Wg
