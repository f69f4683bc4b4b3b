/-
  The walk of the law DiskPlays: behind every calls, losses of power among them, the disk answers, and has, what the document says, step by step; the law returns true, and nothing that was in memory has turned. Condition: none but that the arguments lie in memory as such do.
-/
import Derived.Test.YtffhnkljmalbiaaLawP2
import Derived.Test.YtffhnkljmalbiaaLawP3
namespace Go.Proofs.Ytffhnkljmalbiaa.Wr
open Go.ChangeShapes Go.WideShapes Go.ChangeAt Go.RowKit Go.Proofs.Ytffhnkljmalbiaa.M Go.Proofs.Ytffhnkljmalbiaa.Wd Go.Proofs.Ytffhnkljmalbiaa.Wv

set_option maxRecDepth 100000 in
set_option maxHeartbeats 1000000 in
theorem lawPlays (ao : Option Addr) (len cap : Nat) (z : Nat → Int) (bo : Option Addr) (n cap2 : Nat) (A : Nat → Av) (w : World) (hcap : len ≤ cap) (hlen : len ≤ 140737488355328) (hz : ∀ i, I64 (z i)) (hc : ∀ j, j < len → ∃ b o, ao = some ⟨b, o, none⟩ ∧ b < w.heap.size ∧ w.cell? ⟨b, o + j, none⟩ = some (.int .i64 (z j))) (hcap2 : n ≤ cap2) (_ : cap2 ≤ maxLen) (hA : Acts w bo n A) :
    Calls Try.prog 3 #[.slice ao len cap, .slice bo n cap2] w fun e w' => e = .returned (.bool true) ∧ Below w.heap.size w w' := by
  have C0 := hid (fun W (hW : Below w.heap.size w W) => sizes ao len cap z W hcap hlen (fun j hj => by
    obtain ⟨b, o, h1, h2, h3⟩ := hc j hj
    exact ⟨b, o, h1, Nat.lt_of_lt_of_le h2 hW.size, (hW.cell (by exact h2)).trans h3⟩))
  have hk12 : min len 12 ≤ 12 := by omega
  generalize min len 12 = k at C0 hk12
  have hm : Hid (∀ j, -9223372036854775808 ≤ m30 z j ∧ m30 z j < 9223372036854775808) := fun j => by
    have := hz j
    unfold I64 at this
    unfold m30
    omega
  have k2 : min (n : Int) 100 = ((min n 100 : Nat) : Int) := by omega
  obtain ⟨kk, hkk⟩ : ∃ kk, kk = min n 100 := ⟨_, rfl⟩
  have hk100 : kk ≤ 100 := by omega
  have hkn : kk ≤ n := by omega
  rw [← hkk] at k2
  have HKK := hid hkk
  have HA := hid hA
  clear hc hkk hA hz
  go_enter Try.func3, Try.ntmps3
  go_wp2_with fail
  refine (C0.out w (Below.refl _ _)).mono ?_
  rintro e w1 hs1
  obtain ⟨a1, p1, rfl, s1, s2, b1⟩ := hs1
  have CN := hid (One.new b1 a1 k p1 (m30 z) (by omega) s1 s2)
  clear s1 s2
  have B1 := hid b1
  clear b1
  go_wp2_with fail
  refine CN.out.mono ?_
  rintro e w2 ⟨rfl, o2, b2⟩
  have O2 := hid o2
  have B2 := hid b2
  clear o2 b2 CN
  go_wp2_with fail
  refine (C0.out w2 O2.out.bel).mono ?_
  rintro e w3 hs3
  obtain ⟨a3, p3, rfl, s1, s2, b3⟩ := hs3
  have CR := hid (Wr.new a3 k p3 (m30 z) w3 (by omega) hm.out s2)
  have B3 := hid b3
  clear s1 s2 b3 C0
  go_wp2_with fail
  refine CR.out.mono ?_
  rintro e w4 ⟨rfl, r4, b4⟩
  have DU : Hid (Du w w4 w1.heap.size w3.heap.size (newD (m30 z) (min k 8)) (newD (m30 z) (min k 8)) (Gr no w1 w2) (Gr no w3 w4)) := by
    have o3 := O2.out.below B3.out
    have h3 := o3.bel.size
    have h32 := B3.out.size
    refine ⟨o3.below b4, r4, fun b hb => ?_, fun b hf hg => ?_⟩
    · rcases hb with hb | hb
      · exact absurd hb id
      · have := hb.1; omega
    · rcases hf with hf | hf
      · exact hf
      · rcases hg with hg | hg
        · exact hg
        · have := hf.2; have := hg.1; omega
  clear r4 b4 CR O2 B2 B3
  obtain ⟨D, hD⟩ : ∃ D, D = w1.heap.size := ⟨_, rfl⟩
  obtain ⟨E, hE⟩ : ∃ E, E = w3.heap.size := ⟨_, rfl⟩
  rw [← hD, ← hE] at DU ⊢
  clear hD hE
  have IV : Hid (Iv 0 (newD (m30 z) (min k 8))) := ⟨q_new, fun h => by cases h⟩
  generalize newD (m30 z) (min k 8) = d0 at *
  go_wp2_with fail
  refine (wakes _).mono ?_
  rintro e w5 ⟨rfl, b5⟩
  have D5 := hid (DU.out.below b5)
  clear b5 DU
  have CS := hid (same D5.out)
  go_wp2_with fail
  refine CS.out.mono ?_
  rintro e w6 ⟨rfl, b6⟩
  have D6 : Hid (Done w D E 0 w6) := ⟨_, _, _, IV.out, D5.out.below b6⟩
  clear b6 D5 CS IV
  go_wp2
  go_loopw [29] (fun iv wr => ∃ j : Nat, j ≤ kk ∧ iv = .int .i64 (j : Int) ∧ Done w D E j wr) (fun iv _ => kk - (intOf iv).toNat)
  case atStart => exact ⟨0, Nat.zero_le _, rfl, D6.out⟩
  case round =>
    clear D6
    obtain ⟨j, hj, rfl, d, F, G, iv, du⟩ := hrel
    by_cases hlt : j < kk
    · obtain ⟨g, off, rfl, hg, a0, a1, a2, a3, a4, a5⟩ := act_cells HA.out du.o1.bel (by omega : j < n)
      have CA := hid (show Calls Try.prog 14 #[.pointer (some ⟨D, 0, none⟩), .pointer (some ⟨E, 0, none⟩), .agg #[.int .i64 (A j).act, .int .i64 (A j).reg, .int .i64 (A j).sec, .int .i64 (A j).num, .string (A j).data, .slice (A j).ka (A j).K.length (A j).kc]] (wr.alloc (.cells #[.int .i64 (A j).act, .int .i64 (A j).reg, .int .i64 (A j).sec, .int .i64 (A j).num, .string (A j).data, .slice (A j).ka (A j).K.length (A j).kc] 33)) _ from act (A j) (HA.out.1 j (by omega)) (du.below ((Below.refl wr.heap.size wr).alloc (Nat.le_refl _) _)) iv (by omega))
      clear iv du
      generalize (A j).act = y0 at *
      generalize (A j).reg = y1 at *
      generalize (A j).sec = y2 at *
      generalize (A j).num = y3 at *
      generalize (A j).data = x at *
      generalize (A j).ka = ka at *
      generalize (A j).K.length = kl at *
      generalize (A j).kc = kc at *
      go_wp2_with fail
      refine CA.out.mono ?_
      rintro e w7 ⟨rfl, dn⟩
      obtain ⟨d', F', G', iv', du'⟩ := dn
      have CS := hid (same du')
      have IV := hid iv'
      have DU := hid du'
      clear iv' du' CA
      go_wp2_with fail
      refine CS.out.mono ?_
      rintro e w8 ⟨rfl, b8⟩
      have D8 : Hid (Done w D E (j + 1) w8) := ⟨_, _, _, IV.out, DU.out.below b8⟩
      clear b8 CS IV DU
      go_wp2
      go_roundw
      case rel => exact ⟨j + 1, by omega, by go_num, D8.out⟩
      case measure => simp [intOf] <;> omega
    · have hE : j = kk := by omega
      subst hE
      have B := hid du.o1.bel
      clear iv du
      go_wp2
      go_ret
      exact ⟨rfl, B.out⟩

end Go.Proofs.Ytffhnkljmalbiaa.Wr
