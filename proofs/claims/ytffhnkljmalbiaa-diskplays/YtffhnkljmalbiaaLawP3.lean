/-
  The walks of the law's same and sizes.
-/
import Derived.Test.YtffhnkljmalbiaaLawP1
import Derived.Test.YtffhnkljmalbiaaRkO
namespace Go.Proofs.Ytffhnkljmalbiaa.Wr
open Go.ChangeShapes Go.WideShapes Go.ChangeAt Go.RowKit Go.Proofs.Ytffhnkljmalbiaa.M Go.Proofs.Ytffhnkljmalbiaa.Wd Go.Proofs.Ytffhnkljmalbiaa.Wv

theorem image_neg (d : Dk) : d.image (-1) = ⟨#[]⟩ := if_neg (by rw [has_iff]; omega)
theorem secs_past (d : Dk) : d.secs (d.k : Int) = 0 := if_neg (by rw [has_iff]; omega)

set_option maxRecDepth 100000 in
set_option maxHeartbeats 1000000 in
theorem same {W w : World} {D E : Nat} {d : Dk} {F G : Nat → Prop} (h : Du W w D E d d F G) :
    Calls Try.prog 13 #[.pointer (some ⟨D, 0, none⟩), .pointer (some ⟨E, 0, none⟩)] w fun e w' => e = .returned (.bool true) ∧ Below w.heap.size w w' := by
  obtain ⟨L, l⟩ := h.r
  obtain ⟨c1, c2, _⟩ := l.cD
  have hk8 := l.ok.k
  have S1 := hid (fun a => h.o1.sectors a)
  have I1 := hid (fun a => h.o1.image a)
  have S2 := hid (fun a => sectorsR l a)
  have I2 := hid (fun a => imageR l a)
  have HS : Hid (∀ W', Below w.heap.size w W' → W'.cell? ⟨E, 0, none⟩ = some (.slice (pt d.k L.R) d.k (cp d.k L.rc)) ∧ W'.cell? ⟨E, 1, none⟩ = some (.bool d.off)) := fun W' hW => ⟨(hW.cell (l.lt _ l.ownD)).trans c1, (hW.cell (l.lt _ l.ownD)).trans c2⟩
  have A1 : Hid (∀ W', Below w.heap.size w W' → Calls Try.prog 26 #[.pointer (some ⟨D, 0, none⟩)] W' fun e w' => e = .returned (.bool d.off) ∧ Below w.heap.size w w' ∧ (w'.cell? ⟨E, 0, none⟩ = some (.slice (pt d.k L.R) d.k (cp d.k L.rc)) ∧ w'.cell? ⟨E, 1, none⟩ = some (.bool d.off))) := fun W' hW => ((h.o1.below hW).off).mono fun e w' ⟨h1, h2⟩ => ⟨h1, h2 ▸ hW, h2 ▸ HS.out W' hW⟩
  have A2 : Hid (∀ W', Below w.heap.size w W' → Calls Try.prog 17 #[.pointer (some ⟨D, 0, none⟩), .int .i64 (-1)] W' fun e w' => e = .returned (.string ⟨#[]⟩) ∧ Below w.heap.size w w' ∧ (w'.cell? ⟨E, 0, none⟩ = some (.slice (pt d.k L.R) d.k (cp d.k L.rc)) ∧ w'.cell? ⟨E, 1, none⟩ = some (.bool d.off))) := fun W' hW => ((h.o1.below hW).image (-1)).mono fun e w' ⟨h1, h2⟩ => ⟨by rw [image_neg] at h1; exact h1, h2 ▸ hW, h2 ▸ HS.out W' hW⟩
  have A3 : Hid (∀ W', Below w.heap.size w W' → Calls Try.prog 15 #[.pointer (some ⟨D, 0, none⟩), .int .i64 (d.k : Int)] W' fun e w' => e = .returned (.int .i64 0) ∧ Below w.heap.size w w' ∧ (w'.cell? ⟨E, 0, none⟩ = some (.slice (pt d.k L.R) d.k (cp d.k L.rc)) ∧ w'.cell? ⟨E, 1, none⟩ = some (.bool d.off))) := fun W' hW => ((h.o1.below hW).sectors (d.k : Int)).mono fun e w' ⟨h1, h2⟩ => ⟨by rw [secs_past] at h1; exact h1, h2 ▸ hW, h2 ▸ HS.out W' hW⟩
  have hoo : (d.off == d.off) = true := by simp
  clear h l
  go_enter Try.func13, Try.ntmps13
  go_wp2
  go_loop [11] (fun iv => ∃ i : Nat, i ≤ d.k ∧ iv = .int .i64 (i : Int)) (fun iv => d.k - (intOf iv).toNat)
  case atStart => exact ⟨0, Nat.zero_le _, rfl⟩
  case round =>
    obtain ⟨i, hi, rfl⟩ := hrel
    by_cases hlt : i < d.k
    · have C1 := hid (S1.out (i : Int))
      have C2 := hid (S2.out (i : Int))
      have C3 := hid (I1.out (i : Int))
      have C4 := hid (I2.out (i : Int))
      generalize d.secs (i : Int) = sc at *
      generalize d.image (i : Int) = im at *
      go_wp2_with fail
      refine C1.out.mono ?_
      rintro e w3 ⟨rfl, rfl⟩
      go_wp2_with fail
      refine C2.out.mono ?_
      rintro e w3 ⟨rfl, rfl⟩
      go_wp2_with fail
      refine C3.out.mono ?_
      rintro e w3 ⟨rfl, rfl⟩
      go_wp2_with fail
      refine C4.out.mono ?_
      rintro e w3 ⟨rfl, rfl⟩
      go_wp2
      go_round
      case rel => exact ⟨i + 1, by omega, by go_num⟩
      case measure => simp [intOf] <;> omega
    · have hE : i = d.k := by omega
      have hS := HS.out w (Below.refl _ _)
      have hB : Below w.heap.size w w.drew := (Below.refl _ _).drew
      clear S1 S2 I1 I2 hE
      generalize d.off = of at *
      generalize d.k = dk at *
      go_wp2_with fail
      go_region_held3 (fun w' => w'.cell? ⟨E, 0, none⟩ = some (.slice (pt dk L.R) dk (cp dk L.rc)) ∧ w'.cell? ⟨E, 1, none⟩ = some (.bool of))
        (first | exact hS | go_keep)
        (first | (go_at_call 26; refine (A1.out _ hB).mono ?_; rintro e w1 ⟨rfl, hB, hS⟩) | (go_at_call 17; refine (A2.out _ hB).mono ?_; rintro e w1 ⟨rfl, hB, hS⟩) | (go_at_call 15; refine (A3.out _ hB).mono ?_; rintro e w1 ⟨rfl, hB, hS⟩))
      all_goals try go_wp2
      all_goals go_ret
      all_goals exact ⟨rfl, hB⟩

theorem infoI : (Try.prog.info? 3).map (fun i => (i.zero, i.size, i.bytes)) = some (some (.int .i64 0), 1, 8) := by kernel_rfl
/-- Sizes of at most thirty sectors. -/
def m30 (z : Nat → Int) : Nat → Int := fun j => min (z j) 30
def ic (z : Nat → Int) (k : Nat) : List Value := (List.range k).map fun j => .int .i64 (z j)
theorem ic_length (z : Nat → Int) (k : Nat) : (ic z k).length = k := by simp [ic]
theorem ic_get (z : Nat → Int) (k j : Nat) (h : j < k) : (ic z k)[j]? = some (.int .i64 (z j)) := by
  unfold ic
  rw [List.getElem?_map, List.getElem?_range h]
  rfl
theorem ic_succ (z : Nat → Int) (k : Nat) : ic z (k + 1) = ic z k ++ [.int .i64 (z k)] := by
  unfold ic
  rw [List.range_succ, List.map_append]
  rfl
/-- What sizes comes to. -/
def SzP (w : World) (z : Nat → Int) (k : Nat) (e : Ending) (w' : World) : Prop := ∃ ao cap, e = .returned (.slice ao k cap) ∧ k ≤ cap ∧ (∀ j, j < k → ∃ b o, ao = some ⟨b, o, none⟩ ∧ b < w'.heap.size ∧ w'.cell? ⟨b, o + j, none⟩ = some (.int .i64 (m30 z j))) ∧ Below w.heap.size w w'

set_option maxRecDepth 100000 in
set_option maxHeartbeats 1000000 in
theorem sizes (ao : Option Addr) (len cap : Nat) (z : Nat → Int) (w : World) (hcap : len ≤ cap) (hlen : len ≤ 140737488355328) (hc : ∀ j, j < len → ∃ b o, ao = some ⟨b, o, none⟩ ∧ b < w.heap.size ∧ w.cell? ⟨b, o + j, none⟩ = some (.int .i64 (z j))) :
    Calls Try.prog 10 #[.slice ao len cap, .int .i64 30] w fun e w' => SzP w z (min len 12) e w' := by
  obtain ⟨i0, hi0, hz0, hz1, hz2⟩ := info_parts infoI
  have k2 : min (len : Int) 12 = ((min len 12 : Nat) : Int) := by omega
  obtain ⟨k, hk⟩ : ∃ k, k = min len 12 := ⟨_, rfl⟩
  have hk12 : k ≤ 12 := by omega
  have hkl : k ≤ len := by omega
  rw [← hk] at k2 ⊢
  have HK := hid hk
  clear hk
  go_enter Try.func10, Try.ntmps10
  go_wp2
  go_loopw [5, 14] (fun v iv wr => ∃ j : Nat, j ≤ k ∧ iv = .int .i64 (j : Int) ∧ wr.ownsRow w.heap.size 3 1 v j (ic (m30 z) j) ∧ Below w.heap.size w wr) (fun _ iv _ => k - (intOf iv).toNat)
  case atStart => exact ⟨0, Nat.zero_le _, rfl, World.ownsRow_nil _ _ _ _, Below.refl _ _⟩
  case round =>
    obtain ⟨j, hj, rfl, hown, hbel⟩ := hrel
    by_cases hlt : j < k
    · obtain ⟨b, o, rfl, hb, hcl⟩ := hc j (by omega)
      have r1 := (hbel.cell (p := ⟨b, o + j, none⟩) (by exact hb)).trans hcl
      have hz := hbel.size
      have HB : Hid (ic (m30 z) (j + 1) = ic (m30 z) j ++ [.int .i64 (min (z j) 30)]) := ic_succ (m30 z) j
      clear hc hcl
      generalize z j = zj at *
      go_wp2_with (at_builtin; refine wpList_append_own _ rfl _ _ 22 rfl w.heap.size 3 i0 (.int .i64 0) 1 8 Try.underlying22 hi0 hz0 hz1 hz2 rfl (by decide) _ _ _ rfl (hown.alloc _) ⟨wr.heap.size, 0, none⟩ 1 1 [.int .i64 (min zj 30)] rfl rfl ?c1 ?c2 ?c3 ?c4 ?c5 ?_)
      case c1 =>
        intro q u hq
        match q, hq with
        | 0, hq => simp at hq; subst hq; simp [Addr.add]
      case c2 => intro u hu; simp at hu; subst hu; rfl
      case c3 => unfold maxLen; omega
      case c4 => omega
      case c5 => simp; omega
      · intro v' w2 hown2 hgrow _
        have hlt2 := hown.lt
        have B2 : Hid (Below w.heap.size w w2) := (hbel.alloc (by omega) _).grown hgrow (by simp; omega) fun k hk => (hlt2 k hk).1
        clear hown hgrow hlt2
        go_wp2
        go_roundw
        case rel => exact ⟨j + 1, by omega, by go_num, by rw [HB.out]; exact hown2, B2.out⟩
        case measure => simp [intOf] <;> omega
    · have hE : j = k := by omega
      subst hE
      rcases hown.2 with ⟨rfl, e2⟩ | ⟨g, cap', cur, rfl, e2, k1, k2', k3, k4, k5⟩
      · subst e2
        have B := hid hbel
        clear hown hbel hc
        go_wp2
        go_ret
        exact ⟨none, 0, rfl, Nat.le_refl _, fun j hj => absurd hj (by omega), B.out⟩
      · have P : Hid (∀ q, q < j → ∃ b o, some (⟨g, 0, none⟩ : Addr) = some ⟨b, o, none⟩ ∧ b < wr.heap.size ∧ wr.cell? ⟨b, o + q, none⟩ = some (.int .i64 (m30 z q))) := fun q hq => by
          refine ⟨g, 0, rfl, blk_lt k1, ?_⟩
          have h2 := ic_get (m30 z) j q hq
          rw [← k5, List.getElem?_take, if_pos (by omega)] at h2
          rw [Nat.zero_add]
          simp [World.cell?, k1, ← Array.getElem?_toList, h2]
        have B := hid hbel
        have hcc := hid k2'
        clear hown hbel hc k1 k3 k4 k5
        go_wp2
        go_ret
        exact ⟨_, _, rfl, hcc.out, P.out, B.out⟩

end Go.Proofs.Ytffhnkljmalbiaa.Wr
