/-
  The walks of the law's same and sizes.
-/
import Derived.Test.YthmholgfnjpgbaaGreatLawP1
import Derived.Test.YthmholgfnjpgbaaGreatRa
namespace Go.Proofs.YthmholgfnjpgbaaGreat.Wr
open Go.ChangeShapes Go.WideShapes Go.ChangeAt Go.RowKit Go.Proofs.YthmholgfnjpgbaaGreat.M Go.Proofs.YthmholgfnjpgbaaGreat.Wd Go.Proofs.YthmholgfnjpgbaaGreat.Wv

theorem image_neg (d : Dk) : d.image (-1) = ⟨#[]⟩ := if_neg (by rw [has_iff]; omega)
theorem secs_past (d : Dk) : d.secs (d.k : Int) = 0 := if_neg (by rw [has_iff]; omega)

set_option maxRecDepth 100000 in
set_option maxHeartbeats 1000000 in
theorem same {W w : World} {D E : Nat} {d : Dk} {F G : Nat → Prop} (h : Du W w D E d d F G) :
    Calls Tryz.prog 12 #[.pointer (some ⟨D, 0, none⟩), .pointer (some ⟨E, 0, none⟩)] w fun e w' => e = .returned (.bool true) ∧ Below w.heap.size w w' := by
  obtain ⟨L, l⟩ := h.r
  obtain ⟨c1, c2, _⟩ := l.cD
  have hk8 := l.ok.k
  have S1 := hid (fun a => h.o1.sectors a)
  have I1 := hid (fun a => h.o1.image a)
  have S2 := hid (fun a => sectorsR l a)
  have I2 := hid (fun a => imageR l a)
  have HS : Hid (∀ W', Below w.heap.size w W' → W'.cell? ⟨E, 0, none⟩ = some (.slice (pt d.k L.R) d.k (cp d.k L.rc)) ∧ W'.cell? ⟨E, 1, none⟩ = some (.bool d.off)) := fun W' hW => ⟨(hW.cell (l.lt _ l.ownD)).trans c1, (hW.cell (l.lt _ l.ownD)).trans c2⟩
  have A1 : Hid (∀ W', Below w.heap.size w W' → Calls Tryz.prog 34 #[.pointer (some ⟨D, 0, none⟩)] W' fun e w' => e = .returned (.bool d.off) ∧ Below w.heap.size w w' ∧ (w'.cell? ⟨E, 0, none⟩ = some (.slice (pt d.k L.R) d.k (cp d.k L.rc)) ∧ w'.cell? ⟨E, 1, none⟩ = some (.bool d.off))) := fun W' hW => ((h.o1.below hW).off).mono fun e w' ⟨h1, h2⟩ => ⟨h1, h2 ▸ hW, h2 ▸ HS.out W' hW⟩
  have A2 : Hid (∀ W', Below w.heap.size w W' → Calls Tryz.prog 32 #[.pointer (some ⟨D, 0, none⟩), .int .i64 (-1)] W' fun e w' => e = .returned (.string ⟨#[]⟩) ∧ Below w.heap.size w w' ∧ (w'.cell? ⟨E, 0, none⟩ = some (.slice (pt d.k L.R) d.k (cp d.k L.rc)) ∧ w'.cell? ⟨E, 1, none⟩ = some (.bool d.off))) := fun W' hW => ((h.o1.below hW).image (-1)).mono fun e w' ⟨h1, h2⟩ => ⟨by rw [image_neg] at h1; exact h1, h2 ▸ hW, h2 ▸ HS.out W' hW⟩
  have A3 : Hid (∀ W', Below w.heap.size w W' → Calls Tryz.prog 25 #[.pointer (some ⟨D, 0, none⟩), .int .i64 (d.k : Int)] W' fun e w' => e = .returned (.int .i64 0) ∧ Below w.heap.size w w' ∧ (w'.cell? ⟨E, 0, none⟩ = some (.slice (pt d.k L.R) d.k (cp d.k L.rc)) ∧ w'.cell? ⟨E, 1, none⟩ = some (.bool d.off))) := fun W' hW => ((h.o1.below hW).sectors (d.k : Int)).mono fun e w' ⟨h1, h2⟩ => ⟨by rw [secs_past] at h1; exact h1, h2 ▸ hW, h2 ▸ HS.out W' hW⟩
  have hoo : (d.off == d.off) = true := by simp
  clear h l
  go_enter Tryz.func12, Tryz.ntmps12
  go_wp2
  go_loop [11] (fun iv => ∃ i : Nat, i ≤ d.k ∧ iv = .int .i64 (i : Int)) (fun iv => d.k - (intOf iv).toNat)
  case atStart => exact ⟨0, Nat.zero_le _, rfl⟩
  case round =>
    obtain ⟨i, hi, rfl⟩ := hrel
    by_cases hlt : i < d.k
    · have C1 := hid (S1.out (i : Int))
      have C2 := hid (S2.out (i : Int))
      have C3 := hid (I1.out (i : Int))
      have C4 := hid (I2.out (i : Int))
      generalize d.secs (i : Int) = sc at *
      generalize d.image (i : Int) = im at *
      go_wp2_with fail
      refine C1.out.mono ?_
      rintro e w3 ⟨rfl, rfl⟩
      go_wp2_with fail
      refine C2.out.mono ?_
      rintro e w3 ⟨rfl, rfl⟩
      go_wp2_with fail
      refine C3.out.mono ?_
      rintro e w3 ⟨rfl, rfl⟩
      go_wp2_with fail
      refine C4.out.mono ?_
      rintro e w3 ⟨rfl, rfl⟩
      go_wp2
      go_round
      case rel => exact ⟨i + 1, by omega, by go_num⟩
      case measure => simp [intOf] <;> omega
    · have hE : i = d.k := by omega
      have hS := HS.out w (Below.refl _ _)
      have hB : Below w.heap.size w w.drew := (Below.refl _ _).drew
      clear S1 S2 I1 I2 hE
      generalize d.off = of at *
      generalize d.k = dk at *
      go_wp2_with fail
      go_region_held3 (fun w' => w'.cell? ⟨E, 0, none⟩ = some (.slice (pt dk L.R) dk (cp dk L.rc)) ∧ w'.cell? ⟨E, 1, none⟩ = some (.bool of))
        (first | exact hS | go_keep)
        (first | (go_at_call 34; refine (A1.out _ hB).mono ?_; rintro e w1 ⟨rfl, hB, hS⟩) | (go_at_call 32; refine (A2.out _ hB).mono ?_; rintro e w1 ⟨rfl, hB, hS⟩) | (go_at_call 25; refine (A3.out _ hB).mono ?_; rintro e w1 ⟨rfl, hB, hS⟩))
      all_goals try go_wp2
      all_goals go_ret
      all_goals exact ⟨rfl, hB⟩

theorem infoI : (Tryz.prog.info? 3).map (fun i => (i.zero, i.size, i.bytes)) = some (some (.int .i64 0), 1, 8) := by kernel_rfl
/-- Sizes of at most thirty sectors. -/
def m30 (z : Nat → Int) : Nat → Int := fun j => min (z j) 30
def ic (z : Nat → Int) (k : Nat) : List Value := (List.range k).map fun j => .int .i64 (z j)
theorem ic_length (z : Nat → Int) (k : Nat) : (ic z k).length = k := by simp [ic]
theorem ic_get (z : Nat → Int) (k j : Nat) (h : j < k) : (ic z k)[j]? = some (.int .i64 (z j)) := by
  unfold ic
  rw [List.getElem?_map, List.getElem?_range h]
  rfl
theorem ic_succ (z : Nat → Int) (k : Nat) : ic z (k + 1) = ic z k ++ [.int .i64 (z k)] := by
  unfold ic
  rw [List.range_succ, List.map_append]
  rfl
/-- What sizes comes to. -/
def SzP (w : World) (z : Nat → Int) (k : Nat) (e : Ending) (w' : World) : Prop := ∃ ao cap, e = .returned (.slice ao k cap) ∧ k ≤ cap ∧ (∀ j, j < k → ∃ b o, ao = some ⟨b, o, none⟩ ∧ b < w'.heap.size ∧ w'.cell? ⟨b, o + j, none⟩ = some (.int .i64 (m30 z j))) ∧ Below w.heap.size w w'

end Go.Proofs.YthmholgfnjpgbaaGreat.Wr
