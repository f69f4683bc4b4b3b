/-
  The walk of New.
-/
import Derived.Test.YtcnonioiggniiaaDkN
namespace Go.Proofs.Ytcnonioiggniiaa.Wd
open Go.ChangeShapes Go.WideShapes Go.ChangeAt Go.RowKit Go.Proofs.Ytcnonioiggniiaa.M

theorem own_below {w w' : World} {base e size n : Nat} {v : Value} {xs : List Value} (h : w.ownsRow base e size v n xs) (b : Below w.heap.size w w') : w'.ownsRow base e size v n xs :=
  h.kept (row := none) ⟨b.os, b.tape, b.output, b.size, fun k hk _ => b.block k hk⟩ (by cases v.ownBlock <;> simp)

set_option maxRecDepth 100000 in
set_option maxHeartbeats 1600000 in
theorem new (ao : Option Addr) (n cap : Nat) (z : Nat → Int) (w : World) (hn : n ≤ 140737488355328) (hcap : n ≤ cap) (hc : ∀ j, j < n → ∃ b o, ao = some ⟨b, o, none⟩ ∧ b < w.heap.size ∧ w.cell? ⟨b, o + j, none⟩ = some (.int .i64 (z j))) :
    Calls Try.prog 12 #[.slice ao n cap] w fun e w' => e = .returned (.pointer (some ⟨w.heap.size, 0, none⟩)) ∧ (∃ L, DkL w' w.heap.size (newD z (min n 8)) (Gr no w w') L) ∧ Below w.heap.size w w' := by
  obtain ⟨i0, hi0, hzz, hsz0, hby⟩ := info_parts info64z
  have m1 : (if 8 < (n : Int) then 8 else (n : Int)) = ((min n 8 : Nat) : Int) := by split <;> omega
  have m2 : min (n : Int) 8 = ((min n 8 : Nat) : Int) := by omega
  obtain ⟨k, hk⟩ : ∃ k, k = min n 8 := ⟨_, rfl⟩
  have hk8 : k ≤ 8 := by omega
  have hkn : k ≤ n := by omega
  rw [← hk] at m1 m2 ⊢
  have HK := hid hk
  have HS := hid (startD w z)
  clear hk
  go_enter Try.func12, Try.ntmps12
  go_wp2
  go_loopw [14] (fun iv wr => ∃ j : Nat, j ≤ k ∧ iv = .int .i64 (j : Int) ∧ ∃ L, DkL wr w.heap.size (newD z j) (Gr no w wr) L ∧ L.rc ≤ maxLen ∧ Below w.heap.size w wr) (fun iv _ => k - (intOf iv).toNat)
  case atStart => exact ⟨0, Nat.zero_le _, rfl, _, HS.out, Nat.zero_le _, (Below.refl _ _).alloc (Nat.le_refl _) _⟩
  case round =>
    obtain ⟨j, hj, rfl, L, hd, hrc, hbel⟩ := hrel
    by_cases hlt : j < k
    · obtain ⟨b, o, rfl, hb, hcl⟩ := hc j (by omega)
      have r1 := (hbel.cell (p := ⟨b, o + j, none⟩) (by exact hb)).trans hcl
      obtain ⟨xs, hox, hxs⟩ := hd.ownR2 hrc
      have hxl : xs.length = j * 2 := hox.1
      have rD : Hid (∀ W, Below wr.heap.size wr W → W.cell? ⟨w.heap.size, 0, none⟩ = some (.slice (pt j L.R) j (cp j L.rc))) := fun W hW => (hW.cell (hd.lt _ hd.ownD)).trans hd.cD.1
      have rD0 := rD.out wr (Below.refl _ _)
      have CN := hid (newRegion (z j) wr.drew)
      have OWN : Hid (∀ W o, Below wr.heap.size wr W → (World.alloc W o).ownsRow 0 70 2 (.slice (pt j L.R) j (cp j L.rc)) j xs) := fun W o hW => World.ownsRow.alloc (own_below hox hW) o
      have FIN := hid (fun (w1 w3 : World) (g cap : Nat) (o : Obj) (bw : Below wr.heap.size wr w1) (hbb : w1.heap[wr.heap.size + 1]? = some (.cells (lc (fun _ => noB) (szN (z j))).toArray 5 (0, 0))) own3 gr3 hg3 hlt3 => new_end (w3 := w3) (g := g) (cap := cap) (o := o) hd rfl hbel (by omega) hxs hxl bw (by omega : wr.heap.size ≤ wr.heap.size + 1) hbb own3 gr3 hg3 hlt3)
      clear hox hxs hd hc hcl
      generalize z j = zj at *
      unfold lv at CN FIN
      go_wp2_with fail
      refine wp_region_any (by kernel_rfl) ?_
      change wpAny _ _ _ _ _ _ _ (World.drew _)
      refine wpAny_take (i := 0) (v := .pointer (some ⟨w.heap.size, 0, none⟩)) rfl (by kernel_rfl) (by kernel_rfl) (by kernel_rfl) (fun _ _ _ h => h) (Or.inl ⟨by rfl, fun w => by go_simp⟩) ?_
      refine wpAny_take (i := 1) (v := .pointer (some ⟨w.heap.size, 0, none⟩)) rfl (by kernel_rfl) (by kernel_rfl) (by kernel_rfl) (fun _ _ _ h => h) (Or.inl ⟨by rfl, fun w => by go_simp⟩) ?_
      refine wpAny_take (i := 2) (v := .pointer (some ⟨w.heap.size, 0, none⟩)) rfl (by kernel_rfl) (by kernel_rfl) (by kernel_rfl) (fun _ _ _ h => h) (Or.inl ⟨by rfl, fun w => by go_simp⟩) ?_
      refine wpAny_take (i := 3) (v := .pointer (some ⟨w.heap.size, 0, none⟩)) rfl (by kernel_rfl) (by kernel_rfl) (by kernel_rfl) (fun _ _ _ h => h) (Or.inl ⟨by rfl, fun w => by go_simp⟩) ?_
      refine wpAny_take (i := 5) (v := .int .i64 zj) rfl (by kernel_rfl) (by kernel_rfl) (by kernel_rfl) (fun _ _ _ h => h) (Or.inl ⟨by rfl, fun w => by go_simp⟩) ?_
      refine wpAny_ready (rs := [4, 6]) (by kernel_rfl) (by simp) ?_
      refine AllReady.cons rfl (fun K hK => ?_) (AllReady.cons rfl (fun K hK => ?_) AllReady.nil)
      · go_simp
        refine hK _ _ ?_
        clear hK K
        refine wpAny_ready (rs := [6]) (by kernel_rfl) (by simp) ?_
        refine AllReady.cons rfl (fun K hK => ?_) AllReady.nil
        go_simp
        refine CN.out.mono ?_
        rintro e w1 ⟨rfl, hbb, b0⟩
        have b1 := (Below.refl wr.heap.size wr).drew.trans b0
        have rD1 := rD.out w1 b1
        have HB := hid (And.intro hbb b1)
        clear hbb b0 b1
        try dsimp only
        refine hK _ _ ?_
        clear hK K
        refine wpAny_ready (rs := [7]) (by kernel_rfl) (by simp) ?_
        refine AllReady.cons rfl (fun K hK => ?_) AllReady.nil
        go_simp
        refine hK _ _ ?_
        clear hK K
        refine wpAny_ready (rs := [8]) (by kernel_rfl) (by simp) ?_
        refine AllReady.cons rfl (fun K hK => ?_) AllReady.nil
        refine step_append_lies _ rfl (.tmp 22) (.tmp 25) 61 rfl 0 70 i0 (.agg #[.slice none 0 0, .slice none 0 0]) 2 48 Try.underlying61 hi0 hzz hsz0 hby rfl (by decide) _ _ _ rfl (OWN.out _ _ HB.out.2) ⟨w1.heap.size, 0, none⟩ 1 1 [.slice (some ⟨wr.heap.size + 1, 0, none⟩) (64 * szN zj) (64 * szN zj), .slice none 0 0] rfl rfl (World.news_of_block (heap_alloc_last w1 _)) (by intro u hu; simp at hu; rcases hu with rfl | rfl <;> rfl) (by decide) (by unfold maxLen; omega) (by omega) (Nat.zero_le _) (w1.heap.size + 1) (by simp) ?_
        intro g cap w3 own3 gr3 hg3 hlt3
        obtain ⟨⟨f1, f2⟩, f3⟩ := FIN.out w1 w3 g cap _ HB.out.2 HB.out.1 own3 gr3 hg3 hlt3
        have F3 := hid f3
        clear f3 own3 gr3 hg3 hlt3
        refine hK _ _ ?_
        clear hK K
        refine wpAny_take (i := 9) (v := .pointer (some ⟨w.heap.size, 0, none⟩)) rfl (by kernel_rfl) (by kernel_rfl) (by kernel_rfl) (fun _ _ _ h => h) (Or.inl ⟨by rfl, fun w => by go_simp⟩) ?_
        refine wpAny_take (i := 10) (v := .pointer (some ⟨w.heap.size, 0, none⟩)) rfl (by kernel_rfl) (by kernel_rfl) (by kernel_rfl) (fun _ _ _ h => h) (Or.inl ⟨by rfl, fun w => by go_simp⟩) ?_
        refine wpAny_ready (rs := [11]) (by kernel_rfl) (by simp) ?_
        refine AllReady.cons rfl (fun K hK => ?_) AllReady.nil
        go_simp
        refine hK _ _ ?_
        clear hK K
        refine wpAny_done (by kernel_rfl) ?_ _
        go_wp2
        go_roundw
        case rel => exact ⟨j + 1, by omega, by go_num, F3.out⟩
        case measure => simp [intOf] <;> omega
      · go_simp
        refine CN.out.mono ?_
        rintro e w1 ⟨rfl, hbb, b0⟩
        have b1 := (Below.refl wr.heap.size wr).drew.trans b0
        have rD1 := rD.out w1 b1
        have HB := hid (And.intro hbb b1)
        clear hbb b0 b1
        try dsimp only
        refine hK _ _ ?_
        clear hK K
        refine wpAny_ready (rs := [4, 7]) (by kernel_rfl) (by simp) ?_
        refine AllReady.cons rfl (fun K hK => ?_) (AllReady.cons rfl (fun K hK => ?_) AllReady.nil)
        · go_simp
          refine hK _ _ ?_
          clear hK K
          refine wpAny_ready (rs := [7]) (by kernel_rfl) (by simp) ?_
          refine AllReady.cons rfl (fun K hK => ?_) AllReady.nil
          go_simp
          refine hK _ _ ?_
          clear hK K
          refine wpAny_ready (rs := [8]) (by kernel_rfl) (by simp) ?_
          refine AllReady.cons rfl (fun K hK => ?_) AllReady.nil
          refine step_append_lies _ rfl (.tmp 22) (.tmp 25) 61 rfl 0 70 i0 (.agg #[.slice none 0 0, .slice none 0 0]) 2 48 Try.underlying61 hi0 hzz hsz0 hby rfl (by decide) _ _ _ rfl (OWN.out _ _ HB.out.2) ⟨w1.heap.size, 0, none⟩ 1 1 [.slice (some ⟨wr.heap.size + 1, 0, none⟩) (64 * szN zj) (64 * szN zj), .slice none 0 0] rfl rfl (World.news_of_block (heap_alloc_last w1 _)) (by intro u hu; simp at hu; rcases hu with rfl | rfl <;> rfl) (by decide) (by unfold maxLen; omega) (by omega) (Nat.zero_le _) (w1.heap.size + 1) (by simp) ?_
          intro g cap w3 own3 gr3 hg3 hlt3
          obtain ⟨⟨f1, f2⟩, f3⟩ := FIN.out w1 w3 g cap _ HB.out.2 HB.out.1 own3 gr3 hg3 hlt3
          have F3 := hid f3
          clear f3 own3 gr3 hg3 hlt3
          refine hK _ _ ?_
          clear hK K
          refine wpAny_take (i := 9) (v := .pointer (some ⟨w.heap.size, 0, none⟩)) rfl (by kernel_rfl) (by kernel_rfl) (by kernel_rfl) (fun _ _ _ h => h) (Or.inl ⟨by rfl, fun w => by go_simp⟩) ?_
          refine wpAny_take (i := 10) (v := .pointer (some ⟨w.heap.size, 0, none⟩)) rfl (by kernel_rfl) (by kernel_rfl) (by kernel_rfl) (fun _ _ _ h => h) (Or.inl ⟨by rfl, fun w => by go_simp⟩) ?_
          refine wpAny_ready (rs := [11]) (by kernel_rfl) (by simp) ?_
          refine AllReady.cons rfl (fun K hK => ?_) AllReady.nil
          go_simp
          refine hK _ _ ?_
          clear hK K
          refine wpAny_done (by kernel_rfl) ?_ _
          go_wp2
          go_roundw
          case rel => exact ⟨j + 1, by omega, by go_num, F3.out⟩
          case measure => simp [intOf] <;> omega
        · go_simp
          refine hK _ _ ?_
          clear hK K
          have rD2 : (w1.alloc (.cells #[.slice (some ⟨wr.heap.size + 1, 0, none⟩) (64 * szN zj) (64 * szN zj), .slice none 0 0] 70)).cell? ⟨w.heap.size, 0, none⟩ = _ := rD.out _ (HB.out.2.alloc HB.out.2.size _)
          refine wpAny_ready (rs := [4]) (by kernel_rfl) (by simp) ?_
          refine AllReady.cons rfl (fun K hK => ?_) AllReady.nil
          go_simp
          refine hK _ _ ?_
          clear hK K
          refine wpAny_ready (rs := [8]) (by kernel_rfl) (by simp) ?_
          refine AllReady.cons rfl (fun K hK => ?_) AllReady.nil
          refine step_append_lies _ rfl (.tmp 22) (.tmp 25) 61 rfl 0 70 i0 (.agg #[.slice none 0 0, .slice none 0 0]) 2 48 Try.underlying61 hi0 hzz hsz0 hby rfl (by decide) _ _ _ rfl (OWN.out _ _ HB.out.2) ⟨w1.heap.size, 0, none⟩ 1 1 [.slice (some ⟨wr.heap.size + 1, 0, none⟩) (64 * szN zj) (64 * szN zj), .slice none 0 0] rfl rfl (World.news_of_block (heap_alloc_last w1 _)) (by intro u hu; simp at hu; rcases hu with rfl | rfl <;> rfl) (by decide) (by unfold maxLen; omega) (by omega) (Nat.zero_le _) (w1.heap.size + 1) (by simp) ?_
          intro g cap w3 own3 gr3 hg3 hlt3
          obtain ⟨⟨f1, f2⟩, f3⟩ := FIN.out w1 w3 g cap _ HB.out.2 HB.out.1 own3 gr3 hg3 hlt3
          have F3 := hid f3
          clear f3 own3 gr3 hg3 hlt3
          refine hK _ _ ?_
          clear hK K
          refine wpAny_take (i := 9) (v := .pointer (some ⟨w.heap.size, 0, none⟩)) rfl (by kernel_rfl) (by kernel_rfl) (by kernel_rfl) (fun _ _ _ h => h) (Or.inl ⟨by rfl, fun w => by go_simp⟩) ?_
          refine wpAny_take (i := 10) (v := .pointer (some ⟨w.heap.size, 0, none⟩)) rfl (by kernel_rfl) (by kernel_rfl) (by kernel_rfl) (fun _ _ _ h => h) (Or.inl ⟨by rfl, fun w => by go_simp⟩) ?_
          refine wpAny_ready (rs := [11]) (by kernel_rfl) (by simp) ?_
          refine AllReady.cons rfl (fun K hK => ?_) AllReady.nil
          go_simp
          refine hK _ _ ?_
          clear hK K
          refine wpAny_done (by kernel_rfl) ?_ _
          go_wp2
          go_roundw
          case rel => exact ⟨j + 1, by omega, by go_num, F3.out⟩
          case measure => simp [intOf] <;> omega
    · have hE : j = k := by omega
      subst hE
      have HD := hid (show (∃ L, DkL wr w.heap.size (newD z j) (Gr no w wr) L) ∧ Below w.heap.size w wr from ⟨⟨L, hd⟩, hbel⟩)
      clear hd hbel hrc hc
      go_wp2
      go_ret
      exact ⟨rfl, HD.out⟩

end Go.Proofs.Ytcnonioiggniiaa.Wd
