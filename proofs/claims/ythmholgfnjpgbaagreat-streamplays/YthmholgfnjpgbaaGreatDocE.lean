/-
  The walk of the document's Append: a record more, or the error that it names. Conditions: the stream and its disk lie in memory, as 'Sw' says; the stream's records are such as have frames; its generation is at least 1.
-/
import Derived.Test.YthmholgfnjpgbaaGreatDocD
import Derived.Test.YthmholgfnjpgbaaGreatSmH
namespace Go.Proofs.YthmholgfnjpgbaaGreat.Wdc
open Go.ChangeShapes Go.WideShapes Go.ChangeAt Go.RowKit Go.Proofs.YthmholgfnjpgbaaGreat.M Go.Proofs.YthmholgfnjpgbaaGreat.Wd Go.Proofs.YthmholgfnjpgbaaGreat.Wst

/-- Cells from an index on. -/
theorem ap_from {w : World} {G : Nat → Prop} {T : Nat} {p : Option Addr} {n f : Nat} {c c2 : Nat → ByteArray} (h : Ap w G T p n c) (hf : f < n) (hc : ∀ j, c (f + j) = c2 j) : ∃ g o, p = some ⟨g, o, none⟩ ∧ Ap w G T (some ⟨g, o + f, none⟩) (n - f) c2 := by
  rcases h with h | ⟨b, off, q1, q2, q3, q4, q5⟩
  · omega
  · refine ⟨b, off, q1, .inr ⟨b, off + f, rfl, q2, q3, q4, fun j hj => ?_⟩⟩
    rw [Nat.add_assoc, q5 (f + j) (by omega), hc]

set_option maxRecDepth 100000 in
set_option maxHeartbeats 1600000 in
theorem append {w : World} {T E : Nat} {s : Sm} {d : Dk} {G : Nat → Prop} {v : Value} {L : Wr.Lr} (h : Wr.RkL w E d G L) (hT : Rs w T E s G v) (hR : Row w G T v s.L) (hs : Sw d s) (h1 : 1 ≤ s.g) (hF : Framable s.L) (hq : ∀ j, j < d.k → (d.r j).q.length ≤ 1000000) (b : ByteArray) (hb : b.size ≤ maxLen) :
    Calls Tryz.prog 17 #[.pointer (some ⟨T, 0, none⟩), .string b] w fun e w' => RcP G T E v (s.apS b d) (s.apX b d) (s.apD b d) w e w' := by
  obtain ⟨i0, hi0, hz0, hz1, hz2⟩ := info_parts infoS
  have k6 := hT.cell (i := 6) (u := .bool s.br) rfl
  by_cases c0 : s.br = true
  · have hE : s.apE b = 13 := if_pos c0
    obtain ⟨e1, e2, e3⟩ := ap_err (d := d) (show ¬ s.apE b = 0 by rw [hE]; decide)
    rw [e1, e2, e3, hE]
    rw [c0] at k6
    have RES := hid (RcP.same h hT hR (Below.refl _ _) 13)
    clear h hT hR hs e1 e2 e3 hE c0 hF
    go_enter Tryz.func17, Tryz.ntmps17
    go_wp2
    go_ret
    exact RES.out
  · have hbr : s.br = false := by simpa using c0
    rw [hbr] at k6
    have CF := hid (Wf.putRef b w hb)
    by_cases c1 : frE b = 0
    · have hE : s.apE b = if s.left < ((fr b).size : Int) then 12 else 0 := by unfold Sm.apE; rw [if_neg c0, if_pos c1]
      have hf := (fr_ok (b := b) (fun e => by have := frE_ok.1 c1; omega) (fun e => by have := frE_ok.1 c1; omega)).2
      have hfs := fr_size b
      obtain ⟨hb1, hb2⟩ := frE_ok.1 c1
      rw [c1, hf] at CF
      have CL : Hid (∀ W, Below w.heap.size w W → Calls Tryz.prog 19 #[.pointer (some ⟨T, 0, none⟩)] W fun e w' => e = .returned (.int .i64 s.left) ∧ Below W.heap.size W w') := fun W hW => left (h.below hW) (hT.below hW) (hR.kept (fun k hk _ => hW.block k hk) (fun _ c => .inl c)) hs hF
      by_cases c2 : s.left < ((fr b).size : Int)
      · rw [if_pos c2] at hE
        obtain ⟨e1, e2, e3⟩ := ap_err (d := d) (show ¬ s.apE b = 0 by rw [hE]; decide)
        rw [e1, e2, e3, hE]
        have RES := hid fun W hW => RcP.same (w' := W) h hT hR hW 12
        clear h hT hR hs e1 e2 e3 hE c0 hf hF
        generalize s.left = LF at *
        generalize fr b = f at *
        go_enter Tryz.func17, Tryz.ntmps17
        go_wp2_with fail
        refine CF.out.mono ?_
        rintro e w1 ⟨rfl, b1⟩
        go_wp2_with fail
        refine (CL.out _ b1).mono ?_
        rintro e w2 ⟨rfl, b2⟩
        have R := hid (RES.out w2 (b1.trans (b2.mono b1.size)))
        go_wp2
        go_ret
        exact R.out
      · rw [if_neg c2] at hE
        have hX : s.apX b d = layX s.i (apA s.h s.half s.L) (apC s.g s.L b) 0 (apN s.L b) d := if_pos hE
        have hD : s.apD b d = layD s.i (apA s.h s.half s.L) (apC s.g s.L b) 0 (apN s.L b) d := if_pos hE
        have hSS : s.apS b d = if s.apX b d = 0 then { s with L := s.L ++ [b] } else { s with br := true } := if_pos hE
        have hcap := hs.cap
        have hn := (h.ok.r s.i hs.hi).n
        have hh : s.h ≤ 2047 := by rw [hs.h]; omega
        have hg := hs.g
        have hhf := hs.half
        have hfit : (frs s.L).size + (fr b).size + 1 ≤ 55 * s.h := by unfold Sm.left at c2; omega
        obtain ⟨va, vc, hv, hv1, hv2, li⟩ := hR.at_
        have hlen := len_le_frs s.L
        have HV := hid hv
        have CR : Hid (∀ W, Below w.heap.size w W → Calls Tryz.prog 43 #[.slice va s.L.length vc] W fun e w' => e = .returned (.tuple #[.string (frs s.L), .int .i64 0]) ∧ Below W.heap.size W w') := fun W hW => by
          obtain ⟨va2, vc2, hv2, _, _, li2⟩ := (hR.kept (w' := W) (G' := G) (fun k hk _ => hW.block k hk) (fun _ c => .inl c)).at_
          rw [hv] at hv2
          injection hv2 with e1 e2 e3
          rw [e1, e3]
          exact own_frames hF (by omega) li2
        have eA : 1 + (s.half : Int) * (s.h : Int) + (((frs s.L).size / 55 : Nat) : Int) = (apA s.h s.half s.L : Int) := by
          unfold apA
          push_cast
          rfl
        obtain ⟨m, hm⟩ : ∃ m, m = (frs s.L ++ fr b).size / 55 + 1 := ⟨_, rfl⟩
        have hsz : (frs s.L ++ fr b).size = (frs s.L).size + (fr b).size := size_app _ _
        obtain ⟨q, hqq⟩ : ∃ q, q = (frs s.L).size / 55 := ⟨_, rfl⟩
        have m5 : m ≤ 5000 := by omega
        have qm : q < m := by omega
        have eN : m - q = apN s.L b := by
          unfold apN
          rw [hm, hqq, frs_snoc]
        have eC : ∀ j, sp s.g 0 (frs s.L ++ fr b) (q + j) = apC s.g s.L b j := fun j => by
          unfold apC
          rw [frs_snoc, hqq]
        have SPL := hid fun W => War.splitRef s.g 0 (frs s.L ++ fr b) W (by omega)
        have sOk : sE s.g 0 (frs s.L ++ fr b) = 0 ∧ sN s.g 0 (frs s.L ++ fr b) = (frs s.L ++ fr b).size / 55 + 1 := War.s_ok ⟨by omega, by omega, by omega, by omega⟩ (by omega)
        rw [sOk.1, sOk.2, ← hm] at SPL
        have GET := hid fun j (hj : j < m) => spv_get s.g 0 (frs s.L ++ fr b) (n := m) (j := j) hj
        generalize spv s.g 0 (frs s.L ++ fr b) m = xs at SPL GET
        have glt := h.lt
        have tlt := hT.lt
        have OA : Hid (∀ (V W : World) (u : Value), w.heap.size ≤ V.heap.size → W.ownsRow V.heap.size 9 1 u m xs → ∃ g o c, u = .slice (some ⟨g, o, none⟩) m c ∧ m ≤ c ∧ Ap W G T (some ⟨g, o + q, none⟩) (m - q) (apC s.g s.L b)) := fun V W u hV own => by
          obtain ⟨p2, cap2, rfl, k1, k2, hA2⟩ := own_ap (S := T) (F := G) own GET.out (fun b hb => by have := glt b hb; omega) (by omega)
          obtain ⟨g, o, rfl, hA3⟩ := ap_from hA2 qm eC
          exact ⟨g, o, cap2, rfl, k1, hA3⟩
        have LAY : Hid (∀ (W : World) p cap, Below w.heap.size w W → Ap W G T p (m - q) (apC s.g s.L b) → Calls Tryz.prog 45 #[.pointer (some ⟨T, 0, none⟩), .int .i64 (s.half : Int), .int .i64 (q : Int), .slice p (m - q) cap] W fun e w' => e = .returned (.int .i64 (s.apX b d)) ∧ Hid (LaP G T E s v (s.apX b d) (s.apD b d) w e w')) := fun W p cap hW hA => by
          have C := lay (h.below hW) (hT.below hW) hq s.half (apA s.h s.half s.L) (m - q) (q : Int) hhf hh (by rw [hqq]; exact eA) ⟨by omega, by omega⟩ (by omega) p cap _ hA
          rw [eN, ← hX, ← hD, ← eN] at C
          exact C.mono fun e w' hw => ⟨hw.1, hw.pull hW tlt⟩
        have FAIL := hid fun X Y e w1 (hw : LaP G T E s v X Y w e w1) => rc_fail hR hw
        have PUSH := hid fun Y e w1 w2 o g cap (hw : LaP G T E s v 0 Y w e w1) own2 gr hg => rc_push (s2 := { s with L := s.L ++ [b] }) (w2 := w2) (o := o) (g := g) (cap := cap) hR hw own2 gr hg rfl
        have HS0 : Hid (s.apX b d = 0 → s.apS b d = { s with L := s.L ++ [b] }) := fun e => by rw [hSS, if_pos e]
        have HS1 : Hid (¬ s.apX b d = 0 → s.apS b d = { s with br := true }) := fun e => by rw [hSS, if_neg e]
        have ROW : Hid (∀ Y e w1 o, LaP G T E s v 0 Y w e w1 → (w1.alloc o).ownsRow 0 9 1 v s.L.length (rcv s.L)) := fun Y e w1 o hw => by
          have := (hR.kept (w' := w1) (G' := Gr G w w1) (fun k hk c => hw.2.2.2.block k hk (hR.ap k c).1) (fun k c => c.imp id fun c => c.1)).own
          exact World.ownsRow.alloc this o
        have K : Hid (∀ W, Below w.heap.size w W → W.cell? ⟨T, 5, none⟩ = some (.slice va s.L.length vc) ∧ W.cell? ⟨T, 3, none⟩ = some (.int .i64 s.g) ∧ W.cell? ⟨T, 4, none⟩ = some (.int .i64 (s.half : Int))) := fun W hW => ⟨by rw [← hv]; exact (hT.below hW).cell (i := 5) rfl, (hT.below hW).cell (i := 3) rfl, (hT.below hW).cell (i := 4) rfl⟩
        have hqi : ((frs s.L).size : Int) / 55 = (q : Int) := by omega
        have hln : s.L.length ≤ 120000 := by omega
        have hl1 : (frs s.L).size ≤ 120000 := by omega
        have hl3 : (fr b).size ≤ 5000 := by omega
        clear h hT hR hs hE c0 hf hF hX hD hSS eC eN eA hcap hq hn hm sOk glt GET hv li hlen hqq hfit hsz hfs hb1 hb2
        generalize s.apX b d = AX at *
        generalize s.apD b d = AD at *
        generalize s.apS b d = AS at *
        generalize s.left = LF at *
        generalize apC s.g s.L b = C at *
        generalize frs s.L = z at *
        generalize fr b = f at *
        have hcat : ∀ u, (Op.stringOp .add z f).run Tryz.prog u = .ok (.string (z ++ f)) u := fun u => run_string_add_sum u z f (by omega)
        go_enter Tryz.func17, Tryz.ntmps17
        go_wp2_with fail
        refine CF.out.mono ?_
        rintro e w1 ⟨rfl, b1⟩
        go_wp2_with fail
        refine (CL.out _ b1).mono ?_
        rintro e w2 ⟨rfl, b2⟩
        have B2 := b1.trans (b2.mono b1.size)
        obtain ⟨k5, k3, k4⟩ := K.out w2 B2
        have CR2 := hid (CR.out w2 B2)
        clear b1 b2 CL CF CR k3 k4
        go_wp2_with fail
        refine CR2.out.mono ?_
        rintro e w3 ⟨rfl, b3⟩
        have B3 := B2.trans (b3.mono B2.size)
        obtain ⟨_, k3, k4⟩ := K.out w3 B3
        clear b3 B2 k5 CR2
        have SP1 := hid (SPL.out w3)
        go_wp2_with fail
        refine SP1.out.mono ?_
        rintro e w4 ⟨u, rfl, own, b4⟩
        have B4 := B3.trans (b4.mono B3.size)
        obtain ⟨gp, op, cp, rfl, hcp, hA⟩ := OA.out w3 w4 u B3.size own
        obtain ⟨_, _, k4⟩ := K.out w4 B4
        have hcut := cut_from gp op m cp q (q : Int) rfl qm hcp
        have LY : Hid (Calls Tryz.prog 45 #[.pointer (some ⟨T, 0, none⟩), .int .i64 (s.half : Int), .int .i64 (q : Int), .slice (some ⟨gp, op + q, none⟩) (m - q) (cp - q)] w4.drew fun e w' => e = .returned (.int .i64 AX) ∧ Hid (LaP G T E s v AX AD w e w') ∧ w'.cell? ⟨T, 4, none⟩ = some (.int .i64 (s.half : Int))) := by
          refine (LAY.out w4.drew _ (cp - q) B4.drew (hA.below (Below.refl _ _).drew)).mono fun e w' hw => ⟨hw.1, hw.2, hw.2.out.2.2.1.cell (i := 4) rfl⟩
        clear own b4 B3 SP1 SPL OA k3 LAY hA
        go_wp2_with fail
        go_region_held3 (fun w' => w'.cell? ⟨T, 4, none⟩ = some (.int .i64 (s.half : Int)))
          (first | exact k4 | go_keep)
          ((go_at_call 45; refine LY.out.mono ?_; rintro e w5 ⟨rfl, hB, kk⟩))
        clear LY
        by_cases cX : AX = 0
        · subst cX
          have RS := hid (HS0.out (by trivial))
          have hown1 := hid fun o => ROW.out AD _ w5 o hB.out
          have c5 : w5.cell? ⟨T, 5, none⟩ = some (.slice va s.L.length vc) := by rw [← HV.out]; exact hB.out.2.2.1.cell (i := 5) rfl
          have r5 : ∀ o, (w5.alloc o).cell? ⟨T, 5, none⟩ = some (.slice va s.L.length vc) := fun o => (World.cell?_of_block (w := w5) (Below.heap_alloc w5 o T hB.out.2.2.1.lt)).trans c5
          have PS := hid fun w2 o g cap own2 gr hg => PUSH.out AD _ w5 w2 o g cap hB.out own2 gr hg
          rw [HV.out] at hown1
          clear hB ROW PUSH FAIL HS0 HS1
          generalize s.L.length = n at *
          go_wp2_with (at_builtin; refine wpList_append_lies _ rfl _ _ 31 rfl 0 9 i0 (.string ⟨#[]⟩) 1 16 Tryz.underlying31 hi0 hz0 hz1 hz2 rfl (by decide) _ _ _ rfl (hown1.out _) ⟨w5.heap.size, 0, none⟩ 1 1 [.string b] rfl rfl (World.news_of_block (heap_alloc_last w5 _)) (by intro u hu; simp at hu; subst hu; rfl) (by decide) (by unfold maxLen; omega) (by omega) (Nat.zero_le _) (w5.heap.size + 1) (by simp) ?_)
          intro g cap2 w6 own6 gr6 hg6 _
          obtain ⟨⟨f1, f2⟩, f3⟩ := PS.out w6 (.cells #[.string b] 9) g cap2 own6 (by rw [HV.out]; exact gr6) (by rw [HV.out]; exact hg6)
          have F3 := hid f3
          clear f3 own6 gr6 hg6 PS hown1
          rw [HV.out] at f1
          go_wp2
          go_ret
          rw [RS.out]
          exact F3.out
        · have RS := hid (HS1.out cX)
          have cb : (AX == 0) = false := by simpa using cX
          have f6 := hB.out.2.2.1.free 6
          have c6 := hB.out.2.2.1.cell (i := 6) (u := .bool s.br) rfl
          have EN := hid (FAIL.out AX AD _ w5 hB.out)
          clear hB
          go_wp2
          go_ret
          rw [RS.out]
          exact EN.out
    · have hE : s.apE b = frE b := by unfold Sm.apE; rw [if_neg c0, if_neg c1]
      obtain ⟨e1, e2, e3⟩ := ap_err (d := d) (show ¬ s.apE b = 0 by rw [hE]; exact c1)
      rw [e1, e2, e3, hE]
      have RES := hid fun W hW => RcP.same (w' := W) h hT hR hW (frE b)
      have cb : (frE b == 0) = false := by simpa using c1
      clear h hT hR hs e1 e2 e3 hE c0 c1 hF
      generalize frE b = X at *
      generalize frB b = f at *
      go_enter Tryz.func17, Tryz.ntmps17
      go_wp2_with fail
      refine CF.out.mono ?_
      rintro e w1 ⟨rfl, b1⟩
      have R := hid (RES.out w1 b1)
      clear b1
      go_wp2
      go_ret
      exact R.out

end Go.Proofs.YthmholgfnjpgbaaGreat.Wdc
