/-
  The walk of a stream's Append: a record more, or the error that the document names. Conditions: the stream and its disk lie in memory, as 'Sw' says; the stream's generation is at least 1.
-/
import Derived.Test.YtaojoecmbgmhoaaSmG
import Derived.Test.YtaojoecmbgmhoaaWb
namespace Go.Proofs.Ytaojoecmbgmhoaa.Wst
open Go.ChangeShapes Go.WideShapes Go.ChangeAt Go.RowKit Go.Proofs.Ytaojoecmbgmhoaa.M Go.Proofs.Ytaojoecmbgmhoaa.Wd

/-- What a call of a stream comes to. -/
def CaP (F : Nat → Prop) (S D : Nat) (s' : Sm) (X : Int) (Y : Dk) (w : World) (e : Ending) (w' : World) : Prop :=
  e = .returned (.int .i64 X) ∧ (∃ L', DkL w' D Y (Gr F w w') L') ∧ StL w' S D s' (Gr F w w') ∧ Kept (Fs F S) w w'
theorem CaP.same {F : Nat → Prop} {S D : Nat} {s : Sm} {d : Dk} {w w' : World} {L : Ly} (h : DkL w D d F L) (hS : StL w S D s F) (b : Below w.heap.size w w') (X : Int) : CaP F S D s X d w (.returned (.int .i64 X)) w' := by
  have k : Kept (Fs F S) w w' := .of_below b
  refine ⟨rfl, ⟨L, (h.below b).more (fun i hi => .inl hi) fun i hi => ?_⟩, ⟨(hS.below b).at_, fun e => e.elim hS.nf fun e => by have := hS.lt; omega⟩, k⟩
  rcases hi with hi | hi
  · exact Nat.lt_of_lt_of_le (h.lt i hi) b.size
  · exact hi.2
/-- Stores into the stream's own cells, and what is made, behind a write. -/
theorem WrP.then {F : Nat → Prop} {S D : Nat} {s : Sm} {X : Int} {Y : Dk} {w w1 : World} {e : Ending} (h : WrP F S D s X Y w e w1) {w' : World} {s' : Sm} (hz : w1.heap.size ≤ w'.heap.size) (hos : w'.os = w1.os) (htp : w'.tape = w1.tape) (hout : w'.output = w1.output) (hk : ∀ b, b < w1.heap.size → b ≠ S → w'.heap[b]? = w1.heap[b]?) (hs : w'.heap[S]? = some (stm D s')) (X' : Int) :
    CaP F S D s' X' Y w (.returned (.int .i64 X')) w' := by
  obtain ⟨h1, ⟨L', h2⟩, h3, h4⟩ := h
  have gg : ∀ b, Gr F w w1 b → Gr F w w' b := fun i hi => hi.elim .inl fun hi => .inr ⟨hi.1, Nat.lt_of_lt_of_le hi.2 hz⟩
  have h2' : DkL w' D Y (Gr F w w1) L' := h2.kept hz fun b hb => hk b (h2.lt b hb) fun e => h3.nf (by rw [← e]; exact hb)
  have sl := h3.lt
  refine ⟨rfl, ⟨L', h2'.more gg fun i hi => ?_⟩, ⟨hs, fun e => e.elim (fun e => h3.nf (.inl e)) fun e => h3.nf (.inr ⟨e.1, sl⟩)⟩, ⟨hos.trans h4.os, htp.trans h4.tape, hout.trans h4.output, Nat.le_trans h4.size hz, fun k hkk hF => ?_⟩⟩
  · rcases hi with hi | hi
    · exact h2'.lt i (.inl hi)
    · exact hi.2
  · exact (hk k (Nat.lt_of_lt_of_le hkk h4.size) fun e => hF (.inr e)).trans (h4.block k hkk hF)

/-- Two stores into the stream's cells with a call between them. -/
theorem WrP.two {F : Nat → Prop} {S D : Nat} {s s' : Sm} {Y : Dk} {w w1 w2 : World} {e : Ending} (h : WrP F S D s 0 Y w e w1) (v4 v5 : Value) (b : Below (w1.setCell ⟨S, 4, none⟩ v4).heap.size (w1.setCell ⟨S, 4, none⟩ v4) w2) (hs : ((scs D { s with br := false }).set 4 v4).set 5 v5 = scs D s') :
    CaP F S D s' 0 Y w (.returned (.int .i64 0)) (w2.setCell ⟨S, 5, none⟩ v5) := by
  have a1 : w1.heap[S]? = some (.cells (scs D { s with br := false }).toArray 68 (0, 0)) := h.2.2.1.at_
  have z1 : (w1.setCell ⟨S, 4, none⟩ v4).heap.size = w1.heap.size := by simp [World.setCell]
  have z2 : (w2.setCell ⟨S, 5, none⟩ v5).heap.size = w2.heap.size := by simp [World.setCell]
  have a2 := blk_set a1 4 v4
  have a3 := (b.block S (by rw [z1]; exact blk_lt a1)).trans a2
  have a4 := blk_set a3 5 v5
  rw [hs] at a4
  refine h.then (w' := w2.setCell ⟨S, 5, none⟩ v5) (by rw [z2]; have := b.size; omega) b.os b.tape b.output (fun k hk hne => ?_) a4 0
  rw [Below.heap_setCell _ _ _ _ hne, b.block k (by rw [z1]; exact hk), Below.heap_setCell _ _ _ _ hne]
/-- What is read of the stream between them. -/
theorem WrP.mid {F : Nat → Prop} {S D : Nat} {s : Sm} {Y : Dk} {w w1 : World} {e : Ending} (h : WrP F S D s 0 Y w e w1) (v4 : Value) : (w1.setCell ⟨S, 4, none⟩ v4).cell? ⟨S, 5, none⟩ = some (.string (tl (frs s.L))) ∧ ∀ w2, Below (w1.setCell ⟨S, 4, none⟩ v4).heap.size (w1.setCell ⟨S, 4, none⟩ v4) w2 → w2.cell? ⟨S, 5, none⟩ = some (.string (tl (frs s.L))) ∧ w2.frozen? ⟨S, 5, none⟩ = false := by
  have a1 : w1.heap[S]? = some (.cells (scs D { s with br := false }).toArray 68 (0, 0)) := h.2.2.1.at_
  have z1 : (w1.setCell ⟨S, 4, none⟩ v4).heap.size = w1.heap.size := by simp [World.setCell]
  have a2 := blk_set a1 4 v4
  refine ⟨blk_cell a2 rfl, fun w2 b => ?_⟩
  have a3 := (b.block S (by rw [z1]; exact blk_lt a1)).trans a2
  exact ⟨blk_cell a3 rfl, blk_free a3 5⟩

theorem ap_err {s : Sm} {b : ByteArray} {d : Dk} (h : ¬ s.apE b = 0) : s.apX b d = s.apE b ∧ s.apD b d = d ∧ s.apS b d = s := ⟨if_neg h, if_neg h, if_neg h⟩

set_option maxRecDepth 100000 in
set_option maxHeartbeats 1000000 in
theorem append {w : World} {S D : Nat} {s : Sm} {d : Dk} {F : Nat → Prop} {L : Ly} (h : DkL w D d F L) (hS : StL w S D s F) (hs : Sw d s) (h1 : 1 ≤ s.g) (hq : ∀ j, j < d.k → (d.r j).q.length ≤ 1000000) (b : ByteArray) (hb : b.size ≤ maxLen) :
    Calls Try.prog 12 #[.pointer (some ⟨S, 0, none⟩), .string b] w fun e w' => CaP F S D (s.apS b d) (s.apX b d) (s.apD b d) w e w' := by
  have C1 := hid (usable hS)
  by_cases c0 : s.br = true
  · have hE : s.apE b = 13 := if_pos c0
    obtain ⟨e1, e2, e3⟩ := ap_err (d := d) (show ¬ s.apE b = 0 by rw [hE]; decide)
    rw [e1, e2, e3, hE]
    rw [if_pos c0] at C1
    have RES := hid (CaP.same h hS (Below.refl _ _) 13)
    clear h hS hs e1 e2 e3 hE c0
    go_enter Try.func12, Try.ntmps12
    go_wp2_with fail
    refine C1.out.mono ?_
    rintro e w1 ⟨rfl, rfl⟩
    go_wp2
    go_ret
    exact RES.out
  · rw [if_neg c0] at C1
    have CF := hid (Wf.put b w hb)
    by_cases c1 : frE b = 0
    · have hE : s.apE b = if s.left < ((fr b).size : Int) then 12 else 0 := by unfold Sm.apE; rw [if_neg c0, if_pos c1]
      have hf := (fr_ok (b := b) (fun e => by have := frE_ok.1 c1; omega) (fun e => by have := frE_ok.1 c1; omega)).2
      have hfs := fr_size b
      obtain ⟨hb1, hb2⟩ := frE_ok.1 c1
      rw [c1, hf] at CF
      have CL : Hid (∀ W, Below w.heap.size w W → Calls Try.prog 13 #[.pointer (some ⟨S, 0, none⟩)] W fun e w' => e = .returned (.int .i64 s.left) ∧ Below W.heap.size W w') := fun W hW => left (h.below hW) (hS.below hW) hs
      by_cases c2 : s.left < ((fr b).size : Int)
      · rw [if_pos c2] at hE
        obtain ⟨e1, e2, e3⟩ := ap_err (d := d) (show ¬ s.apE b = 0 by rw [hE]; decide)
        rw [e1, e2, e3, hE]
        have RES := hid fun W hW => CaP.same (w' := W) h hS hW 12
        clear h hS hs e1 e2 e3 hE c0 hf
        generalize s.left = LF at *
        generalize fr b = f at *
        go_enter Try.func12, Try.ntmps12
        go_wp2_with fail
        refine C1.out.mono ?_
        rintro e w1 ⟨rfl, rfl⟩
        go_wp2_with fail
        refine CF.out.mono ?_
        rintro e w1 ⟨rfl, b1⟩
        go_wp2_with fail
        refine (CL.out _ b1).mono ?_
        rintro e w2 ⟨rfl, b2⟩
        have R := hid (RES.out w2 (b1.trans (b2.mono b1.size)))
        go_wp2
        go_ret
        exact R.out
      · rw [if_neg c2] at hE
        have hX : s.apX b d = layX s.i (apA s.h s.half s.L) (apC s.g s.L b) 0 (apN s.L b) d := if_pos hE
        have hD : s.apD b d = layD s.i (apA s.h s.half s.L) (apC s.g s.L b) 0 (apN s.L b) d := if_pos hE
        have hSS : s.apS b d = if s.apX b d = 0 then { s with L := s.L ++ [b] } else { s with br := true } := if_pos hE
        have hcap := hs.cap
        have hn := (h.ok.r s.i hs.hi).n
        have hh : s.h ≤ 2047 := by rw [hs.h]; omega
        have hfit : (frs s.L).size + (fr b).size + 1 ≤ 55 * s.h := by unfold Sm.left at c2; omega
        have eC : sp s.g (((frs s.L).size / 55 : Nat) : Int) (tl (frs s.L) ++ fr b) = apC s.g s.L b := by
          funext j
          unfold apC
          rw [sp_tl, frs_snoc]
        have eN : (tl (frs s.L) ++ fr b).size / 55 + 1 = apN s.L b := by
          unfold apN
          rw [tl_count, frs_snoc]
        have eA : 1 + s.half * s.h + (frs s.L).size / 55 = apA s.h s.half s.L := rfl
        have tsz := tl_size (frs s.L)
        have CY : Hid (∀ W, Below w.heap.size w W → Calls Try.prog 24 #[.pointer (some ⟨S, 0, none⟩), hv s.g s.half, .int .i64 (((frs s.L).size / 55 : Nat) : Int), .string (tl (frs s.L) ++ fr b)] W.drew fun e w' => e = .returned (.int .i64 (s.apX b d)) ∧ Hid (WrP F S D s (s.apX b d) (s.apD b d) w e w') ∧ (w'.cell? ⟨S, 2, none⟩ = some (.int .i64 s.g) ∧ w'.cell? ⟨S, 3, none⟩ = some (.int .i64 (s.half : Int)) ∧ w'.cell? ⟨S, 5, none⟩ = some (.string (tl (frs s.L))))) := fun W hW => by
          have hWd := hW.drew
          have C := lay (h.below hWd) (hS.below hWd) hs hq s.g s.half ((frs s.L).size / 55) (tl (frs s.L) ++ fr b) ⟨h1, hs.g.2⟩ hs.half (by omega) (by rw [size_app]; omega)
          rw [eC, eN, eA, ← hX, ← hD] at C
          refine C.mono fun e w' hw => ?_
          exact ⟨hw.1, hw.pull hWd hS.lt hS.nf, hw.2.2.1.cell (i := 2) rfl, hw.2.2.1.cell (i := 3) rfl, hw.2.2.1.cell (i := 5) rfl⟩
        have K4 := hid fun (W : World) (hW : Below w.heap.size w W) => (hS.below hW).cell (i := 4) (v := .int .i64 ((frs s.L).size : Int)) rfl
        have KK : Hid (∀ W, Below w.heap.size w W → (W.cell? ⟨S, 2, none⟩ = some (.int .i64 s.g) ∧ W.cell? ⟨S, 3, none⟩ = some (.int .i64 (s.half : Int)) ∧ W.cell? ⟨S, 5, none⟩ = some (.string (tl (frs s.L))))) := fun W hW => ⟨(hS.below hW).cell (i := 2) rfl, (hS.below hW).cell (i := 3) rfl, (hS.below hW).cell (i := 5) rfl⟩
        have CT := hid fun w => tailOf (tl (frs s.L) ++ fr b) w (by rw [size_app]; omega)
        have SCS : Hid (((scs D { s with br := false }).set 4 (.int .i64 (((frs s.L).size : Int) + ((fr b).size : Int)))).set 5 (.string (tl (tl (frs s.L) ++ fr b))) = scs D { s with L := s.L ++ [b] }) := by
          have hbr : s.br = false := by simpa using c0
          show [_, _, _, _, Value.int .i64 _, Value.string _, Value.bool false] = [_, _, _, _, Value.int .i64 ((frs (s.L ++ [b])).size : Int), Value.string (tl (frs (s.L ++ [b]))), Value.bool s.br]
          rw [frs_snoc, tl_step, size_app, hbr]
          simp
        have SB : Hid (∀ X : Int, ¬ X = 0 → ({ s with br := decide (X ≠ 0) } : Sm) = { s with br := true }) := fun X hX => by rw [decide_eq_true hX]
        have HS0 : Hid (s.apX b d = 0 → s.apS b d = { s with L := s.L ++ [b] }) := fun e => by rw [hSS, if_pos e]
        have HS1 : Hid (¬ s.apX b d = 0 → s.apS b d = { s with br := true }) := fun e => by rw [hSS, if_neg e]
        have hz4 : (((frs s.L).size / 55 : Nat) : Int) = ((frs s.L).size : Int) / 55 := by omega
        clear h hS hs hE c0 hf hX hD hSS eC eN eA hcap hq hn
        unfold hv at CY
        rw [hz4] at CY
        generalize s.apX b d = AX at *
        generalize s.apD b d = AD at *
        generalize s.apS b d = AS at *
        generalize s.left = LF at *
        have MID := hid fun w w1 e (hw : WrP F S D s 0 AD w e w1) => hw.mid (.int .i64 (((frs s.L).size : Int) + ((fr b).size : Int)))
        have TWO := hid fun w w1 e (hw : WrP F S D s 0 AD w e w1) w2 b2 => hw.two (w2 := w2) (.int .i64 (((frs s.L).size : Int) + ((fr b).size : Int))) (.string (tl (tl (frs s.L) ++ fr b))) b2 SCS.out
        have TN : Hid (∀ (X : Int) w1 e, ¬ X = 0 → WrP F S D s X AD w e w1 → CaP F S D { s with br := true } X AD w e w1) := fun X w1 e hX hw => by
          obtain ⟨q1, q2, q3, q4⟩ := hw
          rw [SB.out X hX] at q3
          exact ⟨q1, q2, q3, q4⟩
        clear SCS SB
        generalize tl (tl (frs s.L) ++ fr b) = t2 at *
        generalize tl (frs s.L) = t at *
        generalize hzz : (frs s.L).size = z at *
        have HZ := hid hzz
        clear hzz
        generalize fr b = f at *
        have hcat : ∀ u, (Op.stringOp .add t f).run Try.prog u = .ok (.string (t ++ f)) u := fun u => run_string_add_sum u t f (by omega)
        have hl1 : (t.size : Int) ≤ 8388608 := by omega
        have hl2 : (f.size : Int) ≤ 8388608 := by omega
        have hl3 : f.size ≤ 5000 := by omega
        have hl4 : z ≤ 120000 := by omega
        clear hfs tsz hb1 hb2 hfit
        go_enter Try.func12, Try.ntmps12
        go_wp2_with fail
        refine C1.out.mono ?_
        rintro e w1 ⟨rfl, rfl⟩
        go_wp2_with fail
        refine CF.out.mono ?_
        rintro e w1 ⟨rfl, b1⟩
        go_wp2_with fail
        refine (CL.out _ b1).mono ?_
        rintro e w2 ⟨rfl, b2⟩
        have B2 := b1.trans (b2.mono b1.size)
        have k4 := K4.out w2 B2
        have kk := KK.out w2 B2
        have CY1 := hid (CY.out w2 B2)
        clear b1 b2 CL CF C1 K4 KK CY
        go_wp2_with fail
        go_region_held3 (fun w' => w'.cell? ⟨S, 2, none⟩ = some (.int .i64 s.g) ∧ w'.cell? ⟨S, 3, none⟩ = some (.int .i64 (s.half : Int)) ∧ w'.cell? ⟨S, 5, none⟩ = some (.string t))
          (first | exact kk | go_keep)
          ((go_at_call 24; refine CY1.out.mono ?_; rintro e w3 ⟨rfl, hB, kk⟩))
        by_cases cX : AX = 0
        · subst cX
          have M1 := MID.out w w3 _ hB.out
          have T1 := hid fun w2 b2 => TWO.out w w3 _ hB.out w2 b2
          have f4 := hB.out.2.2.1.free 4
          have c4 : w3.cell? ⟨S, 4, none⟩ = some (.int .i64 (z : Int)) := by rw [← HZ.out]; exact hB.out.2.2.1.cell (i := 4) rfl
          have c5 := M1.1
          have M2 := hid M1.2
          clear M1 hB
          go_wp2_with fail
          refine (CT.out _).mono ?_
          rintro e w4 ⟨rfl, b4⟩
          obtain ⟨g5, g6⟩ := M2.out w4 b4
          have T2 := hid (T1.out w4 b4)
          have RS := hid (HS0.out (by trivial))
          clear b4
          go_wp2
          go_ret
          rw [RS.out]
          exact T2.out
        · have cb : (AX == 0) = false := by simpa using cX
          have R := hid (TN.out AX w3 _ cX hB.out)
          have RS := hid (HS1.out cX)
          clear hB
          go_wp2
          go_ret
          rw [RS.out]
          exact R.out
    · have hE : s.apE b = frE b := by unfold Sm.apE; rw [if_neg c0, if_neg c1]
      obtain ⟨e1, e2, e3⟩ := ap_err (d := d) (show ¬ s.apE b = 0 by rw [hE]; exact c1)
      rw [e1, e2, e3, hE]
      have RES := hid fun W hW => CaP.same (w' := W) h hS hW (frE b)
      have cb : (frE b == 0) = false := by simpa using c1
      clear h hS hs e1 e2 e3 hE c0 c1
      generalize frE b = E at *
      generalize frB b = f at *
      go_enter Try.func12, Try.ntmps12
      go_wp2_with fail
      refine C1.out.mono ?_
      rintro e w1 ⟨rfl, rfl⟩
      go_wp2_with fail
      refine CF.out.mono ?_
      rintro e w1 ⟨rfl, b1⟩
      have R := hid (RES.out w1 b1)
      go_wp2
      go_ret
      exact R.out

end Go.Proofs.Ytaojoecmbgmhoaa.Wst
