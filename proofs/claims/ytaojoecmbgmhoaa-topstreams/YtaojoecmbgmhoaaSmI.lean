/-
  The walk of a stream's Reset: these records take the place of all, or the error that the document names. Conditions: the stream and its disk lie in memory, as 'Sw' says; the records lie apart from them.
-/
import Derived.Test.YtaojoecmbgmhoaaSmH
import Derived.Test.YtaojoecmbgmhoaaSmD
import Derived.Test.YtaojoecmbgmhoaaSmB
namespace Go.Proofs.Ytaojoecmbgmhoaa.Wst
open Go.ChangeShapes Go.WideShapes Go.ChangeAt Go.RowKit Go.Proofs.Ytaojoecmbgmhoaa.M Go.Proofs.Ytaojoecmbgmhoaa.Wd

theorem r_err {s : Sm} {l : List ByteArray} {d : Dk} (h : ¬ s.rE l = 0) : s.rX l d = s.rE l ∧ s.rD l d = d ∧ s.rS l d = s := ⟨if_neg h, if_neg h, if_neg h⟩
theorem fB_ok {l : List ByteArray} (h : fE l = 0) : fB l = frs l := if_pos h

/-- Two writes, one behind the other. -/
theorem WrP.chain {F : Nat → Prop} {S D : Nat} {s s2 : Sm} {X0 X : Int} {Y0 Y : Dk} {w w1 w2 : World} {e0 e : Ending} (h0 : WrP F S D s X0 Y0 w e0 w1) (h : WrP (Gr F w w1) S D s2 X Y w1 e w2) : WrP F S D s2 X Y w e w2 := by
  obtain ⟨a1, a2, a3, a4⟩ := h0
  obtain ⟨b1, b2, b3, b4⟩ := h
  have g : Gr (Gr F w w1) w1 w2 = Gr F w w2 := Gr.trans a4.size b4.size
  rw [g] at b2 b3
  refine ⟨b1, b2, b3, a4.trans (b4.mono fun i _ hi => ?_)⟩
  rcases hi with hi | hi
  · rcases hi with hi | hi
    · exact .inl (.inl hi)
    · exact .inr hi
  · exact .inl (.inr hi)
theorem br_twice (s : Sm) (a b : Bool) : ({ ({ s with br := a } : Sm) with br := b } : Sm) = { s with br := b } := rfl
/-- Three stores into the stream's cells. -/
theorem WrP.three {F : Nat → Prop} {S D : Nat} {s s' : Sm} {Y : Dk} {w w1 : World} {e : Ending} (h : WrP F S D s 0 Y w e w1) {w2 : World} (b : Below w1.heap.size w1 w2) (v2 v3 v4 v5 : Value) (hs : ((((scs D { s with br := false }).set 2 v2).set 3 v3).set 4 v4).set 5 v5 = scs D s') :
    CaP F S D s' 0 Y w (.returned (.int .i64 0)) ((((w2.setCell ⟨S, 2, none⟩ v2).setCell ⟨S, 3, none⟩ v3).setCell ⟨S, 4, none⟩ v4).setCell ⟨S, 5, none⟩ v5) := by
  have a1 : w1.heap[S]? = some (.cells (scs D { s with br := false }).toArray 68 (0, 0)) := h.2.2.1.at_
  have a2 := (b.block S (blk_lt a1)).trans a1
  have a3 := blk_set (blk_set (blk_set (blk_set a2 2 v2) 3 v3) 4 v4) 5 v5
  rw [hs] at a3
  refine h.then (w' := (((w2.setCell ⟨S, 2, none⟩ v2).setCell ⟨S, 3, none⟩ v3).setCell ⟨S, 4, none⟩ v4).setCell ⟨S, 5, none⟩ v5) (by have := b.size; simp [World.setCell]; omega) b.os b.tape b.output (fun k hk hne => ?_) a3 0
  rw [Below.heap_setCell _ _ _ _ hne, Below.heap_setCell _ _ _ _ hne, Below.heap_setCell _ _ _ _ hne, Below.heap_setCell _ _ _ _ hne, b.block k hk]

theorem cell_other {w : World} {N S j : Nat} {v : Value} (h : N ≠ S) (i : Nat) : (w.setCell ⟨S, j, none⟩ v).cell? ⟨N, i, none⟩ = w.cell? ⟨N, i, none⟩ := World.cell?_of_block (w := w) (Below.heap_setCell _ _ _ _ h)
theorem WrP.fail {F : Nat → Prop} {S D : Nat} {s : Sm} {X : Int} {Y : Dk} {w w' : World} {e : Ending} (h : WrP F S D s X Y w e w') (hX : ¬ X = 0) : CaP F S D { s with br := true } X Y w e w' := by
  obtain ⟨q1, q2, q3, q4⟩ := h
  rw [decide_eq_true hX] at q3
  exact ⟨q1, q2, q3, q4⟩
/-- The next head's block is kept by a write. -/
theorem WrP.other {F : Nat → Prop} {S D : Nat} {s : Sm} {X : Int} {Y : Dk} {w w' : World} {e : Ending} (h : WrP F S D s X Y w e w') {N : Nat} {o : Obj} (hN : w.heap[N]? = some o) (h1 : ¬ F N) (h2 : N ≠ S) : w'.heap[N]? = some o := (h.2.2.2.block N (blk_lt hN) fun e => e.elim h1 h2).trans hN
/-- The second write of a Reset. -/
theorem second {F : Nat → Prop} {S D : Nat} {s : Sm} {d : Dk} {Y : Dk} {w w1 w2 : World} {e : Ending} {m : Nat} (h : WrP F S D s 0 Y w e w1) (b : Below w1.heap.size w1 w2) (hm : Ms d m Y) (hq : ∀ j, j < d.k → (d.r j).q.length + m ≤ 1000000) (x : ByteArray) :
    Calls Try.prog 38 #[.pointer (some ⟨S, 0, none⟩), .int .i64 0, .slice (some ⟨w2.heap.size, 0, none⟩) 1 1] (w2.alloc (.cells #[.string x] 9)) fun e w' => e = .returned (.int .i64 (layX s.i 0 (fun _ => x) 0 1 Y)) ∧ WrP F S D { s with br := false } (layX s.i 0 (fun _ => x) 0 1 Y) (layD s.i 0 (fun _ => x) 0 1 Y) w e w' ∧ ∀ N o, w1.heap[N]? = some o → ¬ Gr F w w1 N → N ≠ S → w'.heap[N]? = some o := by
  obtain ⟨_, ⟨L', h2⟩, h3, h4⟩ := h
  have b2 := b.trans (((Below.refl w2.heap.size w2).alloc (Nat.le_refl _) (.cells #[.string x] 9)).mono b.size)
  have hS : StL (w2.alloc (.cells #[.string x] 9)) S D { s with br := false } (Gr F w w1) := h3.below b2
  have hl : S < w1.heap.size := h3.lt
  have hnS : ¬ Gr F w w1 S := h3.nf
  refine (write (h2.below b2) hS (fun j hj => ?_) 0 1 (by omega) (by omega) (some ⟨w2.heap.size, 0, none⟩) 1 (fun _ => x) (.inr ⟨w2.heap.size, 0, rfl, by simp, fun e => ?_, ?_, fun i hi => ?_⟩)).mono ?_
  · have := hm.q j
    rw [hm.k] at hj
    have := hq j hj
    omega
  · have := h2.lt _ e
    have := b.size
    omega
  · have := b.size
    omega
  · have : i = 0 := by omega
    subst this
    exact blk_cell (l := [.string x]) (heap_alloc_last w2 _) rfl
  · rintro e' w' hw
    have hp := hw.pull b2 hl hnS
    refine ⟨hw.1, WrP.chain (s := s) ⟨rfl, ⟨L', h2⟩, h3, h4⟩ hp, fun N o hN h5 h6 => hp.other hN h5 h6⟩

set_option maxRecDepth 100000 in
set_option maxHeartbeats 1000000 in
theorem reset {w : World} {S D : Nat} {s : Sm} {d : Dk} {F : Nat → Prop} {L : Ly} (h : DkL w D d F L) (hS : StL w S D s F) (hs : Sw d s) (hq : ∀ j, j < d.k → (d.r j).q.length ≤ 990000) (l : List ByteArray) (p : Option Addr) (cap : Nat) (hsz : ∀ b ∈ l, b.size ≤ maxLen) (hln : l.length ≤ 1048576) (hL : War.Lies w p l.length (nth l)) :
    Calls Try.prog 21 #[.pointer (some ⟨S, 0, none⟩), .slice p l.length cap] w fun e w' => CaP F S D (s.rS l d) (s.rX l d) (s.rD l d) w e w' := by
  have C1 := hid (usable hS)
  by_cases c0 : s.br = true
  · have hE : s.rE l = 13 := if_pos c0
    obtain ⟨e1, e2, e3⟩ := r_err (d := d) (show ¬ s.rE l = 0 by rw [hE]; decide)
    rw [e1, e2, e3, hE]
    rw [if_pos c0] at C1
    have RES := hid (CaP.same h hS (Below.refl _ _) 13)
    clear h hS hs e1 e2 e3 hE c0 hL
    go_enter Try.func21, Try.ntmps21
    go_wp2_with fail
    refine C1.out.mono ?_
    rintro e w1 ⟨rfl, rfl⟩
    go_wp2
    go_ret
    exact RES.out
  · rw [if_neg c0] at C1
    have CF := hid (framesOf l p cap w hsz hln hL)
    have hn := (h.ok.r s.i hs.hi).n
    have hh : s.h ≤ 2047 := by rw [hs.h]; omega
    by_cases c1 : fE l = 0
    · rw [c1, fB_ok c1] at CF
      have hE : s.rE l = if 55 * (s.h : Int) - 1 < ((frs l).size : Int) ∨ 281474976710655 ≤ s.g then 12 else 0 := by unfold Sm.rE; rw [if_neg c0, if_pos c1]
      have CP : Hid (∀ W, Below w.heap.size w W → Calls Try.prog 26 #[.pointer (some ⟨S, 0, none⟩)] W fun e w' => e = .returned (.int .i64 (55 * (s.h : Int) - 1)) ∧ Below W.heap.size W w') := fun W hW => capM (h.below hW) (hS.below hW) hs
      have K2 := hid fun (W : World) (hW : Below w.heap.size w W) => (hS.below hW).cell (i := 2) (v := .int .i64 s.g) rfl
      have K3 := hid fun (W : World) (hW : Below w.heap.size w W) => (hS.below hW).cell (i := 3) (v := .int .i64 (s.half : Int)) rfl
      have hg := hs.g
      by_cases c2 : 55 * (s.h : Int) - 1 < ((frs l).size : Int)
      · rw [if_pos (.inl c2)] at hE
        obtain ⟨e1, e2, e3⟩ := r_err (d := d) (show ¬ s.rE l = 0 by rw [hE]; decide)
        rw [e1, e2, e3, hE]
        have RES := hid fun W hW => CaP.same (w' := W) h hS hW 12
        clear h hS hs e1 e2 e3 hE c0 hL
        generalize frs l = f at *
        go_enter Try.func21, Try.ntmps21
        go_wp2_with fail
        refine C1.out.mono ?_
        rintro e w1 ⟨rfl, rfl⟩
        go_wp2_with fail
        refine CF.out.mono ?_
        rintro e w1 ⟨rfl, b1⟩
        go_wp2_with fail
        refine (CP.out _ b1).mono ?_
        rintro e w2 ⟨rfl, b2⟩
        have B2 := b1.trans (b2.mono b1.size)
        have R := hid (RES.out w2 B2)
        clear b1 b2 B2
        go_wp2
        go_ret
        exact R.out
      · by_cases c3 : 281474976710655 ≤ s.g
        · rw [if_pos (.inr c3)] at hE
          have hg2 : s.g = 281474976710655 := by omega
          obtain ⟨e1, e2, e3⟩ := r_err (d := d) (show ¬ s.rE l = 0 by rw [hE]; decide)
          rw [e1, e2, e3, hE]
          rw [hg2] at K2
          have RES := hid fun W hW => CaP.same (w' := W) h hS hW 12
          clear h hS hs e1 e2 e3 hE c0 hL hg2 c3 hg
          generalize frs l = f at *
          go_enter Try.func21, Try.ntmps21
          go_wp2_with fail
          refine C1.out.mono ?_
          rintro e w1 ⟨rfl, rfl⟩
          go_wp2_with fail
          refine CF.out.mono ?_
          rintro e w1 ⟨rfl, b1⟩
          go_wp2_with fail
          refine (CP.out _ b1).mono ?_
          rintro e w2 ⟨rfl, b2⟩
          have B2 := b1.trans (b2.mono b1.size)
          have R := hid (RES.out w2 B2)
          have k2 := K2.out w2 B2
          clear b1 b2 B2
          go_wp2
          go_ret
          exact R.out
        · rw [if_neg (fun e => e.elim c2 c3)] at hE
          have hbr : s.br = false := by simpa using c0
          have hfit : (frs l).size + 1 ≤ 55 * s.h := by omega
          obtain ⟨X1, hX1⟩ : ∃ X, layX s.i (1 + (1 - s.half) * s.h) (rsC s.g l) 0 ((frs l).size / 55 + 1) d = X := ⟨_, rfl⟩
          obtain ⟨Y1, hY1⟩ : ∃ Y, layD s.i (1 + (1 - s.half) * s.h) (rsC s.g l) 0 ((frs l).size / 55 + 1) d = Y := ⟨_, rfl⟩
          obtain ⟨X2, hX2⟩ : ∃ X, layX s.i 0 (fun _ => hdS (s.g + 1) (1 - s.half)) 0 1 Y1 = X := ⟨_, rfl⟩
          obtain ⟨Y2, hY2⟩ : ∃ Y, layD s.i 0 (fun _ => hdS (s.g + 1) (1 - s.half)) 0 1 Y1 = Y := ⟨_, rfl⟩
          have hrX : s.rX l d = if X1 = 0 then X2 else X1 := by
            unfold Sm.rX
            rw [if_pos hE]
            unfold rsX
            rw [hX1, hY1, hX2]
          have hrD : s.rD l d = if X1 = 0 then Y2 else Y1 := by
            unfold Sm.rD
            rw [if_pos hE]
            unfold rsD
            rw [hX1, hY1, hY2]
          have hrS : s.rS l d = if s.rX l d = 0 then { s with g := s.g + 1, half := 1 - s.half, L := l } else { s with br := true } := if_pos hE
          have R1 : Hid (¬ X1 = 0 → s.rX l d = X1 ∧ s.rD l d = Y1 ∧ s.rS l d = { s with br := true }) := fun e => by
            rw [if_neg e] at hrX hrD
            exact ⟨hrX, hrD, by rw [hrS, hrX, if_neg e]⟩
          have R2 : Hid (X1 = 0 → ¬ X2 = 0 → s.rX l d = X2 ∧ s.rD l d = Y2 ∧ s.rS l d = { s with br := true }) := fun e e2 => by
            rw [if_pos e] at hrX hrD
            exact ⟨hrX, hrD, by rw [hrS, hrX, if_neg e2]⟩
          have R3 : Hid (X1 = 0 → X2 = 0 → s.rX l d = 0 ∧ s.rD l d = Y2 ∧ s.rS l d = { s with g := s.g + 1, half := 1 - s.half, L := l }) := fun e e2 => by
            rw [if_pos e] at hrX hrD
            exact ⟨by rw [hrX, e2], hrD, by rw [hrS, hrX, e2, if_pos rfl]⟩
          have hMs := Ms.lay s.i (1 + (1 - s.half) * s.h) (rsC s.g l) ((frs l).size / 55 + 1) 0 d
          rw [hY1] at hMs
          have NXT := hid fun w => next s.g s.half w hg.1 hg.2 hs.half
          have SEC := hid fun w => sector (s.g + 1) (1 - s.half) w (by omega) (by omega) (by omega)
          have LAY : Hid (∀ W, Below w.heap.size w W → Calls Try.prog 24 #[.pointer (some ⟨S, 0, none⟩), hv (s.g + 1) (1 - s.half), .int .i64 0, .string (frs l)] W fun e w' => e = .returned (.int .i64 X1) ∧ Hid (WrP F S D s X1 Y1 W e w')) := fun W hW => by
            have C := lay (h.below hW) (hS.below hW) hs (fun j hj => by have := hq j hj; omega) (s.g + 1) (1 - s.half) 0 (frs l) ⟨by omega, by omega⟩ (by omega) (by omega) (by omega)
            have e1 : sp (s.g + 1) ((0 : Nat) : Int) (frs l) = rsC s.g l := rfl
            rw [e1, Nat.add_zero, hX1, hY1] at C
            exact C.mono fun e w' hw => ⟨hw.1, hw⟩
          have SND := hid fun (W w1 w2 : World) e (hw : WrP F S D s 0 Y1 W e w1) (b : Below w1.heap.size w1 w2) => second hw b hMs (fun j hj => by have := hq j hj; omega) (hdS (s.g + 1) (1 - s.half))
          rw [hX2, hY2] at SND
          have CT := hid fun w => tailOf (frs l) w (by omega)
          have SCS : Hid (((((scs D { s with br := false }).set 2 (.int .i64 (s.g + 1))).set 3 (.int .i64 ((1 - s.half : Nat) : Int))).set 4 (.int .i64 ((frs l).size : Int))).set 5 (.string (tl (frs l))) = scs D { s with g := s.g + 1, half := 1 - s.half, L := l }) := by
            show [_, _, _, _, _, _, Value.bool false] = [_, _, _, _, _, _, Value.bool s.br]
            rw [hbr]
          have FLT : Hid (∀ b, F b → b < w.heap.size) := h.lt
          have SLT : Hid (S < w.heap.size ∧ ¬ F S) := ⟨hS.lt, hS.nf⟩
          have THR := hid fun (w1 w2 : World) e (hw : WrP F S D { s with br := false } 0 Y2 w e w1) (b : Below w1.heap.size w1 w2) => hw.three b (.int .i64 (s.g + 1)) (.int .i64 ((1 - s.half : Nat) : Int)) (.int .i64 ((frs l).size : Int)) (.string (tl (frs l))) SCS.out
          have hgg : s.g + 1 ≤ 281474976710655 := by omega
          have cgb : (s.g == 281474976710655) = false := by simpa using (show ¬ s.g = 281474976710655 by omega)
          clear h hS hs hE c0 hL hX1 hY1 hX2 hY2 hrX hrD hrS hMs SCS hq hbr
          generalize s.rX l d = AX at *
          generalize s.rD l d = AD at *
          generalize s.rS l d = AS at *
          generalize hdS (s.g + 1) (1 - s.half) = hd at *
          generalize 1 - s.half = hf at *
          generalize tl (frs l) = t at *
          generalize frs l = f at *
          unfold hv at NXT LAY SEC
          go_enter Try.func21, Try.ntmps21
          go_wp2_with fail
          refine C1.out.mono ?_
          rintro e w1 ⟨rfl, rfl⟩
          go_wp2_with fail
          refine CF.out.mono ?_
          rintro e w1 ⟨rfl, b1⟩
          go_wp2_with fail
          refine (CP.out _ b1).mono ?_
          rintro e w2 ⟨rfl, b2⟩
          have B2 := b1.trans (b2.mono b1.size)
          have k2 := K2.out w2 B2
          have k3 := K3.out w2 B2
          clear b1 b2 K2 K3 C1 CF CP
          go_wp2_with fail
          refine (NXT.out _).mono ?_
          rintro e w3 ⟨rfl, b3⟩
          have B3 := B2.trans (b3.mono B2.size)
          obtain ⟨X3, hX3⟩ : ∃ X3, X3 = w3.alloc (.cells #[.int .i64 (s.g + 1), .int .i64 (hf : Int)] 64) := ⟨_, rfl⟩
          have bX3 : Below w.heap.size w X3 := by rw [hX3]; exact B3.alloc B3.size _
          have hN : X3.heap[w3.heap.size]? = some (.cells #[.int .i64 (s.g + 1), .int .i64 (hf : Int)] 64 (0, 0)) := by rw [hX3]; exact heap_alloc_last w3 _
          have hNl : w.heap.size ≤ w3.heap.size := B3.size
          have NF : Hid (¬ F w3.heap.size ∧ w3.heap.size ≠ S) := ⟨fun e => by have := FLT.out _ e; omega, by have := SLT.out.1; omega⟩
          have HX3 := hid hX3
          have HN := hid hN
          have BX := hid bX3
          have LY := hid (LAY.out X3 bX3)
          clear hX3 b3 B3 B2 NXT k2 k3 LAY
          have n0 := blk_cell (l := [.int .i64 (s.g + 1), .int .i64 (hf : Int)]) hN (i := 0) rfl
          have n1 := blk_cell (l := [.int .i64 (s.g + 1), .int .i64 (hf : Int)]) hN (i := 1) rfl
          clear hN bX3
          go_wp2_with fail
          rw [← HX3.out]
          refine LY.out.mono ?_
          rintro e w4 ⟨rfl, hB⟩
          clear LY n0 n1
          by_cases cX : X1 = 0
          · subst cX
            have hN4 := hB.out.other HN.out NF.out.1 NF.out.2
            have n0 := blk_cell (l := [.int .i64 (s.g + 1), .int .i64 (hf : Int)]) hN4 (i := 0) rfl
            have n1 := blk_cell (l := [.int .i64 (s.g + 1), .int .i64 (hf : Int)]) hN4 (i := 1) rfl
            have N4 := hid hN4
            clear hN4
            go_wp2_with fail
            refine (SEC.out _).mono ?_
            rintro e w5 ⟨rfl, b5⟩
            have SN := hid (SND.out X3 w4 w5 _ hB.out b5)
            clear b5 n0 n1 SEC SND
            go_wp2_with fail
            refine SN.out.mono ?_
            rintro e w6 ⟨rfl, hC, hK⟩
            have HC := hid (hC.pull BX.out SLT.out.1 SLT.out.2)
            have N6 := hid (hK w3.heap.size _ N4.out (fun e => e.elim NF.out.1 fun e => by have := blk_lt HN.out; omega) NF.out.2)
            clear hC hK SN hB
            by_cases cX2 : X2 = 0
            · subst cX2
              have RR := hid (R3.out (by trivial) (by trivial))
              have n0 := blk_cell (l := [.int .i64 (s.g + 1), .int .i64 (hf : Int)]) N6.out (i := 0) rfl
              have n1 := blk_cell (l := [.int .i64 (s.g + 1), .int .i64 (hf : Int)]) N6.out (i := 1) rfl
              have TT := hid fun w2 b => THR.out w6 w2 _ HC.out b
              have TA : Hid (Calls Try.prog 25 #[.string f] w6.drew fun e w' => e = .returned (.string t) ∧ Hid (Below w6.heap.size w6 w') ∧ (w'.cell? ⟨S, 2, none⟩ = some (.int .i64 s.g) ∧ w'.cell? ⟨S, 3, none⟩ = some (.int .i64 (s.half : Int)) ∧ (∃ v, w'.cell? ⟨S, 4, none⟩ = some (.int .i64 v)) ∧ (∃ v, w'.cell? ⟨S, 5, none⟩ = some (.string v)) ∧ ∀ i, w'.frozen? ⟨S, i, none⟩ = false) ∧ (w'.cell? ⟨w3.heap.size, 0, none⟩ = some (.int .i64 (s.g + 1)) ∧ w'.cell? ⟨w3.heap.size, 1, none⟩ = some (.int .i64 (hf : Int)))) := by
                refine (CT.out w6.drew).mono fun e w' ⟨q1, q2⟩ => ?_
                have q : Below w6.heap.size w6 w' := (Below.refl w6.heap.size w6).drew.trans q2
                have st := HC.out.2.2.1.below q
                exact ⟨q1, q, ⟨st.cell (i := 2) rfl, st.cell (i := 3) rfl, ⟨_, st.cell (i := 4) rfl⟩, ⟨_, st.cell (i := 5) rfl⟩, st.free⟩, (q.cell (p := ⟨w3.heap.size, 0, none⟩) (blk_lt N6.out)).trans n0, (q.cell (p := ⟨w3.heap.size, 1, none⟩) (blk_lt N6.out)).trans n1⟩
              have kk := And.intro n0 n1
              have hne := NF.out.2
              clear CT THR
              go_wp2_with fail
              go_region_held3 (fun w' => w'.cell? ⟨w3.heap.size, 0, none⟩ = some (.int .i64 (s.g + 1)) ∧ w'.cell? ⟨w3.heap.size, 1, none⟩ = some (.int .i64 (hf : Int)))
                (first | exact kk | (simp only [cell_other hne]; exact kk) | go_keep)
                ((go_at_call 25; refine TA.out.mono ?_; rintro e w7 ⟨rfl, hB7, ⟨s2, s3, ⟨v4, s4⟩, ⟨v5, s5⟩, sf⟩, kk⟩))
              have TF := hid (TT.out w7 hB7.out)
              clear s2 s3 s4 s5 sf hB7
              go_wp2
              go_ret
              rw [RR.out.1, RR.out.2.1, RR.out.2.2]
              exact TF.out
            · have RR := hid (R2.out (by trivial) cX2)
              have cb : (X2 == 0) = false := by simpa using cX2
              have R := hid (HC.out.fail cX2)
              go_wp2
              go_ret
              rw [RR.out.1, RR.out.2.1, RR.out.2.2]
              exact R.out
          · have RR := hid (R1.out cX)
            have cb : (X1 == 0) = false := by simpa using cX
            have R := hid ((hB.out.pull BX.out SLT.out.1 SLT.out.2).fail cX)
            clear hB
            go_wp2
            go_ret
            rw [RR.out.1, RR.out.2.1, RR.out.2.2]
            exact R.out
    · have hE : s.rE l = fE l := by unfold Sm.rE; rw [if_neg c0, if_neg c1]
      obtain ⟨e1, e2, e3⟩ := r_err (d := d) (show ¬ s.rE l = 0 by rw [hE]; exact c1)
      rw [e1, e2, e3, hE]
      have RES := hid fun W hW => CaP.same (w' := W) h hS hW (fE l)
      have cb : (fE l == 0) = false := by simpa using c1
      clear h hS hs e1 e2 e3 hE c0 c1 hL
      generalize fE l = E at *
      generalize fB l = f at *
      go_enter Try.func21, Try.ntmps21
      go_wp2_with fail
      refine C1.out.mono ?_
      rintro e w1 ⟨rfl, rfl⟩
      go_wp2_with fail
      refine CF.out.mono ?_
      rintro e w1 ⟨rfl, b1⟩
      have R := hid (RES.out w1 b1)
      go_wp2
      go_ret
      exact R.out

end Go.Proofs.Ytaojoecmbgmhoaa.Wst
