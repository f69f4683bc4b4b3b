/-
  The walks of pack's reader: number, folded, text: each returns what 'gN', 'numR', 'textR' say and goes on to the place behind it, or leaves by a fault with the first error. Nothing but the reader's own place has turned in memory. Conditions: the reader is there, its place within the text.
-/
import Derived.Test.YtkelipedpjmmaaaDoorQb
import Derived.Test.YtkelipedpjmmaaaDoorWid
import Derived.Test.YtkelipedpjmmaaaDoorFail
import Derived.Test.YtkelipedpjmmaaaDoorGet
import Derived.Test.YtkelipedpjmmaaaDoorText
import Derived.Test.YtkelipedpjmmaaaDoorFold
import Derived.Deep.RegionHeld3
namespace Go.Proofs.YtkelipedpjmmaaaDoor.Wr
open Go.ChangeShapes Go.WideShapes Go.ChangeAt Go.RowKit Go.Proofs.YtkelipedpjmmaaaDoor.M Go.Proofs.YtkelipedpjmmaaaDoor.Wf

theorem hid {p : Prop} (h : p) : Hid p := h
theorem grown_below_some {w w' : World} (h : Below w.heap.size w w') (r : Option Nat) : w.grownBy w' r := grown_some (grown_below h) r
/-- The reader in memory. -/
def Rdr (w : World) (b : Nat) (s : ByteArray) (a : Int) : Prop := w.heap[b]? = some (.cells #[.string s, .int .i64 a] 83 (0, 0))
theorem Rdr.parts {w : World} {b : Nat} {s : ByteArray} {a : Int} (h : Rdr w b s a) : w.cell? ⟨b, 0, none⟩ = some (.string s) ∧ w.cell? ⟨b, 1, none⟩ = some (.int .i64 a) ∧ w.frozen? ⟨b, 1, none⟩ = false ∧ b < w.heap.size := by
  unfold Rdr at h
  exact ⟨by simp [World.cell?, h], by simp [World.cell?, h], frozen_there h 1, lt_of_heap h⟩
theorem Rdr.set {w : World} {b : Nat} {s : ByteArray} {a : Int} (h : Rdr w b s a) (x : Int) : Rdr (w.setCell ⟨b, 1, none⟩ (.int .i64 x)) b s x := heap_set1 h 1 _
theorem grown_at {w : World} {b : Nat} (v : Value) : w.grownBy (w.setCell ⟨b, 1, none⟩ v) (some b) :=
  ⟨rfl, rfl, rfl, by simp [World.setCell], fun k _ hk => Below.heap_setCell _ _ _ _ (fun e => hk (by simp [e]))⟩
theorem Rdr.below {w w' : World} {b : Nat} {s : ByteArray} {a : Int} (h : Rdr w b s a) (hb : Below w.heap.size w w') : Rdr w' b s a := (hb.block b (lt_of_heap h)).trans h

theorem numOk (b : Nat) (s : ByteArray) (a width : Int) (w : World) (hs : s.size ≤ maxLen) (h0 : 0 ≤ a ∧ a ≤ (s.size : Int)) (hr : Rdr w b s a) (hE : gE s a width = 0) :
    Calls Tryd.prog 55 #[.pointer (some ⟨b, 0, none⟩), .int .i64 width] w fun e w' => e = .returned (.int .u64 (gN s a width)) ∧ Rdr w' b s (gX s a width) ∧ w.grownBy w' (some b) := by
  obtain ⟨c0, c1, c2, c3⟩ := hr.parts
  have CG : Hid (∀ W, Below w.heap.size w W → Calls Tryd.prog 73 #[.string s, .int .i64 a, .int .i64 width] W fun e w' => e = .returned (.tuple #[.int .u64 (gN s a width), .int .i64 (gX s a width), .int .i64 0]) ∧ Below w.heap.size w w' ∧ (w'.cell? ⟨b, 0, none⟩ = some (.string s) ∧ w'.cell? ⟨b, 1, none⟩ = some (.int .i64 a))) := fun W hW => by
    have := Wg.get s a width W hs (by omega) (by unfold maxLen at hs; omega)
    rw [hE] at this
    refine this.mono (fun e w' h => ?_)
    obtain ⟨h1, rfl⟩ := h
    have q := (hr.below hW).parts
    exact ⟨h1, hW, q.1, q.2.1⟩
  generalize gN s a width = N at *
  generalize gX s a width = X at *
  have HR := hid hr
  clear hr hs h0 hE
  go_enter Tryd.func55, Tryd.ntmps55
  go_wp2_with fail
  go_region_held3 (fun w' => w'.cell? ⟨b, 0, none⟩ = some (.string s) ∧ w'.cell? ⟨b, 1, none⟩ = some (.int .i64 a)) (first | exact hS | go_keep) ((go_at_call 73; refine (CG.out _ (Below.refl _ _).drew).mono ?_; rintro e w1 ⟨rfl, b1, hS⟩))
  obtain ⟨q0, q1, q2, q3⟩ := (HR.out.below b1).parts
  have R1 := hid ((HR.out.below b1).set X)
  clear hS
  go_wp2_with fail
  refine (checkOk _).mono ?_
  rintro e w2 ⟨rfl, rfl⟩
  go_wp2_with fail
  go_ret
  exact ⟨rfl, R1.out, grown_trans (grown_below_some b1 _) (grown_at _)⟩

theorem numBad (b : Nat) (s : ByteArray) (a width : Int) (w : World) (hs : s.size ≤ maxLen) (h0 : 0 ≤ a ∧ a ≤ (s.size : Int)) (hr : Rdr w b s a) (hE : gE s a width ≠ 0) :
    Calls Tryd.prog 55 #[.pointer (some ⟨b, 0, none⟩), .int .i64 width] w fun e w' => e = .panicked (flt (gE s a width)) ∧ w.grownBy w' (some b) := by
  obtain ⟨c0, c1, c2, c3⟩ := hr.parts
  have CG : Hid (∀ W, Below w.heap.size w W → Calls Tryd.prog 73 #[.string s, .int .i64 a, .int .i64 width] W fun e w' => e = .returned (.tuple #[.int .u64 (gN s a width), .int .i64 (gX s a width), .int .i64 (gE s a width)]) ∧ Below w.heap.size w w' ∧ (w'.cell? ⟨b, 0, none⟩ = some (.string s) ∧ w'.cell? ⟨b, 1, none⟩ = some (.int .i64 a))) := fun W hW => by
    refine (Wg.get s a width W hs (by omega) (by unfold maxLen at hs; omega)).mono (fun e w' h => ?_)
    obtain ⟨h1, rfl⟩ := h
    have q := (hr.below hW).parts
    exact ⟨h1, hW, q.1, q.2.1⟩
  generalize gN s a width = N at *
  generalize gX s a width = X at *
  generalize gE s a width = E at *
  have HE := hid hE
  clear hr hs h0 hE
  go_enter Tryd.func55, Tryd.ntmps55
  go_wp2_with fail
  go_region_held3 (fun w' => w'.cell? ⟨b, 0, none⟩ = some (.string s) ∧ w'.cell? ⟨b, 1, none⟩ = some (.int .i64 a)) (first | exact hS | go_keep) ((go_at_call 73; refine (CG.out _ (Below.refl _ _).drew).mono ?_; rintro e w1 ⟨rfl, b1, hS⟩))
  clear hS
  go_wp2_with fail
  refine (checkBad _ _ HE.out).mono ?_
  rintro e w2 ⟨rfl, rfl⟩
  go_wp2_with fail
  exact ⟨rfl, rfl, grown_below_some b1 _⟩

/-- What a reading gives: a value, the reader behind it; or a fault. -/
def Gave (r : Except Int (Value × Int)) (b : Nat) (s : ByteArray) (e : Ending) (w' : World) : Prop := match r with
  | .ok x => e = .returned x.1 ∧ Rdr w' b s x.2
  | .error c => e = .panicked (flt c)
def numV (r : Except Int (Int × Int)) : Except Int (Value × Int) := match r with | .ok x => .ok (.int .u64 x.1, x.2) | .error c => .error c
def textV (r : Except Int (ByteArray × Int)) : Except Int (Value × Int) := match r with | .ok x => .ok (.string x.1, x.2) | .error c => .error c

theorem folded (b : Nat) (s : ByteArray) (a : Int) (w : World) (hs : s.size ≤ maxLen) (h0 : 0 ≤ a ∧ a ≤ (s.size : Int)) (hr : Rdr w b s a) :
    Calls Tryd.prog 57 #[.pointer (some ⟨b, 0, none⟩)] w fun e w' => Gave (numV (numR s a)) b s e w' ∧ w.grownBy w' (some b) := by
  by_cases c1 : gE s a 1 = 0
  · have hN := (gN_range s a 1).1
    have hN2 := gN_1 s a
    have hX := gX_range s a 1
    have CN := hid (numOk b s a 1 w hs h0 hr c1)
    by_cases c2 : 8 < gN s a 1
    · have e0 : numR s a = .error 4 := by unfold numR; rw [if_neg (by omega), if_pos c2]
      rw [e0]
      generalize gN s a 1 = N at *
      generalize gX s a 1 = X at *
      clear hs h0 hr e0
      go_enter Tryd.func57, Tryd.ntmps57
      go_wp2_with fail
      refine CN.out.mono ?_
      rintro e w1 ⟨rfl, _, g1⟩
      go_wp2_with fail
      refine (fail _ _).mono ?_
      rintro e w2 ⟨rfl, rfl⟩
      go_wp2_with fail
      exact ⟨rfl, rfl, g1⟩
    · by_cases c3 : gN s a 1 = 0
      · have e0 : numR s a = .ok (0, gX s a 1) := by unfold numR; rw [if_neg (by omega), if_neg c2, if_pos c3]
        rw [e0]
        rw [c3] at CN
        generalize gX s a 1 = X at *
        clear hs h0 hr e0
        go_enter Tryd.func57, Tryd.ntmps57
        go_wp2_with fail
        refine CN.out.mono ?_
        rintro e w1 ⟨rfl, R1, g1⟩
        have R1 := hid R1
        go_wp2_with fail
        go_ret
        exact ⟨⟨rfl, R1.out⟩, g1⟩
      · by_cases c4 : gE s (gX s a 1) (gN s a 1) = 0
        · have CM := hid (fun W hW => numOk b s (gX s a 1) (gN s a 1) W hs hX hW c4)
          have hM := gN_range s (gX s a 1) (gN s a 1)
          have CZ : Hid (∀ W, Calls Tryd.prog 69 #[.int .u64 (gN s (gX s a 1) (gN s a 1))] W fun e w' => e = .returned (.int .i64 (wid (gN s (gX s a 1) (gN s a 1)))) ∧ W = w') := fun W => (Wz.width _ W hM.1 hM.2).mono (fun e w' h => ⟨h.1, h.2⟩)
          by_cases c5 : (wid (gN s (gX s a 1) (gN s a 1)) : Int) = gN s a 1
          · have e0 : numR s a = .ok (gN s (gX s a 1) (gN s a 1), gX s (gX s a 1) (gN s a 1)) := by unfold numR; rw [if_neg (by omega), if_neg c2, if_neg c3, if_neg (by omega), if_neg (by omega)]
            rw [e0]
            rw [c5] at CZ
            clear hs h0 hr e0 c4 c5 c1
            generalize gX s (gX s a 1) (gN s a 1) = X2 at *
            generalize gN s (gX s a 1) (gN s a 1) = N2 at *
            generalize gN s a 1 = N at *
            generalize gX s a 1 = X at *
            go_enter Tryd.func57, Tryd.ntmps57
            go_wp2_with fail
            refine CN.out.mono ?_
            rintro e w1 ⟨rfl, R1, g1⟩
            have R1 := hid R1
            go_wp2_with fail
            refine (CM.out _ R1.out).mono ?_
            rintro e w2 ⟨rfl, R2, g2⟩
            have R2 := hid R2
            go_wp2_with fail
            refine (CZ.out _).mono ?_
            rintro e w3 ⟨rfl, rfl⟩
            go_wp2_with fail
            go_ret
            exact ⟨⟨rfl, R2.out⟩, grown_trans g1 g2⟩
          · have e0 : numR s a = .error 4 := by unfold numR; rw [if_neg (by omega), if_neg c2, if_neg c3, if_neg (by omega), if_pos c5]
            rw [e0]
            have c5' : ((wid (gN s (gX s a 1) (gN s a 1)) : Int) != gN s a 1) = true := by simpa using c5
            have HW := wid_8 hM.2
            clear hs h0 hr e0 c4 c1
            generalize gX s (gX s a 1) (gN s a 1) = X2 at *
            generalize wid (gN s (gX s a 1) (gN s a 1)) = K at *
            generalize gN s (gX s a 1) (gN s a 1) = N2 at *
            generalize gN s a 1 = N at *
            generalize gX s a 1 = X at *
            go_enter Tryd.func57, Tryd.ntmps57
            go_wp2_with fail
            refine CN.out.mono ?_
            rintro e w1 ⟨rfl, R1, g1⟩
            have R1 := hid R1
            go_wp2_with fail
            refine (CM.out _ R1.out).mono ?_
            rintro e w2 ⟨rfl, R2, g2⟩
            have R2 := hid R2
            go_wp2_with fail
            refine (CZ.out _).mono ?_
            rintro e w3 ⟨rfl, rfl⟩
            go_wp2_with fail
            refine (fail _ _).mono ?_
            rintro e w4 ⟨rfl, rfl⟩
            go_wp2_with fail
            exact ⟨rfl, rfl, grown_trans g1 g2⟩
        · have e0 : numR s a = .error (gE s (gX s a 1) (gN s a 1)) := by unfold numR; rw [if_neg (by omega), if_neg c2, if_neg c3, if_pos c4]
          rw [e0]
          have CM := hid (fun W hW => numBad b s (gX s a 1) (gN s a 1) W hs hX hW c4)
          clear hs h0 hr e0 c1 c4
          generalize gE s (gX s a 1) (gN s a 1) = E2 at *
          generalize gN s a 1 = N at *
          generalize gX s a 1 = X at *
          go_enter Tryd.func57, Tryd.ntmps57
          go_wp2_with fail
          refine CN.out.mono ?_
          rintro e w1 ⟨rfl, R1, g1⟩
          have R1 := hid R1
          go_wp2_with fail
          refine (CM.out _ R1.out).mono ?_
          rintro e w2 ⟨rfl, g2⟩
          go_wp2_with fail
          exact ⟨rfl, rfl, grown_trans g1 g2⟩
  · have e0 : numR s a = .error (gE s a 1) := by unfold numR; rw [if_pos c1]
    rw [e0]
    have CN := hid (numBad b s a 1 w hs h0 hr c1)
    generalize gE s a 1 = E at *
    clear hs h0 hr e0 c1
    go_enter Tryd.func57, Tryd.ntmps57
    go_wp2_with fail
    refine CN.out.mono ?_
    rintro e w1 ⟨rfl, g1⟩
    go_wp2_with fail
    exact ⟨rfl, rfl, g1⟩

theorem text (b : Nat) (s : ByteArray) (a : Int) (w : World) (hs : s.size ≤ maxLen) (h0 : 0 ≤ a ∧ a ≤ (s.size : Int)) (hr : Rdr w b s a) :
    Calls Tryd.prog 58 #[.pointer (some ⟨b, 0, none⟩)] w fun e w' => Gave (textV (textR s a)) b s e w' ∧ w.grownBy w' (some b) := by
  obtain ⟨c0, c1, c2, c3⟩ := hr.parts
  have CG : Hid (∀ W, Below w.heap.size w W → Calls Tryd.prog 75 #[.string s, .int .i64 a] W fun e w' => e = .returned (.tuple #[.string (xB s a), .int .i64 (xX s a), .int .i64 (xE s a)]) ∧ Below w.heap.size w w' ∧ (w'.cell? ⟨b, 0, none⟩ = some (.string s) ∧ w'.cell? ⟨b, 1, none⟩ = some (.int .i64 a))) := fun W hW =>
    (Wt.getText s a W hs (by omega) (by unfold maxLen at hs; omega)).mono (fun e w' h => by
      have q := (hr.below (hW.trans (h.2.mono hW.size))).parts
      exact ⟨h.1, hW.trans (h.2.mono hW.size), q.1, q.2.1⟩)
  have HS := xB_size s a
  have HS2 : (xB s a).size ≤ 9223372036854775807 := by unfold maxLen at hs; omega
  have HR := hid hr
  clear HS
  by_cases d1 : xE s a = 0
  · rw [d1] at CG
    by_cases d2 : 4096 < (xB s a).size
    · have e0 : textR s a = .error 5 := by unfold textR; rw [if_neg (by omega), if_pos d2]
      rw [e0]
      have d2' : (4096 : Int) < ((xB s a).size : Int) := by omega
      generalize xB s a = B at *
      generalize xX s a = X at *
      clear hs h0 hr e0 d1 d2
      go_enter Tryd.func58, Tryd.ntmps58
      go_wp2_with fail
      go_region_held3 (fun w' => w'.cell? ⟨b, 0, none⟩ = some (.string s) ∧ w'.cell? ⟨b, 1, none⟩ = some (.int .i64 a)) (first | exact hS | go_keep) ((go_at_call 75; refine (CG.out _ (Below.refl _ _).drew).mono ?_; rintro e w1 ⟨rfl, b1, hS⟩))
      clear hS
      go_wp2_with fail
      refine (checkOk _).mono ?_
      rintro e w2 ⟨rfl, rfl⟩
      go_wp2_with fail
      refine (fail _ _).mono ?_
      rintro e w2 ⟨rfl, rfl⟩
      go_wp2_with fail
      exact ⟨rfl, rfl, grown_below_some b1 _⟩
    · have e0 : textR s a = .ok (xB s a, xX s a) := by unfold textR; rw [if_neg (by omega), if_neg d2]
      rw [e0]
      have d2' : ¬ (4096 : Int) < ((xB s a).size : Int) := by omega
      generalize xB s a = B at *
      generalize xX s a = X at *
      clear hs h0 hr e0 d1 d2
      go_enter Tryd.func58, Tryd.ntmps58
      go_wp2_with fail
      go_region_held3 (fun w' => w'.cell? ⟨b, 0, none⟩ = some (.string s) ∧ w'.cell? ⟨b, 1, none⟩ = some (.int .i64 a)) (first | exact hS | go_keep) ((go_at_call 75; refine (CG.out _ (Below.refl _ _).drew).mono ?_; rintro e w1 ⟨rfl, b1, hS⟩))
      clear hS
      obtain ⟨q0, q1, q2, q3⟩ := (HR.out.below b1).parts
      have R1 := hid ((HR.out.below b1).set X)
      go_wp2_with fail
      refine (checkOk _).mono ?_
      rintro e w2 ⟨rfl, rfl⟩
      go_wp2_with fail
      go_ret
      exact ⟨⟨rfl, R1.out⟩, grown_trans (grown_below_some b1 _) (grown_at _)⟩
  · have e0 : textR s a = .error (xE s a) := by unfold textR; rw [if_pos d1]
    rw [e0]
    generalize xB s a = B at *
    generalize xX s a = X at *
    generalize xE s a = E at *
    have HE := hid d1
    clear hs h0 hr e0 d1
    go_enter Tryd.func58, Tryd.ntmps58
    go_wp2_with fail
    go_region_held3 (fun w' => w'.cell? ⟨b, 0, none⟩ = some (.string s) ∧ w'.cell? ⟨b, 1, none⟩ = some (.int .i64 a)) (first | exact hS | go_keep) ((go_at_call 75; refine (CG.out _ (Below.refl _ _).drew).mono ?_; rintro e w1 ⟨rfl, b1, hS⟩))
    clear hS
    go_wp2_with fail
    refine (checkBad _ _ HE.out).mono ?_
    rintro e w2 ⟨rfl, rfl⟩
    go_wp2_with fail
    exact ⟨rfl, rfl, grown_below_some b1 _⟩

end Go.Proofs.YtkelipedpjmmaaaDoor.Wr
