/-
  The walks of pack's reader over a value and over a list: what 'valR', 'listR' say, in new memory, or a fault with the first error. Nothing but the reader's own place has turned in memory. Conditions: the reader is there, its place within the text.
-/
import Derived.Test.YtkelipedpjmmaaaDoorRead
import Derived.Test.YtkelipedpjmmaaaDoorCopied
namespace Go.Proofs.YtkelipedpjmmaaaDoor.Wr
open Go.ChangeShapes Go.WideShapes Go.ChangeAt Go.RowKit Go.Proofs.YtkelipedpjmmaaaDoor.M Go.Proofs.YtkelipedpjmmaaaDoor.Wf

/-- What a reading of a value gives. -/
def GaveV (r : Except Int (V × Int)) (b : Nat) (s : ByteArray) (X : Nat) (e : Ending) (w' : World) : Prop := match r with
  | .ok x => ∃ p cap, e = .returned (.agg #[.int .i64 x.1.k, .int .i64 x.1.n, .string x.1.s, .slice p x.1.l.len cap]) ∧ Rd w' (fun g => X ≤ g) (.slice p x.1.l.len cap) x.1.l ∧ Rdr w' b s x.2
  | .error c => e = .panicked (flt c)
/-- What a reading of a list gives. -/
def GaveL (r : Except Int (F × Int)) (b : Nat) (s : ByteArray) (X : Nat) (e : Ending) (w' : World) : Prop := match r with
  | .ok x => ∃ p cap, e = .returned (.slice p x.1.len cap) ∧ Rd w' (fun g => X ≤ g) (.slice p x.1.len cap) x.1 ∧ Rdr w' b s x.2
  | .error c => e = .panicked (flt c)

/-- The cell that the result is laid in. -/
theorem boxed {w w2 : World} {b : Nat} (hb : b < w.heap.size) (hg : (w.alloc (.cells #[.int .i64 0, .int .i64 0, .string ⟨#[]⟩, .slice none 0 0] 50)).grownBy w2 (some b)) :
    w2.cell? ⟨w.heap.size, 0, none⟩ = some (.int .i64 0) ∧ w2.cell? ⟨w.heap.size, 1, none⟩ = some (.int .i64 0) ∧ w2.cell? ⟨w.heap.size, 2, none⟩ = some (.string ⟨#[]⟩) ∧ w2.cell? ⟨w.heap.size, 3, none⟩ = some (.slice none 0 0) ∧ (∀ j, w2.frozen? ⟨w.heap.size, j, none⟩ = false) ∧ w.heap.size < w2.heap.size := by
  have h := (hg.block w.heap.size (by simp) (by simp; omega)).trans (heap_alloc_new w _)
  exact ⟨by simp [World.cell?, h], by simp [World.cell?, h], by simp [World.cell?, h], by simp [World.cell?, h], fun j => frozen_there h j, lt_of_heap h⟩

theorem put4_box {w : World} {g : Nat} {cur : Array Value} {ty : TypeId} (hg : w.heap[g]? = some (.cells cur ty (0, 0))) (a b c d : Value) :
    (put4 w g 0 a b c d).heap[g]? = some (.cells ((((cur.setIfInBounds 0 a).setIfInBounds 1 b).setIfInBounds 2 c).setIfInBounds 3 d) ty (0, 0)) := heap_set1 (heap_set1 (heap_set1 (heap_set1 hg _ _) _ _) _ _) _ _
/-- The result laid. -/
theorem laid {w w3 : World} {b : Nat} {s : ByteArray} {q : Int} {L : Value} {l : F} {k n : Int} {t : ByteArray} (hb : b < w.heap.size) (hg : (w.alloc (.cells #[.int .i64 0, .int .i64 0, .string ⟨#[]⟩, .slice none 0 0] 50)).grownBy w3 (some b)) (hr : Rdr w3 b s q) (hL : Rd w3 (fun g => w.heap.size + 1 ≤ g) L l) :
    (put4 w3 w.heap.size 0 (.int .i64 k) (.int .i64 n) (.string t) L).heap[w.heap.size]? = some (.cells #[.int .i64 k, .int .i64 n, .string t, L] 50 (0, 0)) ∧ Rdr (put4 w3 w.heap.size 0 (.int .i64 k) (.int .i64 n) (.string t) L) b s q ∧ Rd (put4 w3 w.heap.size 0 (.int .i64 k) (.int .i64 n) (.string t) L) (fun g => w.heap.size ≤ g) L l ∧ w.grownBy (put4 w3 w.heap.size 0 (.int .i64 k) (.int .i64 n) (.string t) L) (some b) := by
  have h := (hg.block w.heap.size (by simp) (by simp; omega)).trans (heap_alloc_new w _)
  refine ⟨?_, ?_, ?_, ?_⟩
  · rw [put4_box h]; rfl
  · unfold Rdr; rw [put4_other (by omega)]; exact hr
  · exact rd_of (fun g hg => by omega) (fun g hg o ho => (put4_other (by omega)).trans ho) hL
  · have h1 : w.grownBy w3 (some b) := grown_trans (grown_some (grown1 _ _) _) hg
    exact ⟨h1.os, h1.tape, h1.output, by rw [put4_size]; exact h1.size, fun j hj hn => (put4_other (by omega)).trans (h1.block j hj hn)⟩

theorem value0 (m d : Nat) (b : Nat) (s : ByteArray) (a : Int) (w : World) (hs : s.size ≤ maxLen) (h0 : 0 ≤ a ∧ a ≤ (s.size : Int)) (hr : Rdr w b s a)
    (CL : ∀ W a', 0 ≤ a' ∧ a' ≤ (s.size : Int) → Rdr W b s a' → Calls Tryd.prog 59 #[.pointer (some ⟨b, 0, none⟩), .int .i64 (d : Int)] W fun e w' => GaveL (listR s (valR s) m a') b s W.heap.size e w' ∧ W.grownBy w' (some b)) :
    Calls Tryd.prog 41 #[.pointer (some ⟨b, 0, none⟩), .int .i64 (d : Int)] w fun e w' => GaveV (valR s m a) b s w.heap.size e w' ∧ w.grownBy w' (some b) := by
  have hX := gX_range s a 1
  by_cases c1 : gE s a 1 = 0
  · have hlt := hr.parts.2.2.2
    have CN := hid (fun W hW => numOk b s a 1 W hs h0 hW c1)
    have HR := hid (hr.below ((Below.refl _ _).alloc (Nat.le_refl _) (.cells #[.int .i64 0, .int .i64 0, .string ⟨#[]⟩, .slice none 0 0] 50)))
    have hN := (gN_range s a 1).1
    have hN2 := gN_1 s a
    by_cases k1 : gN s a 1 = 1
    · have e0 : valR s m a = overN (numR s (gX s a 1)) := by rw [valR_eq, if_neg (by omega), if_pos k1]
      rw [e0]
      rw [k1] at CN
      have CF := hid (fun W hW => folded b s (gX s a 1) W hs hX hW)
      generalize hq : numR s (gX s a 1) = q at *
      have HU : Hid (∀ x, q = .ok x → 0 ≤ x.1 ∧ x.1 < 18446744073709551616) := fun x hx => by
        rw [hx] at hq
        unfold numR at hq
        split at hq; · cases hq
        split at hq; · cases hq
        split at hq; · cases hq; simp
        split at hq; · cases hq
        split at hq; · cases hq
        cases hq; exact gN_range _ _ _
      generalize gX s a 1 = X at *
      clear hs h0 hr CL hq e0 k1 c1 hN hN2
      go_enter Tryd.func41, Tryd.ntmps41
      go_wp2_with fail
      refine (CN.out _ HR.out).mono ?_
      rintro e w1 ⟨rfl, R1, g1⟩
      have R1 := hid R1
      go_wp2_with fail
      refine (CF.out _ R1.out).mono ?_
      rintro e w2 ⟨h2, g2⟩
      cases q with
      | error c =>
        have h2' : e = .panicked (flt c) := h2
        clear h2
        subst h2'
        go_wp2_with fail
        exact ⟨rfl, rfl, grown_trans (grown_some (grown1 _ _) _) (grown_trans g1 g2)⟩
      | ok x =>
        obtain ⟨h3, h4⟩ := h2
        have h3' : e = .returned (.int .u64 x.1) := h3
        clear h3
        subst h3'
        have R2 := hid h4
        clear h4
        have hu := HU.out x rfl
        obtain ⟨x0, x1, x2, x3, xf, xl⟩ := boxed hlt (grown_trans g1 g2)
        go_wp2_with fail
        refine (Wk.unfold x.1 _ hu.1 hu.2).mono ?_
        rintro e w3 ⟨rfl, rfl⟩
        go_wp2_with fail
        obtain ⟨z0, z1, z2, z3⟩ := laid (k := 0) (n := unfoldI x.1) (t := ⟨#[]⟩) hlt (grown_trans g1 g2) R2.out (rd_nil _ _)
        exact bodyPost_ret (v := .agg #[.int .i64 0, .int .i64 (unfoldI x.1), .string ⟨#[]⟩, .slice none 0 0]) (by simp [results, Tryd.results41, go_sem, x0, x1, x2, x3]) rfl ⟨⟨_, _, rfl, z2, z1⟩, z3⟩
    by_cases k2 : gN s a 1 = 2
    · have e0 : valR s m a = overT (textR s (gX s a 1)) := by rw [valR_eq, if_neg (by omega), if_neg k1, if_pos k2]
      rw [e0]
      rw [k2] at CN
      have CF := hid (fun W hW => text b s (gX s a 1) W hs hX hW)
      generalize textR s (gX s a 1) = q at *
      generalize gX s a 1 = X at *
      clear hs h0 hr CL e0 k1 k2 c1 hN hN2
      go_enter Tryd.func41, Tryd.ntmps41
      go_wp2_with fail
      refine (CN.out _ HR.out).mono ?_
      rintro e w1 ⟨rfl, R1, g1⟩
      have R1 := hid R1
      go_wp2_with fail
      refine (CF.out _ R1.out).mono ?_
      rintro e w2 ⟨h2, g2⟩
      cases q with
      | error c =>
        have h2' : e = .panicked (flt c) := h2
        clear h2
        subst h2'
        go_wp2_with fail
        exact ⟨rfl, rfl, grown_trans (grown_some (grown1 _ _) _) (grown_trans g1 g2)⟩
      | ok x =>
        obtain ⟨h3, h4⟩ := h2
        have h3' : e = .returned (.string x.1) := h3
        clear h3
        subst h3'
        have R2 := hid h4
        clear h4
        obtain ⟨x0, x1, x2, x3, xf, xl⟩ := boxed hlt (grown_trans g1 g2)
        go_wp2_with fail
        obtain ⟨z0, z1, z2, z3⟩ := laid (k := 1) (n := 0) (t := x.1) hlt (grown_trans g1 g2) R2.out (rd_nil _ _)
        exact bodyPost_ret (v := .agg #[.int .i64 1, .int .i64 0, .string x.1, .slice none 0 0]) (by simp [results, Tryd.results41, go_sem, x0, x1, x2, x3]) rfl ⟨⟨_, _, rfl, z2, z1⟩, z3⟩
    by_cases k3 : gN s a 1 = 3
    · have e0 : valR s m a = overL (listR s (valR s) m (gX s a 1)) := by rw [valR_eq, if_neg (by omega), if_neg k1, if_neg k2, if_pos k3]
      rw [e0]
      rw [k3] at CN
      have CF := hid (fun W hW => CL W (gX s a 1) hX hW)
      generalize listR s (valR s) m (gX s a 1) = q at *
      generalize gX s a 1 = X at *
      clear hs h0 hr CL e0 k1 k2 k3 c1 hN hN2
      go_enter Tryd.func41, Tryd.ntmps41
      go_wp2_with fail
      refine (CN.out _ HR.out).mono ?_
      rintro e w1 ⟨rfl, R1, g1⟩
      have R1 := hid R1
      go_wp2_with fail
      refine (CF.out _ R1.out).mono ?_
      rintro e w2 ⟨h2, g2⟩
      cases q with
      | error c =>
        have h2' : e = .panicked (flt c) := h2
        clear h2
        subst h2'
        go_wp2_with fail
        exact ⟨rfl, rfl, grown_trans (grown_some (grown1 _ _) _) (grown_trans g1 g2)⟩
      | ok x =>
        obtain ⟨p, cap, h3, h4, h5⟩ := h2
        subst h3
        have R2 := hid h5
        have L2 := hid h4
        clear h4 h5
        obtain ⟨x0, x1, x2, x3, xf, xl⟩ := boxed hlt (grown_trans g1 g2)
        have s1 : w.heap.size + 1 ≤ w1.heap.size := by have := g1.size; simpa using this
        have L3 := hid (rd_of (A' := fun g => w.heap.size + 1 ≤ g) (fun g hg => by omega) (fun _ _ _ h => h) L2.out)
        go_wp2_with fail
        obtain ⟨z0, z1, z2, z3⟩ := laid (k := 2) (n := 0) (t := ⟨#[]⟩) hlt (grown_trans g1 g2) R2.out L3.out
        exact bodyPost_ret (v := .agg #[.int .i64 2, .int .i64 0, .string ⟨#[]⟩, .slice p x.1.len cap]) (by simp [results, Tryd.results41, go_sem, x0, x1, x2, x3]) rfl ⟨⟨_, _, rfl, z2, z1⟩, z3⟩
    · have e0 : valR s m a = .error 4 := by rw [valR_eq, if_neg (by omega), if_neg k1, if_neg k2, if_neg k3]
      rw [e0]
      generalize gN s a 1 = N at *
      generalize gX s a 1 = X at *
      clear hs h0 hr CL e0 c1
      go_enter Tryd.func41, Tryd.ntmps41
      go_wp2_with fail
      refine (CN.out _ HR.out).mono ?_
      rintro e w1 ⟨rfl, R1, g1⟩
      have R1 := hid R1
      go_wp2_with fail
      exact ⟨rfl, rfl, grown_trans (grown_some (grown1 _ _) _) (by first | exact g1 | exact grown_trans g1 (grown_some (grown1 _ _) _))⟩
  · have e0 : valR s m a = .error (gE s a 1) := by rw [valR_eq, if_pos c1]
    rw [e0]
    have CN := hid (fun W hW => numBad b s a 1 W hs h0 hW c1)
    have HR := hid (hr.below ((Below.refl _ _).alloc (Nat.le_refl _) (.cells #[.int .i64 0, .int .i64 0, .string ⟨#[]⟩, .slice none 0 0] 50)))
    generalize gE s a 1 = E at *
    clear hs h0 hr CL e0 c1
    go_enter Tryd.func41, Tryd.ntmps41
    go_wp2_with fail
    refine (CN.out _ HR.out).mono ?_
    rintro e w1 ⟨rfl, g1⟩
    go_wp2_with fail
    exact ⟨rfl, rfl, grown_trans (grown_some (grown1 _ _) _) g1⟩

theorem makeU (k : Nat) (hk : k ≤ 140737488355328) (u : World) (hb : k * 56 ≤ 281474976710656) : (Instr.makeSlice 48 (.int .u64 (k : Int)) (.int .u64 (k : Int))).run Tryd.prog u =
      .ok (.slice (some ⟨u.heap.size, 0, none⟩) k k) (u.alloc (.cells (madeCells #[.int .i64 0, .int .i64 0, .string ⟨#[]⟩, .slice none 0 0] (k * 4)) 50)) := by
  obtain ⟨i0, hi, hz0, hz1, hz2⟩ := info_parts Wy.infoV
  have h := run_make (P := Tryd.prog) u 48 50 i0 _ Tryd.underlying48 hi hz0 .u64 .u64 (k : Int) (k : Int) (by omega) (Int.le_refl _) (by rw [hz2]; omega) (by omega)
  simpa [hz1, Value.cells] using h

theorem listDeep (b : Nat) (w : World) : Calls Tryd.prog 59 #[.pointer (some ⟨b, 0, none⟩), .int .i64 8] w fun e w' => e = .panicked (flt 5) ∧ w = w' := by
  go_enter Tryd.func59, Tryd.ntmps59
  go_wp2_with fail
  refine (fail _ _).mono ?_
  rintro e w1 ⟨rfl, rfl⟩
  go_wp2_with fail
  exact ⟨rfl, rfl, rfl⟩

set_option maxHeartbeats 1000000 in
theorem list (m : Nat) : ∀ (d : Nat) (b : Nat) (s : ByteArray) (a : Int) (w : World), m + d = 8 → s.size ≤ maxLen → 0 ≤ a ∧ a ≤ (s.size : Int) → Rdr w b s a →
    Calls Tryd.prog 59 #[.pointer (some ⟨b, 0, none⟩), .int .i64 (d : Int)] w fun e w' => GaveL (listR s (valR s) m a) b s w.heap.size e w' ∧ w.grownBy w' (some b) := by
  induction m with
  | zero =>
    intro d b s a w hd hs h0 hr
    have : d = 8 := by omega
    subst this
    exact (listDeep b w).mono (fun e w' h => ⟨h.1, h.2 ▸ grown_refl _ _⟩)
  | succ m ih =>
    intro d b s a w hd hs h0 hr
    have hlt := hr.parts.2.2.2
    have c8 : ¬ (8 : Int) ≤ (d : Int) := by omega
    have hX := gX_range s a 2
    by_cases c1 : gE s a 2 = 0
    · have CN := hid (numOk b s a 2 w hs h0 hr c1)
      obtain ⟨n0, n1, _, _⟩ := g_two c1
      by_cases c2 : 256 < gN s a 2
      · have e0 : listR s (valR s) (m + 1) a = .error 5 := by simp only [listR]; rw [if_neg (by omega), if_pos c2]
        rw [e0]
        generalize gN s a 2 = N at *
        generalize gX s a 2 = X at *
        clear hs h0 hr e0 c1 ih
        go_enter Tryd.func59, Tryd.ntmps59
        go_wp2_with fail
        refine CN.out.mono ?_
        rintro e w1 ⟨rfl, _, g1⟩
        go_wp2_with fail
        refine (fail _ _).mono ?_
        rintro e w2 ⟨rfl, rfl⟩
        go_wp2_with fail
        exact ⟨rfl, rfl, g1⟩
      · have e0 : listR s (valR s) (m + 1) a = rowR (valR s m) (gN s a 2).toNat (gX s a 2) := by simp only [listR]; rw [if_neg (by omega), if_neg c2]
        rw [e0]
        have eN : gN s a 2 = ((gN s a 2).toNat : Int) := by omega
        rw [eN] at CN
        have cN : (gN s a 2).toNat ≤ 256 := by omega
        generalize (gN s a 2).toNat = N at *
        generalize gX s a 2 = X at *
        have CV : Hid (∀ W a', 0 ≤ a' ∧ a' ≤ (s.size : Int) → Rdr W b s a' → Calls Tryd.prog 41 #[.pointer (some ⟨b, 0, none⟩), .int .i64 ((d : Int) + 1)] W fun e w' => GaveV (valR s m a') b s W.heap.size e w' ∧ W.grownBy w' (some b)) := fun W a' ha hW => by
          have hcast : (d : Int) + 1 = ((d + 1 : Nat) : Int) := by omega
          rw [hcast]
          exact value0 m (d + 1) b s a' W hs ha hW (fun W a' ha hW => ih (d + 1) b s a' W (by omega) hs ha hW)
        have HV : Hid (∀ a x, valR s m a = .ok x → 0 ≤ x.2 ∧ x.2 ≤ (s.size : Int)) := fun a x h => valR_at h
        have HR : Hid _ := hX
        have hmk : ∀ u, _ := fun u => makeU N (by omega) u (by omega)
        clear hs h0 hr c1 ih e0 eN n0 n1 c2 hX
        go_enter Tryd.func59, Tryd.ntmps59
        go_wp2_with fail
        refine CN.out.mono ?_
        rintro e w1 ⟨rfl, R1, g1⟩
        have R1 := hid R1
        have G1 := hid g1
        have hlt1 := R1.out.parts.2.2.2
        have w1s := G1.out.size
        clear g1
        generalize hT : rowR (valR s m) N X = T
        have HT := hid hT
        clear hT
        go_wp2_with fail
        go_loopw [20] (fun iv wr => ∃ (i : Nat) (pre : F) (at_ : Int) (cur : Array Value), iv = .int .i64 (i : Int) ∧ i ≤ N ∧ Hid (pre.len = i) ∧ Hid (T = front pre (rowR (valR s m) (N - i) at_)) ∧ Hid (0 ≤ at_ ∧ at_ ≤ (s.size : Int)) ∧ Hid (Rdr wr b s at_) ∧ Hid (w.grownBy wr (some b)) ∧ Hid (w1.heap.size + 1 ≤ wr.heap.size) ∧ Hid (wr.heap[w1.heap.size]? = some (.cells cur 50 (0, 0))) ∧ Hid (cur.size = N * 4) ∧ Hid (Fits wr (fun x => w1.heap.size < x) pre (cur.toList.take (i * 4)))) (fun i _ => N - (intOf i).toNat)
        case atStart => exact ⟨0, .nil, X, _, rfl, Nat.zero_le _, rfl, by show _ = _; rw [front_nil]; exact HT.out.symm, HR, R1.out.below ((Below.refl _ _).alloc (Nat.le_refl _) _), grown_trans G1.out (grown_some (grown1 _ _) _), by show _ ≤ _; simp, heap_alloc_new w1 _, size_madeCells _ _, by show Fits _ _ _ _; simp [Fits]⟩
        case round =>
          obtain ⟨i, pre, at_, cur, rfl, hi, hpl, he, hat, hrd, hg, hz, hrow, hcs, hpre⟩ := hrel
          by_cases hlti : i < N
          · have I0 : (0 : Int) ≤ (i : Int) := by omega
            have I1 : (i : Int) < (N : Int) := by omega
            obtain ⟨q, hq⟩ : ∃ q, Hid (q = valR s m at_) := ⟨_, rfl⟩
            have CC : Hid (Calls Tryd.prog 41 #[.pointer (some ⟨b, 0, none⟩), .int .i64 ((d : Int) + 1)] wr fun e w' => GaveV q b s wr.heap.size e w' ∧ wr.grownBy w' (some b)) := by rw [hq.out]; exact CV.out wr at_ hat.out hrd.out
            have hNi : N - i = (N - (i + 1)) + 1 := by omega
            have EF := hid he.out
            rw [hNi] at EF
            clear hmk hNi
            go_wp2_with fail
            refine CC.out.mono ?_
            rintro e w2 ⟨h2, g2⟩
            cases q with
            | error c =>
              have h2' : e = .panicked (flt c) := h2
              clear h2
              subst h2'
              have e1 : T = .error c := EF.out.trans (front_err hq.out.symm)
              go_wp2_with fail
              exact ⟨rfl, by rw [HT.out, e1]; rfl, grown_trans hg.out g2⟩
            | ok x =>
              obtain ⟨p, cap, h3, h4, h5⟩ := h2
              subst h3
              have R2 := hid h5
              have L2 := hid h4
              have G2 := hid g2
              have z := hz.out
              have cz := hcs.out
              have hrow2 : w2.heap[w1.heap.size]? = some (.cells cur 50 (0, 0)) := (g2.block _ (by omega) (by simp; omega)).trans hrow.out
              have t0 := cell_there hrow2 (j := i * 4) (by omega)
              have t1 := cell_there hrow2 (j := i * 4 + 1) (by omega)
              have t2 := cell_there hrow2 (j := i * 4 + 2) (by omega)
              have t3 := cell_there hrow2 (j := i * 4 + 3) (by omega)
              have f0 := frozen_there hrow2
              generalize cur[i * 4] = x0 at t0
              generalize cur[i * 4 + 1] = x1 at t1
              generalize cur[i * 4 + 2] = x2 at t2
              generalize cur[i * 4 + 3] = x3 at t3
              obtain ⟨cur', p1, p2, p3⟩ := put4_row hrow2 (j := i * 4) (by omega) (.int .i64 x.1.k) (.int .i64 x.1.n) (.string x.1.s) (.slice p x.1.l.len cap)
              have P1 := hid p1
              have P2 := hid p2
              have P3 := hid p3
              have s2 := g2.size
              clear p1 p2 p3 h4 h5 g2 hrow2 cz
              go_wp2_with fail
              go_roundw
              case rel =>
                refine ⟨i + 1, pre.app (.cons x.1.k x.1.n x.1.s x.1.l .nil), x.2, cur', by go_num, by omega, ?_, ?_, HV.out _ _ hq.out.symm, ?_, ?_, ?_, P1.out, ?_, ?_⟩
                · show _ = _
                  rw [F.len_app, hpl.out]; rfl
                · show _ = _
                  rw [EF.out, front_ok hq.out.symm]
                · show (put4 w2 w1.heap.size (i * 4) (.int .i64 x.1.k) (.int .i64 x.1.n) (.string x.1.s) (.slice p x.1.l.len cap)).heap[b]? = _
                  rw [put4_other (by omega)]; exact R2.out
                · show w.grownBy (put4 w2 w1.heap.size (i * 4) (.int .i64 x.1.k) (.int .i64 x.1.n) (.string x.1.s) (.slice p x.1.l.len cap)) (some b)
                  have h1 := grown_trans hg.out G2.out
                  exact ⟨h1.os, h1.tape, h1.output, by rw [put4_size]; exact h1.size, fun j hj hn => (put4_other (by omega)).trans (h1.block j hj hn)⟩
                · show _ ≤ (put4 w2 w1.heap.size (i * 4) (.int .i64 x.1.k) (.int .i64 x.1.n) (.string x.1.s) (.slice p x.1.l.len cap)).heap.size
                  rw [put4_size]; omega
                · show _ = _
                  rw [P2.out]; exact hcs.out
                · show Fits (put4 w2 w1.heap.size (i * 4) (.int .i64 x.1.k) (.int .i64 x.1.n) (.string x.1.s) (.slice p x.1.l.len cap)) _ _ _
                  rw [Nat.add_mul, P3.out]
                  have ho : ∀ g, w1.heap.size < g → ∀ o, w2.heap[g]? = some o → (put4 w2 w1.heap.size (i * 4) (.int .i64 x.1.k) (.int .i64 x.1.n) (.string x.1.s) (.slice p x.1.l.len cap)).heap[g]? = some o := fun g hg o h => (put4_other (by omega)).trans h
                  have hf2 : Fits w2 (fun y => w1.heap.size < y) pre (cur.toList.take (i * 4)) := fits_of (fun _ h => h) (fun g hg o h => (G2.out.block g (lt_of_heap h) (by simp; omega)).trans h) hpre.out
                  have hl2 : Rd w2 (fun y => w1.heap.size < y) (.slice p x.1.l.len cap) x.1.l := rd_of (fun g hg => by omega) (fun _ _ _ h => h) L2.out
                  exact fits_app (fits_of (fun _ h => h) ho hf2) (fits_one (rd_of (fun _ h => h) ho hl2))
              case measure => simp [intOf]; omega
          · have hiN : i = N := by omega
            subst hiN
            have e1 := he.out
            rw [Nat.sub_self] at e1
            have e2 : T = .ok (pre, at_) := by rw [e1]; simp [rowR, front, F.app_nil]
            clear e1 hmk
            go_wp2_with fail
            go_ret
            rw [HT.out, e2]
            have h := hpre.out
            have hl := hpl.out
            rw [← hl] at h
            refine ⟨⟨some ⟨w1.heap.size, 0, none⟩, i, by rw [hl]; rfl, rd_row hrow.out w1s (fun x hx => by omega) h (by rw [hl]; exact Nat.le_refl _) (by unfold maxLen; omega), hrd.out⟩, hg.out⟩
    · have e0 : listR s (valR s) (m + 1) a = .error (gE s a 2) := by simp only [listR]; rw [if_pos c1]
      rw [e0]
      have CN := hid (numBad b s a 2 w hs h0 hr c1)
      generalize gE s a 2 = E at *
      clear hs h0 hr e0 c1 ih
      go_enter Tryd.func59, Tryd.ntmps59
      go_wp2_with fail
      refine CN.out.mono ?_
      rintro e w1 ⟨rfl, g1⟩
      go_wp2_with fail
      exact ⟨rfl, rfl, g1⟩

theorem value (m d : Nat) (hd : m + d = 8) (b : Nat) (s : ByteArray) (a : Int) (w : World) (hs : s.size ≤ maxLen) (h0 : 0 ≤ a ∧ a ≤ (s.size : Int)) (hr : Rdr w b s a) :
    Calls Tryd.prog 41 #[.pointer (some ⟨b, 0, none⟩), .int .i64 (d : Int)] w fun e w' => GaveV (valR s m a) b s w.heap.size e w' ∧ w.grownBy w' (some b) :=
  value0 m d b s a w hs h0 hr (fun W a' ha hW => list m d b s a' W hd hs ha hW)

end Go.Proofs.YtkelipedpjmmaaaDoor.Wr
