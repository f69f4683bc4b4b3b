/-
  The walks of pack.valueOf, of the literal in pack.Get, and of pack.Get: the value that 'allR' says, in new memory, and 0; or the zero value, and the first error. Nothing that was in memory has turned. Conditions: the text's length is an int.
-/
import Derived.Test.YtkelipedpjmmaaaDoorReadV
import Derived.Test.YtkelipedpjmmaaaDoorCaught
namespace Go.Proofs.YtkelipedpjmmaaaDoor.Wr
open Go.ChangeShapes Go.WideShapes Go.ChangeAt Go.RowKit Go.Proofs.YtkelipedpjmmaaaDoor.M Go.Proofs.YtkelipedpjmmaaaDoor.Wf

/-- How a reading of all bytes ends. -/
def GaveA (r : Except Int V) (X : Nat) (e : Ending) (w' : World) : Prop := match r with
  | .ok v => ∃ p cap, e = .returned (.agg #[.int .i64 v.k, .int .i64 v.n, .string v.s, .slice p v.l.len cap]) ∧ Rd w' (fun g => X ≤ g) (.slice p v.l.len cap) v.l
  | .error c => e = .panicked (flt c)

/-- All bytes, or some left. -/
def endR (s : ByteArray) (q : Except Int (V × Int)) : Except Int V := match q with
  | .error e => .error e
  | .ok x => if x.2 = (s.size : Int) then .ok x.1 else .error 4
theorem all_end (s : ByteArray) : allR s = endR s (valR s 8 0) := rfl

theorem two (w : World) (a b : Obj) : ∀ X, X = (w.alloc a).alloc b → X.heap[w.heap.size]? = some a ∧ X.heap[w.heap.size + 1]? = some b ∧ X.heap.size = w.heap.size + 2 ∧ Below w.heap.size w X := by
  intro X hX
  have y1 := heap_alloc_new w a
  have y2 := heap_alloc_new (w.alloc a) b
  rw [World.size_alloc] at y2
  subst hX
  exact ⟨by rw [Below.heap_alloc _ _ _ (by simp), y1], y2, by simp, ((Below.refl _ _).alloc (Nat.le_refl _) _).alloc (by simp) _⟩
theorem below_grown {w X w' : World} {b : Nat} (h1 : Below w.heap.size w X) (hb : w.heap.size ≤ b) (h : X.grownBy w' (some b)) : Below w.heap.size w w' :=
  ⟨h.os.trans h1.os, h.tape.trans h1.tape, h.output.trans h1.output, Nat.le_trans h1.size h.size, fun j hj => (h.block j (Nat.lt_of_lt_of_le hj h1.size) (by simp; omega)).trans (h1.block j hj)⟩

set_option maxHeartbeats 1000000 in
theorem valueOf (s : ByteArray) (w : World) (hs : s.size ≤ maxLen) :
    Calls Tryd.prog 27 #[.string s] w fun e w' => Below w.heap.size w w' ∧ GaveA (allR s) w.heap.size e w' := by
  rw [all_end]
  obtain ⟨q, hq⟩ : ∃ q, Hid (q = valR s 8 0) := ⟨_, rfl⟩
  rw [← hq.out]
  have CV : Hid (∀ W b, Rdr W b s 0 → Calls Tryd.prog 41 #[.pointer (some ⟨b, 0, none⟩), .int .i64 0] W fun e w' => GaveV q b s W.heap.size e w' ∧ W.grownBy w' (some b)) := fun W b hW => by
    have := value 8 0 rfl b s 0 W hs (by omega) hW; rw [← hq.out] at this; exact this
  have HV : Hid (∀ x, q = .ok x → 0 ≤ x.2 ∧ x.2 ≤ (s.size : Int)) := fun x h => valR_at (hq.out ▸ h)
  unfold maxLen at hs
  go_enter Tryd.func27, Tryd.ntmps27
  go_wp2_with fail
  obtain ⟨X, hX⟩ : ∃ X, X = (w.alloc (.cells #[.int .i64 0, .int .i64 0, .string ⟨#[]⟩, .slice none 0 0] 50)).alloc (.cells #[.string s, .int .i64 0] 83) := ⟨_, rfl⟩
  rw [← hX]
  obtain ⟨x1, x2, x3, x4⟩ := two _ _ _ X hX
  have X1 := hid x1
  have X3 := hid x3
  have X4 := hid x4
  clear hX x1 x3 x4
  refine (CV.out X (w.heap.size + 1) x2).mono ?_
  rintro e w2 ⟨h2, g2⟩
  have hB := hid (below_grown X4.out (Nat.le_succ _) g2)
  cases q with
  | error c =>
    have h2' : e = .panicked (flt c) := h2
    clear h2
    subst h2'
    go_wp2_with fail
    exact ⟨rfl, hB.out, rfl⟩
  | ok x =>
    obtain ⟨p, cap, h3, h4, h5⟩ := h2
    subst h3
    obtain ⟨r0, r1, r2, r3⟩ := Rdr.parts h5
    have L2 := hid h4
    have hbox : w2.heap[w.heap.size]? = some (.cells #[.int .i64 0, .int .i64 0, .string ⟨#[]⟩, .slice none 0 0] 50 (0, 0)) := (g2.block _ (by have := X3.out; omega) (by simp)).trans X1.out
    have HB := hid hbox
    have v0 : w2.cell? ⟨w.heap.size, 0, none⟩ = some (.int .i64 0) := by simp [World.cell?, hbox]
    have v1 : w2.cell? ⟨w.heap.size, 1, none⟩ = some (.int .i64 0) := by simp [World.cell?, hbox]
    have v2 : w2.cell? ⟨w.heap.size, 2, none⟩ = some (.string ⟨#[]⟩) := by simp [World.cell?, hbox]
    have v3 : w2.cell? ⟨w.heap.size, 3, none⟩ = some (.slice none 0 0) := by simp [World.cell?, hbox]
    have vf := fun j => frozen_there hbox j
    have vl : w.heap.size < w2.heap.size := lt_of_heap hbox
    have hv := HV.out x rfl
    clear h4 h5 g2 hbox x2
    by_cases c : x.2 = (s.size : Int)
    · have e1 : endR s (.ok x) = .ok x.1 := by simp only [endR]; rw [if_pos c]
      rw [c] at r1
      have E1 := hid e1
      clear c e1 hv
      go_wp2_with fail
      have hZ : Below w.heap.size w ((put4 w2 w.heap.size 0 (.int .i64 x.1.k) (.int .i64 x.1.n) (.string x.1.s) (.slice p x.1.l.len cap)).alloc (.cells #[.int .i64 x.1.k, .int .i64 x.1.n, .string x.1.s, .slice p x.1.l.len cap] 50)) := (put4_below hB.out (Nat.le_refl _) _ _ _ _).alloc (by rw [put4_size]; omega) _
      have hR : Rd ((put4 w2 w.heap.size 0 (.int .i64 x.1.k) (.int .i64 x.1.n) (.string x.1.s) (.slice p x.1.l.len cap)).alloc (.cells #[.int .i64 x.1.k, .int .i64 x.1.n, .string x.1.s, .slice p x.1.l.len cap] 50)) (fun g => w.heap.size ≤ g) (.slice p x.1.l.len cap) x.1.l :=
        rd_below (rd_of (fun g hg => by have := X3.out; omega) (fun g hg o ho => (put4_other (by have := X3.out; omega)).trans ho) L2.out) ((Below.refl _ _).alloc (Nat.le_refl _) _)
      exact bodyPost_ret (v := .agg #[.int .i64 x.1.k, .int .i64 x.1.n, .string x.1.s, .slice p x.1.l.len cap]) (by simp [results, Tryd.results27, go_sem, v0, v1, v2, v3, vl]) rfl ⟨hZ, by rw [E1.out]; exact ⟨_, _, rfl, hR⟩⟩
    · have e1 : endR s (.ok x) = .error 4 := by simp only [endR]; rw [if_neg c]
      have E1 := hid e1
      have c' : (x.2 != (s.size : Int)) = true := by simpa using c
      clear c e1
      go_wp2_with fail
      refine (fail _ _).mono ?_
      rintro e w3 ⟨rfl, rfl⟩
      go_wp2_with fail
      exact ⟨rfl, hB.out.alloc hB.out.size _, by rw [E1.out]; rfl⟩

/-- What the literal leaves: the value in its cell, or nothing. -/
def LeftG (bv : Nat) (r : Except Int V) (W w' : World) : Prop := match r with
  | .ok v => ∃ w0 p cap, Below W.heap.size W w0 ∧ Rd w0 (fun g => W.heap.size ≤ g) (.slice p v.l.len cap) v.l ∧ w' = put4 w0 bv 0 (.int .i64 v.k) (.int .i64 v.n) (.string v.s) (.slice p v.l.len cap)
  | .error _ => Below W.heap.size W w'

theorem litG (bv bs : Nat) (s : ByteArray) (w : World) (hs : s.size ≤ maxLen)
    (hv : w.heap[bv]? = some (.cells #[.int .i64 0, .int .i64 0, .string ⟨#[]⟩, .slice none 0 0] 50 (0, 0))) (hb : w.heap[bs]? = some (.cells #[.string s] 9 (0, 0))) :
    Calls Tryd.prog 26 #[.pointer (some ⟨bs, 0, none⟩), .pointer (some ⟨bv, 0, none⟩)] w fun e w' => LeftG bv (allR s) w w' ∧ e = endOf (allR s) := by
  have CC := hid (valueOf s w hs)
  generalize allR s = r at *
  have c0 : w.cell? ⟨bs, 0, none⟩ = some (.string s) := by simp [World.cell?, hb]
  have hlt := lt_of_heap hv
  have HV := hid hv
  clear hs hv hb
  go_enter Tryd.func26, Tryd.ntmps26
  go_wp2_with fail
  refine CC.out.mono ?_
  rintro e w1 ⟨b1, h1⟩
  cases r with
  | ok v =>
    obtain ⟨p, cap, h2, h3⟩ := h1
    subst h2
    have L2 := hid h3
    have s1 := (b1.block bv hlt).trans HV.out
    have v0 : w1.cell? ⟨bv, 0, none⟩ = some (.int .i64 0) := by simp [World.cell?, s1]
    have v1 : w1.cell? ⟨bv, 1, none⟩ = some (.int .i64 0) := by simp [World.cell?, s1]
    have v2 : w1.cell? ⟨bv, 2, none⟩ = some (.string ⟨#[]⟩) := by simp [World.cell?, s1]
    have v3 : w1.cell? ⟨bv, 3, none⟩ = some (.slice none 0 0) := by simp [World.cell?, s1]
    have f1 := frozen_there s1
    clear s1 h3
    go_wp2_with fail
    go_end0
    exact ⟨⟨w1, p, cap, b1, L2.out, rfl⟩, rfl⟩
  | error c =>
    have h1' : e = .panicked (flt c) := h1
    clear h1
    subst h1'
    go_wp2_with fail
    exact ⟨rfl, b1, rfl⟩

theorem entersG : ∀ args u, (callFunc 26 args).run Tryd.prog u = .ok (.enter 26 args) u := enters_of Tryd.func26 (by kernel_rfl) rfl

theorem leftG_size {bs : Nat} {r : Except Int V} {W w' : World} (h : LeftG bs r W w') : W.heap.size ≤ w'.heap.size := by
  cases r with
  | ok a => obtain ⟨w0, _, _, h0, _, rfl⟩ := h; rw [put4_size]; exact h0.size
  | error c => exact h.size
theorem leftG_block {bs : Nat} {r : Except Int V} {W w' : World} (h : LeftG bs r W w') {k : Nat} (hk : k < W.heap.size) (hne : k ≠ bs) : w'.heap[k]? = W.heap[k]? := by
  cases r with
  | ok a => obtain ⟨w0, _, _, h0, _, rfl⟩ := h; exact (put4_other hne).trans (h0.block k hk)
  | error c => exact h.block k hk
theorem leftG_world {bs : Nat} {r : Except Int V} {W w' : World} (h : LeftG bs r W w') : w'.os = W.os ∧ w'.tape = W.tape ∧ w'.output = W.output := by
  cases r with
  | ok a => obtain ⟨w0, _, _, h0, _, rfl⟩ := h; exact ⟨h0.os, h0.tape, h0.output⟩
  | error c => exact ⟨h.os, h.tape, h.output⟩

/-- The value that is told. -/
def valOf : Except Int V → V
  | .ok v => v
  | .error _ => ⟨0, 0, ⟨#[]⟩, .nil⟩

theorem leftG_cell {bv : Nat} {r : Except Int V} {W w' : World} (h : LeftG bv r W w') (hv : W.heap[bv]? = some (.cells #[.int .i64 0, .int .i64 0, .string ⟨#[]⟩, .slice none 0 0] 50 (0, 0))) :
    ∃ p cap, w'.heap[bv]? = some (.cells #[.int .i64 (valOf r).k, .int .i64 (valOf r).n, .string (valOf r).s, .slice p (valOf r).l.len cap] 50 (0, 0)) ∧ Rd w' (fun g => W.heap.size ≤ g) (.slice p (valOf r).l.len cap) (valOf r).l := by
  have hlt := lt_of_heap hv
  cases r with
  | ok v =>
    obtain ⟨w0, p, cap, h0, hL, rfl⟩ := h
    refine ⟨p, cap, ?_, rd_of (fun _ h => h) (fun g hg o ho => (put4_other (by omega)).trans ho) hL⟩
    rw [put4_box ((h0.block bv hlt).trans hv)]; rfl
  | error c => exact ⟨none, 0, (h.block bv hlt).trans hv, rd_nil _ _⟩

theorem three (w : World) (a b c : Obj) : ∀ X, X = ((w.alloc a).alloc b).alloc c → X.heap[w.heap.size]? = some a ∧ X.heap[w.heap.size + 1]? = some b ∧ X.heap[w.heap.size + 1 + 1]? = some c ∧ X.heap.size = w.heap.size + 3 ∧ Below w.heap.size w X := by
  intro X hX
  obtain ⟨h1, h2, h3, h4⟩ := two w a b _ rfl
  have y := heap_alloc_new ((w.alloc a).alloc b) c
  have z : ((w.alloc a).alloc b).heap.size = w.heap.size + 1 + 1 := by simp
  rw [z] at y
  subst hX
  exact ⟨by rw [Below.heap_alloc _ _ _ (by omega), h1], by rw [Below.heap_alloc _ _ _ (by omega), h2], y, by simp, h4.alloc (by omega) _⟩

set_option maxHeartbeats 400000 in
theorem get (s : ByteArray) (w : World) (hs : s.size ≤ maxLen) :
    Calls Tryd.prog 15 #[.string s] w fun e w' => ∃ p cap, e = .returned (.tuple #[.agg #[.int .i64 (valOf (allR s)).k, .int .i64 (valOf (allR s)).n, .string (valOf (allR s)).s, .slice p (valOf (allR s)).l.len cap], .int .i64 (codeOf (allR s))]) ∧ Hid (Rd w' (fun g => w.heap.size ≤ g) (.slice p (valOf (allR s)).l.len cap) (valOf (allR s)).l) ∧ Below w.heap.size w w' := by
  have hmf : ∀ (fn : Fn) (first cap : Array Value) (w : World), (Instr.makeFunc fn first cap).run Tryd.prog w = .ok (.func fn first cap) w := fun _ _ _ _ => rfl
  obtain ⟨r, hr⟩ : ∃ r, Hid (r = allR s) := ⟨_, rfl⟩
  rw [← hr.out]
  have CC : Hid (∀ w2, w2 = ((w.alloc (.cells #[.string s] 9)).alloc (.cells #[.int .i64 0, .int .i64 0, .string ⟨#[]⟩, .slice none 0 0] 50)).alloc (.cells #[.int .i64 0, .int .i64 0, .string ⟨#[]⟩, .slice none 0 0] 50) →
      Calls Tryd.prog 25 #[.func (.func 26) #[] #[.pointer (some ⟨w.heap.size, 0, none⟩), .pointer (some ⟨w.heap.size + 1 + 1, 0, none⟩)]] w2 fun e w' => e = .returned (.int .i64 (codeOf r)) ∧ ∃ p cap, w'.heap[w.heap.size + 1 + 1]? = some (.cells #[.int .i64 (valOf r).k, .int .i64 (valOf r).n, .string (valOf r).s, .slice p (valOf r).l.len cap] 50 (0, 0)) ∧ w'.heap[w.heap.size + 1]? = some (.cells #[.int .i64 0, .int .i64 0, .string ⟨#[]⟩, .slice none 0 0] 50 (0, 0)) ∧ Rd w' (fun g => w.heap.size + 3 ≤ g) (.slice p (valOf r).l.len cap) (valOf r).l ∧ Below w.heap.size w w') :=
    fun w2 h2 => by
      obtain ⟨hb, hx, hv, hz, hB⟩ := three _ _ _ _ w2 h2
      refine (Wf.caught 26 _ r (LeftG (w.heap.size + 1 + 1) r) w2 (fun W hW hlt => ?_) entersG).mono ?_
      · have hvW := (hW.block _ (by omega)).trans hv
        have hbW := (hW.block _ (by omega)).trans hb
        have := litG (w.heap.size + 1 + 1) w.heap.size s W hs hvW hbW
        rw [← hr.out] at this
        exact this.mono (fun e w' h => ⟨h.1, leftG_size h.1, leftG_block h.1 hlt (by omega), h.2⟩)
      · rintro e w' ⟨he, W, w1, hW, hWz, hK, hs1, hg⟩
        have hvW := (hW.block _ (by omega)).trans hv
        have hxW := (hW.block _ (by omega)).trans hx
        obtain ⟨p, cap, hc, hL⟩ := leftG_cell hK hvW
        have hbk := hg.block (w.heap.size + 1 + 1) (by omega) (by simp; omega)
        have hxk := hg.block (w.heap.size + 1) (by omega) (by simp; omega)
        refine ⟨he, p, cap, hbk.trans hc, hxk.trans ((leftG_block hK (by omega) (by omega)).trans hxW), rd_of (fun g h => by omega) (fun g h o ho => (hg.block g (lt_of_heap ho) (by simp; omega)).trans ho) hL, ?_⟩
        obtain ⟨o1, o2, o3⟩ := leftG_world hK
        have hbW := hB.trans (hW.mono (by omega))
        refine hbW.trans ⟨hg.os.trans o1, hg.tape.trans o2, hg.output.trans o3, Nat.le_trans hs1 hg.size, fun j hj => ?_⟩
        exact (hg.block j (by omega) (by simp; omega)).trans (leftG_block hK (by omega) (by omega))
  clear hr hs
  go_enter Tryd.func15, Tryd.ntmps15
  go_wp2_with fail
  refine (CC.out _ rfl).mono ?_
  rintro e w1 ⟨rfl, p, cap, hc, hx, hL, b1⟩
  have v0 : w1.cell? ⟨w.heap.size + 1 + 1, 0, none⟩ = some (.int .i64 (valOf r).k) := by simp [World.cell?, hc]
  have v1 : w1.cell? ⟨w.heap.size + 1 + 1, 1, none⟩ = some (.int .i64 (valOf r).n) := by simp [World.cell?, hc]
  have v2 : w1.cell? ⟨w.heap.size + 1 + 1, 2, none⟩ = some (.string (valOf r).s) := by simp [World.cell?, hc]
  have v3 : w1.cell? ⟨w.heap.size + 1 + 1, 3, none⟩ = some (.slice p (valOf r).l.len cap) := by simp [World.cell?, hc]
  have x0 : w1.cell? ⟨w.heap.size + 1, 0, none⟩ = some (.int .i64 0) := by simp [World.cell?, hx]
  have x1 : w1.cell? ⟨w.heap.size + 1, 1, none⟩ = some (.int .i64 0) := by simp [World.cell?, hx]
  have x2 : w1.cell? ⟨w.heap.size + 1, 2, none⟩ = some (.string ⟨#[]⟩) := by simp [World.cell?, hx]
  have x3 : w1.cell? ⟨w.heap.size + 1, 3, none⟩ = some (.slice none 0 0) := by simp [World.cell?, hx]
  have xf := frozen_there hx
  have L2 := hid hL
  clear hc hL hx
  go_wp2_with fail
  have hR : Rd (put4 w1 (w.heap.size + 1) 0 (.int .i64 (valOf r).k) (.int .i64 (valOf r).n) (.string (valOf r).s) (.slice p (valOf r).l.len cap)) (fun g => w.heap.size ≤ g) (.slice p (valOf r).l.len cap) (valOf r).l := rd_of (fun g h => by omega) (fun g hg o ho => (put4_other (by omega)).trans ho) L2.out
  have hZ : Below w.heap.size w (put4 w1 (w.heap.size + 1) 0 (.int .i64 (valOf r).k) (.int .i64 (valOf r).n) (.string (valOf r).s) (.slice p (valOf r).l.len cap)) := put4_below b1 (Nat.le_succ _) _ _ _ _
  exact bodyPost_ret (v := .tuple #[.agg #[.int .i64 (valOf r).k, .int .i64 (valOf r).n, .string (valOf r).s, .slice p (valOf r).l.len cap], .int .i64 (codeOf r)]) (by simp [results, Tryd.results15, go_sem, x0, x1, x2, x3]) rfl ⟨p, cap, rfl, hR, hZ⟩

end Go.Proofs.YtkelipedpjmmaaaDoor.Wr
