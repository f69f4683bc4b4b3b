/-
  The walk of a stream's write: sectors are written, from one on, and flushed; behind an error of the disk the stream has failed. Conditions: the stream's disk lies in memory, the sectors lie apart from it.
-/
import Derived.Test.YtaojoecmbgmhoaaSmA
import Derived.Test.YtaojoecmbgmhoaaDc
import Derived.Test.YtaojoecmbgmhoaaArL
namespace Go.Proofs.Ytaojoecmbgmhoaa.Wst
open Go.ChangeShapes Go.WideShapes Go.ChangeAt Go.RowKit Go.Proofs.Ytaojoecmbgmhoaa.M Go.Proofs.Ytaojoecmbgmhoaa.Wd

/-- A stream's cells. -/
def scs (D : Nat) (s : Sm) : List Value := [.pointer (some ⟨D, 0, none⟩), .int .i64 (s.i : Int), .int .i64 s.g, .int .i64 (s.half : Int), .int .i64 ((frs s.L).size : Int), .string (tl (frs s.L)), .bool s.br]
def stm (D : Nat) (s : Sm) : Obj := .cells (scs D s).toArray 68 (0, 0)
/-- A stream lies in memory, apart from its disk. -/
structure StL (w : World) (S D : Nat) (s : Sm) (F : Nat → Prop) : Prop where
  at_ : w.heap[S]? = some (stm D s)
  nf : ¬ F S
theorem StL.cell {w : World} {S D : Nat} {s : Sm} {F : Nat → Prop} (h : StL w S D s F) {i : Nat} {v : Value} (hv : (scs D s)[i]? = some v) : w.cell? ⟨S, i, none⟩ = some v := blk_cell h.at_ hv
theorem StL.lt {w : World} {S D : Nat} {s : Sm} {F : Nat → Prop} (h : StL w S D s F) : S < w.heap.size := blk_lt h.at_
theorem StL.kept {w w' : World} {S D : Nat} {s : Sm} {F : Nat → Prop} (h : StL w S D s F) (hk : Kept F w w') : StL w' S D s (Gr F w w') :=
  ⟨(hk.block S h.lt h.nf).trans h.at_, fun e => e.elim h.nf fun e => by have := h.lt; omega⟩
theorem StL.below {w w' : World} {S D : Nat} {s : Sm} {F : Nat → Prop} (h : StL w S D s F) (b : Below w.heap.size w w') : StL w' S D s F := ⟨(b.block S h.lt).trans h.at_, h.nf⟩
theorem StL.free {w : World} {S D : Nat} {s : Sm} {F : Nat → Prop} (h : StL w S D s F) (i : Nat) : w.frozen? ⟨S, i, none⟩ = false := blk_free h.at_ i
/-- A store into one of its cells. -/
theorem StL.set {w : World} {S D : Nat} {s s' : Sm} {F : Nat → Prop} (h : StL w S D s F) {i : Nat} {v : Value} (hs : (scs D s).set i v = scs D s') : StL (w.setCell ⟨S, i, none⟩ v) S D s' F := by
  have := blk_set h.at_ i v
  rw [hs] at this
  exact ⟨this, h.nf⟩
/-- F, and the stream's own block. -/
def Fs (F : Nat → Prop) (S : Nat) : Nat → Prop := fun b => F b ∨ b = S
theorem DkL.side {w : World} {D S : Nat} {d : Dk} {F : Nat → Prop} {L : Ly} (h : DkL w D d F L) (hS : ¬ F S) (i : Nat) (v : Value) : DkL (w.setCell ⟨S, i, none⟩ v) D d F L := by
  refine h.kept (by simp [World.setCell]) fun b hb => Below.heap_setCell _ _ _ _ fun e => hS (by have e : b = S := e; rw [← e]; exact hb)

/-- Texts lie in memory, apart from F and the stream. -/
def Ap (w : World) (F : Nat → Prop) (S : Nat) (p : Option Addr) (m : Nat) (c : Nat → ByteArray) : Prop :=
  m ≤ 0 ∨ ∃ b off, p = some ⟨b, off, none⟩ ∧ b < w.heap.size ∧ ¬ F b ∧ b ≠ S ∧ ∀ i, i < m → w.cell? ⟨b, off + i, none⟩ = some (.string (c i))
theorem Ap.cell {w w' : World} {F : Nat → Prop} {S : Nat} {p : Option Addr} {m : Nat} {c : Nat → ByteArray} (h : Ap w F S p m c) (hk : Kept F w w') {j : Nat} (hj : j < m) : ∃ b off, p = some ⟨b, off, none⟩ ∧ w'.cell? ⟨b, off + j, none⟩ = some (.string (c j)) := by
  rcases h with h | ⟨b, off, h1, h2, h3, h4, h5⟩
  · omega
  · exact ⟨b, off, h1, (hk.cell (p := ⟨b, off + j, none⟩) h2 h3).trans (h5 j hj)⟩

/-- What a write comes to. -/
def WrP (F : Nat → Prop) (S D : Nat) (s : Sm) (X : Int) (Y : Dk) (w : World) (e : Ending) (w' : World) : Prop :=
  e = .returned (.int .i64 X) ∧ (∃ L', DkL w' D Y (Gr F w w') L') ∧ StL w' S D { s with br := decide (X ≠ 0) } (Gr F w w') ∧ Kept (Fs F S) w w'

theorem gr_set (F : Nat → Prop) (w w' : World) (p : Addr) (v : Value) : Gr F w (w'.setCell p v) = Gr F w w' := by
  unfold Gr
  rw [show (w'.setCell p v).heap.size = w'.heap.size by simp [World.setCell]]
theorem wr_end {F : Nat → Prop} {S D : Nat} {s : Sm} {X : Int} {Y : Dk} {w w' : World} (hd : ∃ L', DkL w' D Y (Gr F w w') L') (hs : StL w' S D s (Gr F w w')) (hk : Kept F w w') {b : Bool} (hb : b = decide (X ≠ 0)) :
    WrP F S D s X Y w (.returned (.int .i64 X)) (w'.setCell ⟨S, 6, none⟩ (.bool b)) := by
  obtain ⟨L', l⟩ := hd
  have e := gr_set F w w' ⟨S, 6, none⟩ (.bool b)
  refine ⟨rfl, ⟨L', by rw [e]; exact DkL.side l hs.nf _ _⟩, by rw [e]; exact hs.set (by rw [hb]; rfl), ?_⟩
  have k2 : Kept (Fs F S) w w' := hk.mono fun i _ h => .inl h
  exact k2.setCell (.inr rfl) _

set_option maxRecDepth 100000 in
set_option maxHeartbeats 800000 in
theorem write {w : World} {S D : Nat} {s : Sm} {d : Dk} {F : Nat → Prop} {L : Ly} (h : DkL w D d F L) (hS : StL w S D s F) (hq : ∀ j, j < d.k → (d.r j).q.length ≤ 1000000) (a m : Nat) (ha : a ≤ 5000) (hm : m ≤ 5000) (p : Option Addr) (cap : Nat) (c : Nat → ByteArray) (hc : Ap w F S p m c) :
    Calls Try.prog 38 #[.pointer (some ⟨S, 0, none⟩), .int .i64 (a : Int), .slice p m cap] w fun e w' => WrP F S D s (layX s.i a c 0 m d) (layD s.i a c 0 m d) w e w' := by
  obtain ⟨X, hX⟩ : ∃ X, layX s.i a c 0 m d = X := ⟨_, rfl⟩
  obtain ⟨Y, hY⟩ : ∃ Y, layD s.i a c 0 m d = Y := ⟨_, rfl⟩
  have START : Hid (∃ e : Dk, layX s.i a c 0 (m - 0) e = X ∧ layD s.i a c 0 (m - 0) e = Y ∧ (∀ j, j < e.k → (e.r j).q.length ≤ 1000000 + 0) ∧ (∃ L', DkL w D e (Gr F w w) L') ∧ StL w S D s (Gr F w w) ∧ Kept F w w) := ⟨d, hX, hY, hq, ⟨L, by rw [Gr.self]; exact h⟩, by rw [Gr.self]; exact hS, Kept.refl _ _⟩
  rw [hX, hY]
  have HC := hid hc
  clear h hS hq hc hX hY
  go_enter Try.func38, Try.ntmps38
  go_wp2
  go_loopw [13] (fun jv wr => ∃ j : Nat, j ≤ m ∧ jv = .int .i64 (j : Int) ∧ ∃ e : Dk, layX s.i a c j (m - j) e = X ∧ layD s.i a c j (m - j) e = Y ∧ (∀ i, i < e.k → (e.r i).q.length ≤ 1000000 + j) ∧ (∃ L', DkL wr D e (Gr F w wr) L') ∧ StL wr S D s (Gr F w wr) ∧ Kept F w wr) (fun jv _ => m - (intOf jv).toNat)
  case atStart => exact ⟨0, Nat.zero_le _, rfl, START.out⟩
  case round =>
    clear START
    obtain ⟨j, hj, rfl, e, hX, hY, hq, ⟨L', hd⟩, hS, hk⟩ := hrel
    by_cases hlt : j < m
    · obtain ⟨b, off, rfl, hcell⟩ := HC.out.cell hk hlt
      have k0 := hS.cell (i := 0) (v := .pointer (some ⟨D, 0, none⟩)) rfl
      have k1 := hS.cell (i := 1) (v := .int .i64 (s.i : Int)) rfl
      have CW : Hid (Calls Try.prog 54 #[.pointer (some ⟨D, 0, none⟩), .int .i64 (s.i : Int), .int .i64 ((a : Int) + (j : Int)), .string (c j)] wr.drew fun e' w' => e' = .returned (.int .i64 (e.writeE (s.i : Int) ((a + j : Nat) : Int) (c j))) ∧ Hid ((∃ L', DkL w' D (e.write (s.i : Int) ((a + j : Nat) : Int) (c j)) (Gr F w w') L') ∧ StL w' S D s (Gr F w w') ∧ Kept F w w') ∧ (w'.cell? ⟨S, 0, none⟩ = some (.pointer (some ⟨D, 0, none⟩)) ∧ w'.cell? ⟨S, 1, none⟩ = some (.int .i64 (s.i : Int)))) := by
        show Calls _ _ _ _ _
        rw [show (a : Int) + (j : Int) = ((a + j : Nat) : Int) by omega]
        have bd : Below wr.heap.size wr wr.drew := (Below.refl _ _).drew
        refine (writeD (hd.below bd) (fun i hi => by have := hq i hi; omega) _ _ _).mono ?_
        rintro e' w' ⟨q1, q2, q3, _⟩
        have g : Gr (Gr F w wr) wr.drew w' = Gr F w w' := Gr.trans (a := w) (b := wr) (c := w') hk.size q3.size
        have hS2 := (hS.below bd).kept q3
        rw [g] at q2 hS2
        exact ⟨q1, ⟨q2, hS2, hk.drew.trans q3⟩, hS2.cell (i := 0) rfl, hS2.cell (i := 1) rfl⟩
      have HQ := hid fun i hi => (q_write hq (s.i : Int) ((a + j : Nat) : Int) (c j)) i hi
      have HX : Hid ((if e.writeE (s.i : Int) ((a + j : Nat) : Int) (c j) = 0 then layX s.i a c (j + 1) (m - (j + 1)) (e.write (s.i : Int) ((a + j : Nat) : Int) (c j)) else e.writeE (s.i : Int) ((a + j : Nat) : Int) (c j)) = X) := by
        rw [show m - j = (m - (j + 1)) + 1 by omega] at hX
        exact hX
      have HY : Hid ((if e.writeE (s.i : Int) ((a + j : Nat) : Int) (c j) = 0 then layD s.i a c (j + 1) (m - (j + 1)) (e.write (s.i : Int) ((a + j : Nat) : Int) (c j)) else e.write (s.i : Int) ((a + j : Nat) : Int) (c j)) = Y) := by
        rw [show m - j = (m - (j + 1)) + 1 by omega] at hY
        exact hY
      have hs : wr.cell? ⟨S, 0, none⟩ = some (.pointer (some ⟨D, 0, none⟩)) ∧ wr.cell? ⟨S, 1, none⟩ = some (.int .i64 (s.i : Int)) := ⟨k0, k1⟩
      have w1 : IntKind.i64.wrap ((a : Int) + (j : Int)) = ((a + j : Nat) : Int) := by rw [IntKind.wrap_i64]; omega
      clear hX hY hq hd hS hk
      generalize e.write (s.i : Int) ((a + j : Nat) : Int) (c j) = e2 at *
      generalize e.writeE (s.i : Int) ((a + j : Nat) : Int) (c j) = E at *
      go_wp2_with fail
      go_region_held3 (fun w' => w'.cell? ⟨S, 0, none⟩ = some (.pointer (some ⟨D, 0, none⟩)) ∧ w'.cell? ⟨S, 1, none⟩ = some (.int .i64 (s.i : Int)))
        (first | exact hs | go_keep)
        ((go_at_call 54; refine CW.out.mono ?_; rintro e' w2 ⟨rfl, hB, hs⟩))
      clear CW
      by_cases cE : E = 0
      · subst cE
        have X1 := hid HX.out
        have Y1 := hid HY.out
        rw [if_pos rfl] at X1 Y1
        clear HX HY hs
        go_wp2
        go_roundw
        case rel => exact ⟨j + 1, by omega, by go_num, e2, X1.out, Y1.out, HQ.out, hB.out⟩
        case measure => simp [intOf] <;> omega
      · have X1 := hid HX.out
        have Y1 := hid HY.out
        rw [if_neg cE] at X1 Y1
        have c2 : (E == 0) = false := by simpa using cE
        obtain ⟨t1, t2, t3⟩ := hB.out
        have f6 := t2.free 6
        have c6 := t2.cell (i := 6) (v := .bool s.br) rfl
        have EN := hid (wr_end (X := E) t1 t2 t3 (b := true) (decide_eq_true cE).symm)
        clear HX HY hs hB cE t1 t2 t3
        go_wp2
        go_ret
        rw [← X1.out, ← Y1.out]
        exact EN.out
    · obtain rfl : j = m := by omega
      have k0 := hS.cell (i := 0) (v := .pointer (some ⟨D, 0, none⟩)) rfl
      have k1 := hS.cell (i := 1) (v := .int .i64 (s.i : Int)) rfl
      have CW : Hid (Calls Try.prog 55 #[.pointer (some ⟨D, 0, none⟩), .int .i64 (s.i : Int)] wr.drew fun e' w' => e' = .returned (.int .i64 (e.flushE (s.i : Int))) ∧ Hid ((∃ L', DkL w' D (e.flush (s.i : Int)) (Gr F w w') L') ∧ StL w' S D s (Gr F w w') ∧ Kept F w w') ∧ (w'.cell? ⟨S, 0, none⟩ = some (.pointer (some ⟨D, 0, none⟩)) ∧ w'.cell? ⟨S, 1, none⟩ = some (.int .i64 (s.i : Int)))) := by
        show Calls _ _ _ _ _
        have bd : Below wr.heap.size wr wr.drew := (Below.refl _ _).drew
        refine (flushD (hd.below bd) (fun i hi => by have := hq i hi; omega) _).mono ?_
        rintro e' w' ⟨q1, q2, q3, _⟩
        have g : Gr (Gr F w wr) wr.drew w' = Gr F w w' := Gr.trans (a := w) (b := wr) (c := w') hk.size q3.size
        have hS2 := (hS.below bd).kept q3
        rw [g] at q2 hS2
        exact ⟨q1, ⟨q2, hS2, hk.drew.trans q3⟩, hS2.cell (i := 0) rfl, hS2.cell (i := 1) rfl⟩
      have HX : Hid (e.flushE (s.i : Int) = X) := by
        rw [Nat.sub_self] at hX
        exact hX
      have HY : Hid (e.flush (s.i : Int) = Y) := by
        rw [Nat.sub_self] at hY
        exact hY
      have hs : wr.cell? ⟨S, 0, none⟩ = some (.pointer (some ⟨D, 0, none⟩)) ∧ wr.cell? ⟨S, 1, none⟩ = some (.int .i64 (s.i : Int)) := ⟨k0, k1⟩
      rw [HX.out, HY.out] at CW
      clear hX hY hq hd hS hk HX HY
      go_wp2_with fail
      go_region_held3 (fun w' => w'.cell? ⟨S, 0, none⟩ = some (.pointer (some ⟨D, 0, none⟩)) ∧ w'.cell? ⟨S, 1, none⟩ = some (.int .i64 (s.i : Int)))
        (first | exact hs | go_keep)
        ((go_at_call 55; refine CW.out.mono ?_; rintro e' w2 ⟨rfl, hB, hs⟩))
      clear CW
      by_cases cE : X = 0
      · subst cE
        obtain ⟨t1, t2, t3⟩ := hB.out
        have f6 := t2.free 6
        have c6 := t2.cell (i := 6) (v := .bool s.br) rfl
        have EN := hid (wr_end (X := 0) t1 t2 t3 (b := false) rfl)
        clear hs hB t1 t2 t3
        go_wp2
        go_ret
        exact EN.out
      · obtain ⟨t1, t2, t3⟩ := hB.out
        have f6 := t2.free 6
        have c6 := t2.cell (i := 6) (v := .bool s.br) rfl
        have EN := hid (wr_end (X := X) t1 t2 t3 (b := X != 0) (by rw [decide_eq_true cE]; simpa using cE))
        clear hs hB cE t1 t2 t3
        go_wp2
        go_ret
        exact EN.out

end Go.Proofs.Ytaojoecmbgmhoaa.Wst
