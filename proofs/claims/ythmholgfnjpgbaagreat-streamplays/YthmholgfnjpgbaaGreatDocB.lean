/-
  The document's stream in memory, and the walk of its lay: cells' sectors are written, from an index on; they last.
-/
import Derived.Test.YthmholgfnjpgbaaGreatDocA
import Derived.Test.YthmholgfnjpgbaaGreatSmE
import Derived.Test.YthmholgfnjpgbaaGreatRb
namespace Go.Proofs.YthmholgfnjpgbaaGreat.Wdc
open Go.ChangeShapes Go.WideShapes Go.ChangeAt Go.RowKit Go.Proofs.YthmholgfnjpgbaaGreat.M Go.Proofs.YthmholgfnjpgbaaGreat.Wd Go.Proofs.YthmholgfnjpgbaaGreat.Wst

/-- The document's stream's cells. -/
def rcs (E : Nat) (s : Sm) (v : Value) : List Value := [.pointer (some ⟨E, 0, none⟩), .int .i64 (s.i : Int), .int .i64 (s.h : Int), .int .i64 s.g, .int .i64 (s.half : Int), v, .bool s.br]
def rst (E : Nat) (s : Sm) (v : Value) : Obj := .cells (rcs E s v).toArray 55 (0, 0)
/-- It lies in memory, apart from its disk. -/
structure Rs (w : World) (T E : Nat) (s : Sm) (G : Nat → Prop) (v : Value) : Prop where
  at_ : w.heap[T]? = some (rst E s v)
  nf : ¬ G T
theorem Rs.cell {w : World} {T E : Nat} {s : Sm} {G : Nat → Prop} {v : Value} (h : Rs w T E s G v) {i : Nat} {u : Value} (hu : (rcs E s v)[i]? = some u) : w.cell? ⟨T, i, none⟩ = some u := blk_cell h.at_ hu
theorem Rs.lt {w : World} {T E : Nat} {s : Sm} {G : Nat → Prop} {v : Value} (h : Rs w T E s G v) : T < w.heap.size := blk_lt h.at_
theorem Rs.free {w : World} {T E : Nat} {s : Sm} {G : Nat → Prop} {v : Value} (h : Rs w T E s G v) (i : Nat) : w.frozen? ⟨T, i, none⟩ = false := blk_free h.at_ i
theorem Rs.kept {w w' : World} {T E : Nat} {s : Sm} {G : Nat → Prop} {v : Value} (h : Rs w T E s G v) (hk : Kept G w w') : Rs w' T E s (Gr G w w') v :=
  ⟨(hk.block T h.lt h.nf).trans h.at_, fun e => e.elim h.nf fun e => by have := h.lt; omega⟩
theorem Rs.below {w w' : World} {T E : Nat} {s : Sm} {G : Nat → Prop} {v : Value} (h : Rs w T E s G v) (b : Below w.heap.size w w') : Rs w' T E s G v := ⟨(b.block T h.lt).trans h.at_, h.nf⟩
theorem rk_more {w w1 w' : World} {E : Nat} {d : Dk} {G : Nat → Prop} (h : ∃ L, Wr.RkL w' E d (Gr G w w1) L) (hz : w1.heap.size ≤ w'.heap.size) : ∃ L, Wr.RkL w' E d (Gr G w w') L := by
  obtain ⟨L, l⟩ := h
  refine ⟨L, l.more (fun b hb => hb.elim .inl fun hb => .inr ⟨hb.1, Nat.lt_of_lt_of_le hb.2 hz⟩) fun b hb => ?_⟩
  rcases hb with hb | hb
  · exact l.lt b (.inl hb)
  · exact hb.2

/-- What the document's lay comes to. -/
def LaP (G : Nat → Prop) (T E : Nat) (s : Sm) (v : Value) (X : Int) (Y : Dk) (w : World) (e : Ending) (w' : World) : Prop :=
  e = .returned (.int .i64 X) ∧ (∃ L', Wr.RkL w' E Y (Gr G w w') L') ∧ Rs w' T E s (Gr G w w') v ∧ Kept G w w'

set_option maxRecDepth 100000 in
set_option maxHeartbeats 800000 in
theorem lay {w : World} {T E : Nat} {s : Sm} {d : Dk} {G : Nat → Prop} {v : Value} {L : Wr.Lr} (h : Wr.RkL w E d G L) (hT : Rs w T E s G v) (hq : ∀ j, j < d.k → (d.r j).q.length ≤ 1000000) (half a m : Nat) (ix : Int) (hh : half < 2) (hb : s.h ≤ 2047) (ha : 1 + (half : Int) * (s.h : Int) + ix = (a : Int)) (hix : -1 ≤ ix ∧ ix ≤ 5000) (hm : m ≤ 5000) (p : Option Addr) (cap : Nat) (c : Nat → ByteArray) (hc : Ap w G T p m c) :
    Calls Tryz.prog 45 #[.pointer (some ⟨T, 0, none⟩), .int .i64 (half : Int), .int .i64 ix, .slice p m cap] w fun e w' => LaP G T E s v (layX s.i a c 0 m d) (layD s.i a c 0 m d) w e w' := by
  obtain ⟨X, hX⟩ : ∃ X, layX s.i a c 0 m d = X := ⟨_, rfl⟩
  obtain ⟨Y, hY⟩ : ∃ Y, layD s.i a c 0 m d = Y := ⟨_, rfl⟩
  have START : Hid (∃ e : Dk, layX s.i a c 0 (m - 0) e = X ∧ layD s.i a c 0 (m - 0) e = Y ∧ (∀ j, j < e.k → (e.r j).q.length ≤ 1000000 + 0) ∧ (∃ L', Wr.RkL w E e (Gr G w w) L') ∧ Rs w T E s (Gr G w w) v ∧ Kept G w w) := ⟨d, hX, hY, hq, ⟨L, by rw [Gr.self]; exact h⟩, by rw [Gr.self]; exact hT, Kept.refl _ _⟩
  rw [hX, hY]
  have HC := hid hc
  have hmul : 0 ≤ (half : Int) * (s.h : Int) ∧ (half : Int) * (s.h : Int) ≤ 2047 := by
    rcases (by omega : half = 0 ∨ half = 1) with rfl | rfl <;> omega
  clear h hT hq hc hX hY
  obtain ⟨P, hP⟩ : ∃ P, (half : Int) * (s.h : Int) = P := ⟨_, rfl⟩
  rw [hP] at hmul ha
  go_enter Tryz.func45, Tryz.ntmps45
  go_wp2
  go_loopw [9] (fun jv wr => ∃ j : Nat, j ≤ m ∧ jv = .int .i64 (j : Int) ∧ ∃ e : Dk, layX s.i a c j (m - j) e = X ∧ layD s.i a c j (m - j) e = Y ∧ (∀ i, i < e.k → (e.r i).q.length ≤ 1000000 + j) ∧ (∃ L', Wr.RkL wr E e (Gr G w wr) L') ∧ Rs wr T E s (Gr G w wr) v ∧ Kept G w wr) (fun jv _ => m - (intOf jv).toNat)
  case atStart => exact ⟨0, Nat.zero_le _, rfl, START.out⟩
  case round =>
    clear START
    obtain ⟨j, hj, rfl, e, hX, hY, hq, ⟨L', hd⟩, hT, hk⟩ := hrel
    have k0 := hT.cell (i := 0) (u := .pointer (some ⟨E, 0, none⟩)) rfl
    have k1 := hT.cell (i := 1) (u := .int .i64 (s.i : Int)) rfl
    have k2 := hT.cell (i := 2) (u := .int .i64 (s.h : Int)) rfl
    by_cases hlt : j < m
    · obtain ⟨b, off, rfl, hcell⟩ := HC.out.cell hk hlt
      obtain ⟨bb, boff, hbb, hbn, hbl⟩ : ∃ bb boff, some (⟨b, off, none⟩ : Addr) = some ⟨bb, boff, none⟩ ∧ ¬ G bb ∧ bb < w.heap.size := by
        rcases HC.out with h | ⟨b0, o0, q1, q2, q3, q4, q5⟩
        · omega
        · exact ⟨b0, o0, q1, q3, q2⟩
      obtain rfl : b = bb := by injection hbb with hbb; injection hbb
      have HCL := hid hcell
      have CW : Hid (∀ z, z = ((a + j : Nat) : Int) → Calls Tryz.prog 58 #[.pointer (some ⟨E, 0, none⟩), .int .i64 (s.i : Int), .int .i64 z, .string (c j)] wr.drew fun e' w' => e' = .returned (.int .i64 (e.writeE (s.i : Int) ((a + j : Nat) : Int) (c j))) ∧ Hid ((∃ L', Wr.RkL w' E (e.write (s.i : Int) ((a + j : Nat) : Int) (c j)) (Gr G w w') L') ∧ Rs w' T E s (Gr G w w') v ∧ Kept G w w') ∧ (w'.cell? ⟨T, 0, none⟩ = some (.pointer (some ⟨E, 0, none⟩)) ∧ w'.cell? ⟨T, 1, none⟩ = some (.int .i64 (s.i : Int)) ∧ w'.cell? ⟨T, 2, none⟩ = some (.int .i64 (s.h : Int)) ∧ w'.cell? ⟨b, off + j, none⟩ = some (.string (c j)))) := fun z hz => by
        subst hz
        have bd : Below wr.heap.size wr wr.drew := (Below.refl _ _).drew
        refine (Wr.putR (hd.below bd) (fun i hi => by have := hq i hi; omega) _ _ _).mono ?_
        rintro e' w' ⟨q1, q2, q3⟩
        have g : Gr (Gr G w wr) wr.drew w' = Gr G w w' := Gr.trans (a := w) (b := wr) (c := w') hk.size q3.size
        have hS2 := (hT.below bd).kept q3
        rw [g] at q2 hS2
        have hkk := hk.drew.trans q3
        have hcc : w'.cell? ⟨b, off + j, none⟩ = some (.string (c j)) := by
          have h1 := hk.cell (p := ⟨b, off + j, none⟩) hbl hbn
          have h2 := hkk.cell (p := ⟨b, off + j, none⟩) hbl hbn
          rw [h2, ← h1]
          exact HCL.out
        exact ⟨q1, ⟨q2, hS2, hkk⟩, hS2.cell (i := 0) rfl, hS2.cell (i := 1) rfl, hS2.cell (i := 2) rfl, hcc⟩
      have HQ := hid fun i hi => (q_write hq (s.i : Int) ((a + j : Nat) : Int) (c j)) i hi
      have HX : Hid ((if e.writeE (s.i : Int) ((a + j : Nat) : Int) (c j) = 0 then layX s.i a c (j + 1) (m - (j + 1)) (e.write (s.i : Int) ((a + j : Nat) : Int) (c j)) else e.writeE (s.i : Int) ((a + j : Nat) : Int) (c j)) = X) := by
        rw [show m - j = (m - (j + 1)) + 1 by omega] at hX
        exact hX
      have HY : Hid ((if e.writeE (s.i : Int) ((a + j : Nat) : Int) (c j) = 0 then layD s.i a c (j + 1) (m - (j + 1)) (e.write (s.i : Int) ((a + j : Nat) : Int) (c j)) else e.write (s.i : Int) ((a + j : Nat) : Int) (c j)) = Y) := by
        rw [show m - j = (m - (j + 1)) + 1 by omega] at hY
        exact hY
      have kk := And.intro k0 (And.intro k1 (And.intro k2 hcell))
      have w1 : IntKind.i64.wrap ((a : Int) + (j : Int)) = (a : Int) + (j : Int) := by rw [IntKind.wrap_i64]; omega
      have w2 : IntKind.i64.wrap (a : Int) = (a : Int) := by rw [IntKind.wrap_i64]; omega
      have w3 : IntKind.i64.wrap (1 + P) = 1 + P := by rw [IntKind.wrap_i64]; omega
      have w4 : IntKind.i64.wrap P = P := by rw [IntKind.wrap_i64]; omega
      clear hX hY hq hd hT hk hbb HCL hcell k0 k1 k2
      have CW1 := hid (CW.out ((a : Int) + (j : Int)) (by omega))
      clear CW
      generalize e.write (s.i : Int) ((a + j : Nat) : Int) (c j) = e2 at *
      generalize e.writeE (s.i : Int) ((a + j : Nat) : Int) (c j) = XE at *
      go_wp2_with fail
      go_region_held3 (fun w' => w'.cell? ⟨T, 0, none⟩ = some (.pointer (some ⟨E, 0, none⟩)) ∧ w'.cell? ⟨T, 1, none⟩ = some (.int .i64 (s.i : Int)) ∧ w'.cell? ⟨T, 2, none⟩ = some (.int .i64 (s.h : Int)) ∧ w'.cell? ⟨b, off + j, none⟩ = some (.string (c j)))
        (first | exact kk | go_keep)
        ((go_at_call 58; refine CW1.out.mono ?_; rintro e' w2 ⟨rfl, hB, kk⟩))
      clear CW1
      by_cases cE : XE = 0
      · subst cE
        have X1 := hid HX.out
        have Y1 := hid HY.out
        rw [if_pos rfl] at X1 Y1
        clear HX HY kk
        go_wp2
        go_roundw
        case rel => exact ⟨j + 1, by omega, by go_num, e2, X1.out, Y1.out, HQ.out, hB.out⟩
        case measure => simp [intOf] <;> omega
      · have X1 := hid HX.out
        have Y1 := hid HY.out
        rw [if_neg cE] at X1 Y1
        have c2 : (XE == 0) = false := by simpa using cE
        clear HX HY kk cE
        go_wp2
        go_ret
        rw [← X1.out, ← Y1.out]
        exact ⟨rfl, hB.out⟩
    · obtain rfl : j = m := by omega
      have CW : Hid (Calls Tryz.prog 50 #[.pointer (some ⟨E, 0, none⟩), .int .i64 (s.i : Int)] wr.drew fun e' w' => e' = .returned (.int .i64 (e.flushE (s.i : Int))) ∧ Hid ((∃ L', Wr.RkL w' E (e.flush (s.i : Int)) (Gr G w w') L') ∧ Rs w' T E s (Gr G w w') v ∧ Kept G w w') ∧ (w'.cell? ⟨T, 0, none⟩ = some (.pointer (some ⟨E, 0, none⟩)) ∧ w'.cell? ⟨T, 1, none⟩ = some (.int .i64 (s.i : Int)))) := by
        show Calls _ _ _ _ _
        have bd : Below wr.heap.size wr wr.drew := (Below.refl _ _).drew
        refine (Wr.flushR (hd.below bd) (fun i hi => by have := hq i hi; omega) _).mono ?_
        rintro e' w' ⟨q1, q2, q3, q4⟩
        have g : Gr (Gr G w wr) wr.drew w' = Gr G w w' := Gr.trans (a := w) (b := wr) (c := w') hk.size q3.size
        have hS2 := (hT.below bd).kept q3
        rw [g] at hS2
        exact ⟨q1, ⟨rk_more q2 (by rw [q4]; exact Nat.le_refl _), hS2, hk.drew.trans q3⟩, hS2.cell (i := 0) rfl, hS2.cell (i := 1) rfl⟩
      have HX : Hid (e.flushE (s.i : Int) = X) := by
        rw [Nat.sub_self] at hX
        exact hX
      have HY : Hid (e.flush (s.i : Int) = Y) := by
        rw [Nat.sub_self] at hY
        exact hY
      have kk := And.intro k0 k1
      rw [HX.out, HY.out] at CW
      clear hX hY hq hd hT hk HX HY k0 k1 k2
      go_wp2_with fail
      go_region_held3 (fun w' => w'.cell? ⟨T, 0, none⟩ = some (.pointer (some ⟨E, 0, none⟩)) ∧ w'.cell? ⟨T, 1, none⟩ = some (.int .i64 (s.i : Int)))
        (first | exact kk | go_keep)
        ((go_at_call 50; refine CW.out.mono ?_; rintro e' w2 ⟨rfl, hB, kk⟩))
      go_wp2
      go_ret
      exact ⟨rfl, hB.out⟩

end Go.Proofs.YthmholgfnjpgbaaGreat.Wdc
