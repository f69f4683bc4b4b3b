/-
  The Resets and the Opens of the law of plays, over both streams on both disks beside a block of the law's own. Nothing is asked but what each fact names.
-/
import Derived.Test.YthmholgfnjpgbaaGreatSpA
namespace Go.Proofs.YthmholgfnjpgbaaGreat.Wq
open Go.ChangeShapes Go.WideShapes Go.ChangeAt Go.RowKit Go.Proofs.YthmholgfnjpgbaaGreat.M Go.Proofs.YthmholgfnjpgbaaGreat.Wd Go.Proofs.YthmholgfnjpgbaaGreat.Wst Go.Proofs.YthmholgfnjpgbaaGreat.Wdc

section
variable {W w w' : World} {D E S T X : Nat} {o : Obj} {d e Y : Dk} {s s' t : Sm} {m : Nat}
theorem q_reset (h : Qa W D E S T X o d d s s w) (f : Fit d s) (iv : Wr.Iv m d) (hm : m ≤ 900000) (l : List ByteArray) (p : Option Addr) (cap : Nat) (hsz : ∀ b ∈ l, b.size ≤ maxLen) (hln : l.length ≤ 10) (hL : War.Lies W p l.length (nth l)) :
    Calls Tryz.prog 13 #[.pointer (some ⟨S, 0, none⟩), .slice p l.length cap] w fun en w' => en = .returned (.int .i64 (s.rX l d)) ∧ Qa W D E S T X o (s.rD l d) d (s.rS l d) s w' := by
  obtain ⟨F, G, v, a⟩ := h
  obtain ⟨L, l'⟩ := a.bt.du.o1.at_
  exact (reset l' a.bt.st f.sw (fun j hj => by have := iv.q j hj; omega) l p cap hsz (by omega) (hL.below a.bt.du.o1.bel)).mono fun en w' c => ⟨c.1, _, _, _, a.code c⟩
theorem q_resetR (h : Qa W D E S T X o Y d s' s w) (f : Fit d s) (iv : Wr.Iv m d) (hm : m ≤ 900000) (l : List ByteArray) (p : Option Addr) (cap : Nat) (hsz : ∀ b ∈ l, b.size ≤ maxLen) (hln : l.length ≤ 10) (hL : War.Lies W p l.length (nth l)) :
    Calls Tryz.prog 14 #[.pointer (some ⟨T, 0, none⟩), .slice p l.length cap] w fun en w' => en = .returned (.int .i64 (s.rX l d)) ∧ Qa W D E S T X o Y (s.rD l d) s' (s.rS l d) w' := by
  obtain ⟨F, G, v, a⟩ := h
  obtain ⟨L, l'⟩ := a.bt.du.r
  have hA : Ap w G T p l.length (nth l) := by
    rcases hL with h | ⟨b, off, h1, h2, h3⟩
    · exact .inl h
    · have bel := a.bt.du.o1.bel
      refine .inr ⟨b, off, h1, Nat.lt_of_lt_of_le h2 bel.size, fun g => ?_, fun e => ?_, fun i hi => (bel.cell (by exact h2)).trans (h3 i hi)⟩
      · have := a.bt.own b (.inl g)
        omega
      · have := a.bt.own T (.inr (.inl rfl))
        omega
  refine (Wdc.reset l' a.bt.rs a.bt.row f.sw (fun j hj => by have := iv.q j hj; omega) l p cap hsz (by omega) hA).mono fun en w' c => ⟨c.1, ?_⟩
  obtain ⟨G', v', a'⟩ := a.doc c
  exact ⟨F, G', v', a'⟩

/-- The code's stream is open, the document's is not yet; a block of the law's own beside. -/
def Hq (W : World) (D E S X : Nat) (o : Obj) (d e : Dk) (s : Sm) (v : Value) (l : List ByteArray) (w : World) : Prop := ∃ F G, Hf W w D E S d e s F G v l ∧ w.heap[X]? = some o ∧ ¬ Fs F S X ∧ ¬ G X
/-- What the code's Open comes to. -/
def Oc (W : World) (D E X : Nat) (o : Obj) (d : Dk) (en : Ending) (w' : World) : Prop :=
  (opX d 0 = 0 ∧ ∃ S v, en = .returned (.tuple #[.pointer (some ⟨S, 0, none⟩), v, .int .i64 0]) ∧ Hq W D E S X o (opD d 0) d (opT d 0) v (opL d 0) w') ∨
  (¬ opX d 0 = 0 ∧ en = .returned (.tuple #[.pointer none, .slice none 0 0, .int .i64 (opX d 0)]) ∧ Qn W D E X o (opD d 0) d w')
theorem q_open (h : Qn W D E X o d d w) (iv : Wr.Iv m d) (hm : m ≤ 900000) :
    Calls Tryz.prog 8 #[.pointer (some ⟨D, 0, none⟩), .int .i64 0] w fun en w' => Oc W D E X o d en w' := by
  obtain ⟨F, G, u, hx, hf, hg⟩ := h
  have hl := blk_lt hx
  obtain ⟨L, l'⟩ := u.o1.at_
  refine (open_ l' (fun j hj => by have := iv.q j hj; omega) 0).mono fun en w' c => ?_
  have bel := u.o1.bel
  have hz := bel.size
  rcases c with ⟨c0, c⟩ | ⟨c0, c⟩
  · obtain ⟨S, v, F', h1, h2, h3, h4, h5, h6, h7, h8⟩ := c
    obtain ⟨Lr, lr⟩ := u.r
    refine .inl ⟨c0, S, v, h1, F', G, ⟨⟨⟨h3, fun b hb => ?_, bel.trans (h6.below hz u.o1.own)⟩, ⟨Lr, lr.kept h6.size fun b hb => h6.block b (lr.lt b hb) fun f => u.dis b f hb⟩, u.rown, fun b hb g => ?_⟩, h4, by omega, fun g => ?_, own_keep h7 hz fun _ _ _ => rfl, fun b hb => ⟨fun f => ?_, fun g => ?_⟩⟩, (h6.block X hl hf).trans hx, fun f => ?_, hg⟩
    · exact (h5 b hb).elim (u.o1.own b) fun c => Nat.le_trans hz c.1
    · exact (h5 b hb).elim (fun c => u.dis b c g) fun c => by have := u.rlt g; omega
    · have := u.rlt g
      omega
    · exact f.elim (h8 b hb).1 (h8 b hb).2
    · have := u.rlt g
      have := (h7.lt b hb).1
      omega
    · rcases f with f | f
      · exact (h5 X f).elim hf fun c => by omega
      · omega
  · obtain ⟨h1, h2, h3⟩ := c
    refine .inr ⟨c0, h1, Gr F w w', G, u.left ⟨h2, fun b hb => hb.elim (u.o1.own b) fun c => Nat.le_trans bel.size c.1, bel.trans (h3.below bel.size u.o1.own)⟩ h3, (h3.block X hl hf).trans hx, fun f => ?_, hg⟩
    exact f.elim hf fun c => by omega

/-- Texts of a row lie in memory. -/
theorem rcv_lies {w : World} {b : Nat} {v : Value} {l : List ByteArray} (h : w.ownsRow b 9 1 v l.length (rcv l)) : ∃ a cap, v = .slice a l.length cap ∧ War.Lies w a l.length (nth l) := by
  obtain ⟨a, cap, h1, _, _, h4⟩ := War.own_lies (f := nth l) h (fun j hj => by
    rw [nth_get hj]
    simp [rcv, hj])
  exact ⟨a, cap, h1, h4⟩
/-- What the document's Open comes to, behind the code's that went well. -/
def Od (W : World) (D E S X : Nat) (o : Obj) (Y d : Dk) (s : Sm) (v : Value) (l : List ByteArray) (en : Ending) (w' : World) : Prop :=
  ∃ T a c a2 c2, v = .slice a l.length c ∧ en = .returned (.tuple #[.pointer (some ⟨T, 0, none⟩), .slice a2 (opL d 0).length c2, .int .i64 0]) ∧ Qa W D E S T X o Y (opD d 0) s (opT d 0) w' ∧ War.Lies w' a l.length (nth l) ∧ War.Lies w' a2 (opL d 0).length (nth (opL d 0))
theorem q_openR {v : Value} {l : List ByteArray} (h : Hq W D E S X o Y d s v l w) (iv : Wr.Iv m d) (hm : m ≤ 900000) (hX : opX d 0 = 0) :
    Calls Tryz.prog 9 #[.pointer (some ⟨E, 0, none⟩), .int .i64 0] w fun en w' => Od W D E S X o Y d s v l en w' := by
  obtain ⟨F, G, h, hx, hf, hg⟩ := h
  have hl := blk_lt hx
  obtain ⟨L, l'⟩ := h.du.r
  refine (Wdc.open_ l' (fun j hj => by have := iv.q j hj; omega) 0).mono fun en w' c => ?_
  rcases c with ⟨_, c⟩ | ⟨c0, _⟩
  · obtain ⟨T, v2, v0, G', h1, h2, h3, h4, h5, h6, h7, h8, _⟩ := c
    have bel := h.du.o1.bel
    have hz := bel.size
    have flt : ∀ b, Fs F S b → b < w.heap.size := fun b f => f.elim (Wr.one_lt h.du.o1) fun f => by rw [f]; exact h.st.lt
    have fg : ∀ b, Fs F S b → ¬ G b := fun b f g => f.elim (fun f => h.du.dis b f g) fun f => h.nS (by rw [← f]; exact g)
    have ap : ∀ b, Fs F S b → ¬ Gt G' T v0 b := fun b f g => (h6 b g).elim (fg b f) fun g => by have := flt b f; omega
    have own : ∀ b, Gt G' T v0 b → W.heap.size ≤ b := fun b g => (h6 b g).elim (h.du.rown b) fun g => Nat.le_trans hz g
    have bt : Bt W w' D E S T Y (opD d 0) s (opT d 0) F G' v0 := ⟨⟨Wr.one_other h.du.o1 h7 (fun b hb => fg b (.inl hb)) (bel.trans (h7.below hz h.du.rown)), h3, fun b hb => own b (.inl hb), fun b hb g => ap b (.inl hb) (.inl g)⟩, ⟨(h7.block S h.st.lt h.nS).trans h.st.at_, h.st.nf⟩, h4, h5, h.hS, own, ap⟩
    have row : w'.ownsRow W.heap.size 9 1 v l.length (rcv l) := by
      obtain ⟨q1, q2 | ⟨g, cap, cur, p1, p2, p3, p4⟩⟩ := h.row
      · exact ⟨q1, .inl q2⟩
      · exact ⟨q1, .inr ⟨g, cap, cur, p1, p2, (h7.block g (blk_lt p3) (h.rap g (by rw [p1]; rfl)).2).trans p3, p4⟩⟩
    obtain ⟨a, ca, e1, li⟩ := rcv_lies row
    obtain ⟨a2, ca2, e2, li2⟩ := rcv_lies h8
    rw [e2] at h1
    refine ⟨T, a, ca, a2, ca2, e1, h1, ⟨F, G', v0, bt, (h7.block X hl hg).trans hx, hf, fun g => ?_⟩, li, li2⟩
    exact (h6 X g).elim hg fun c => by omega
  · exact absurd hX c0
theorem q_openRN (h : Qn W D E X o Y d w) (iv : Wr.Iv m d) (hm : m ≤ 900000) (hX : ¬ opX d 0 = 0) :
    Calls Tryz.prog 9 #[.pointer (some ⟨E, 0, none⟩), .int .i64 0] w fun en w' => en = .returned (.tuple #[.pointer none, .slice none 0 0, .int .i64 (opX d 0)]) ∧ Qn W D E X o Y (opD d 0) w' := by
  obtain ⟨F, G, u, hx, hf, hg⟩ := h
  have hl := blk_lt hx
  obtain ⟨L, l'⟩ := u.r
  refine (Wdc.open_ l' (fun j hj => by have := iv.q j hj; omega) 0).mono fun en w' c => ?_
  rcases c with ⟨c0, _⟩ | ⟨_, c⟩
  · exact absurd c0 hX
  · obtain ⟨h1, G', h2, h3, h4⟩ := c
    have bel := u.o1.bel
    refine ⟨h1, F, G', ⟨Wr.one_other u.o1 h4 u.dis (bel.trans (h4.below bel.size u.rown)), h2, fun b hb => (h3 b hb).elim (u.rown b) fun c => Nat.le_trans bel.size c, fun b hb g => (h3 b g).elim (u.dis b hb) fun c => by have := Wr.one_lt u.o1 hb; omega⟩, (h4.block X hl hg).trans hx, hf, fun g => ?_⟩
    exact (h3 X g).elim hg fun c => by omega
end

end Go.Proofs.YthmholgfnjpgbaaGreat.Wq
