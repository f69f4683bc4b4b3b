/-
  Both Opens: what the code's and the document's make of both disks. Nothing is asked but what each fact names.
-/
import Derived.Test.YthmholgfnjpgbaaGreatDocI
namespace Go.Proofs.YthmholgfnjpgbaaGreat.Wq
open Go.ChangeShapes Go.WideShapes Go.ChangeAt Go.RowKit Go.Proofs.YthmholgfnjpgbaaGreat.M Go.Proofs.YthmholgfnjpgbaaGreat.Wd Go.Proofs.YthmholgfnjpgbaaGreat.Wst Go.Proofs.YthmholgfnjpgbaaGreat.Wdc

/-- The code's stream is open, with its row of records; the document's is not yet. -/
structure Hf (W w : World) (D E S : Nat) (d e : Dk) (s : Sm) (F G : Nat → Prop) (v : Value) (l : List ByteArray) : Prop where
  du : Wr.Du W w D E d e F G
  st : StL w S D s F
  hS : W.heap.size ≤ S
  nS : ¬ G S
  row : w.ownsRow W.heap.size 9 1 v l.length (rcv l)
  rap : ∀ b, v.ownBlock = some b → ¬ Fs F S b ∧ ¬ G b
theorem du_openY {W w w' : World} {D E : Nat} {d e : Dk} {F G : Nat → Prop} {a : Int} {en : Ending} (u : Wr.Du W w D E d e F G) (c : OpY w D d F a en w') :
    ∃ S v F', en = .returned (.tuple #[.pointer (some ⟨S, 0, none⟩), v, .int .i64 0]) ∧ Hf W w' D E S (opD d a) e (opT d a) F' G v (opL d a.toNat) := by
  obtain ⟨S, v, F', h1, h2, h3, h4, h5, h6, h7, h8⟩ := c
  have bel := u.o1.bel
  have hz := bel.size
  obtain ⟨L, l⟩ := u.r
  refine ⟨S, v, F', h1, ⟨⟨h3, fun b hb => ?_, bel.trans (h6.below hz u.o1.own)⟩, ⟨L, l.kept h6.size fun b hb => h6.block b (l.lt b hb) fun f => u.dis b f hb⟩, u.rown, fun b hb g => ?_⟩, h4, by omega, fun g => ?_, own_keep h7 hz fun _ _ _ => rfl, fun b hb => ⟨fun f => ?_, fun g => ?_⟩⟩
  · exact (h5 b hb).elim (u.o1.own b) fun c => Nat.le_trans hz c.1
  · exact (h5 b hb).elim (fun c => u.dis b c g) fun c => by have := u.rlt g; omega
  · have := u.rlt g
    omega
  · exact f.elim (h8 b hb).1 (h8 b hb).2
  · have := u.rlt g
    have := (h7.lt b hb).1
    omega
theorem du_openN {W w w' : World} {D E : Nat} {d e : Dk} {F G : Nat → Prop} {a : Int} {en : Ending} (u : Wr.Du W w D E d e F G) (c : OpN w D d F a en w') :
    en = .returned (.tuple #[.pointer none, .slice none 0 0, .int .i64 (opX d a)]) ∧ ∃ F', Wr.Du W w' D E (opD d a) e F' G := by
  obtain ⟨h1, h2, h3⟩ := c
  have bel := u.o1.bel
  exact ⟨h1, _, u.left ⟨h2, fun b hb => hb.elim (u.o1.own b) fun c => Nat.le_trans bel.size c.1, bel.trans (h3.below bel.size u.o1.own)⟩ h3⟩
theorem hf_openY {W w w' : World} {D E S : Nat} {d e : Dk} {s : Sm} {F G : Nat → Prop} {v : Value} {l : List ByteArray} {a : Int} {en : Ending} (h : Hf W w D E S d e s F G v l) (c : RoY w E e G a en w') :
    ∃ T v2 v0 G', en = .returned (.tuple #[.pointer (some ⟨T, 0, none⟩), v2, .int .i64 0]) ∧ Bt W w' D E S T d (opD e a) s (opT e a) F G' v0 ∧ w'.ownsRow W.heap.size 9 1 v l.length (rcv l) ∧ w'.ownsRow w.heap.size 9 1 v2 (opL e a.toNat).length (rcv (opL e a.toNat)) := by
  obtain ⟨T, v2, v0, G', h1, h2, h3, h4, h5, h6, h7, h8, _⟩ := c
  have bel := h.du.o1.bel
  have hz := bel.size
  have flt : ∀ b, Fs F S b → b < w.heap.size := fun b f => f.elim (Wr.one_lt h.du.o1) fun f => by rw [f]; exact h.st.lt
  have fg : ∀ b, Fs F S b → ¬ G b := fun b f g => f.elim (fun f => h.du.dis b f g) fun f => h.nS (by rw [← f]; exact g)
  have ap : ∀ b, Fs F S b → ¬ Gt G' T v0 b := fun b f g => (h6 b g).elim (fg b f) fun g => by have := flt b f; omega
  have own : ∀ b, Gt G' T v0 b → W.heap.size ≤ b := fun b g => (h6 b g).elim (h.du.rown b) fun g => Nat.le_trans hz g
  refine ⟨T, v2, v0, G', h1, ⟨⟨Wr.one_other h.du.o1 h7 (fun b hb => fg b (.inl hb)) (bel.trans (h7.below hz h.du.rown)), h3, fun b hb => own b (.inl hb), fun b hb g => ap b (.inl hb) (.inl g)⟩, ⟨(h7.block S h.st.lt h.nS).trans h.st.at_, h.st.nf⟩, h4, h5, h.hS, own, ap⟩, ?_, h8⟩
  obtain ⟨q1, q2 | ⟨g, cap, cur, p1, p2, p3, p4⟩⟩ := h.row
  · exact ⟨q1, .inl q2⟩
  · exact ⟨q1, .inr ⟨g, cap, cur, p1, p2, (h7.block g (blk_lt p3) (h.rap g (by rw [p1]; rfl)).2).trans p3, p4⟩⟩
theorem du_docN {W w w' : World} {D E : Nat} {d e : Dk} {F G : Nat → Prop} {a : Int} {en : Ending} (u : Wr.Du W w D E d e F G) (c : RoN w E e G a en w') :
    en = .returned (.tuple #[.pointer none, .slice none 0 0, .int .i64 (opX e a)]) ∧ ∃ G', Wr.Du W w' D E d (opD e a) F G' := by
  obtain ⟨h1, G', h2, h3, h4⟩ := c
  have bel := u.o1.bel
  refine ⟨h1, G', Wr.one_other u.o1 h4 u.dis (bel.trans (h4.below bel.size u.rown)), h2, fun b hb => (h3 b hb).elim (u.rown b) fun c => Nat.le_trans bel.size c, fun b hb g => (h3 b g).elim (u.dis b hb) fun c => by have := Wr.one_lt u.o1 hb; omega⟩

end Go.Proofs.YthmholgfnjpgbaaGreat.Wq
