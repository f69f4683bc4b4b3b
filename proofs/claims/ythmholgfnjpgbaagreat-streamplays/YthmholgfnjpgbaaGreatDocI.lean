/-
  The code's stream and the document's, each on its disk, apart from one another; what a call of either, or of both disks, makes of them. Nothing is asked but what each fact names.
-/
import Derived.Test.YthmholgfnjpgbaaGreatLawQ2
namespace Go.Proofs.YthmholgfnjpgbaaGreat.Wq
open Go.ChangeShapes Go.WideShapes Go.ChangeAt Go.RowKit Go.Proofs.YthmholgfnjpgbaaGreat.M Go.Proofs.YthmholgfnjpgbaaGreat.Wd Go.Proofs.YthmholgfnjpgbaaGreat.Wst Go.Proofs.YthmholgfnjpgbaaGreat.Wdc

/-- Both streams on both disks, made since W. -/
structure Bt (W w : World) (D E S T : Nat) (d e : Dk) (s t : Sm) (F G : Nat → Prop) (v : Value) : Prop where
  du : Wr.Du W w D E d e F G
  st : StL w S D s F
  rs : Rs w T E t G v
  row : Row w G T v t.L
  hS : W.heap.size ≤ S
  own : ∀ b, Gt G T v b → W.heap.size ≤ b
  ap : ∀ b, Fs F S b → ¬ Gt G T v b
theorem Bt.glt {W w : World} {D E S T : Nat} {d e : Dk} {s t : Sm} {F G : Nat → Prop} {v : Value} (h : Bt W w D E S T d e s t F G v) {b : Nat} (hb : Gt G T v b) : b < w.heap.size := by
  rcases hb with hb | rfl | hb
  · exact h.du.rlt hb
  · exact h.rs.lt
  · exact (h.row.own.lt b hb).2
theorem Bt.flt {W w : World} {D E S T : Nat} {d e : Dk} {s t : Sm} {F G : Nat → Prop} {v : Value} (h : Bt W w D E S T d e s t F G v) {b : Nat} (hb : Fs F S b) : b < w.heap.size := by
  rcases hb with hb | rfl
  · exact Wr.one_lt h.du.o1 hb
  · exact h.st.lt
/-- A call of the code's stream. -/
theorem Bt.code {W w w' : World} {D E S T : Nat} {d e Y : Dk} {s s' t : Sm} {F G : Nat → Prop} {v : Value} {X : Int} {en : Ending} (h : Bt W w D E S T d e s t F G v) (c : CaP F S D s' X Y w en w') : Bt W w' D E S T Y e s' t (Gr F w w') G v := by
  obtain ⟨_, ⟨L', c2⟩, c3, c4⟩ := c
  have bel := h.du.o1.bel
  obtain ⟨L, l⟩ := h.du.r
  have nw : ∀ b, Fs (Gr F w w') S b → Fs F S b ∨ w.heap.size ≤ b := fun b c => c.elim (fun c => c.elim (fun c => .inl (.inl c)) fun c => .inr c.1) fun c => .inl (.inr c)
  have ap : ∀ b, Fs (Gr F w w') S b → ¬ Gt G T v b := fun b c g => (nw b c).elim (fun c => h.ap b c g) fun c => by have := h.glt g; omega
  refine ⟨⟨⟨⟨L', c2⟩, fun b hb => ?_, bel.trans (c4.below bel.size fun i hi => ?_)⟩, ⟨L, l.kept c4.size fun b hb => c4.block b (l.lt b hb) fun f => h.ap b f (.inl hb)⟩, h.du.rown, fun b hb g => ap b (.inl hb) (.inl g)⟩, c3, ⟨(c4.block T h.rs.lt fun f => h.ap T f (.inr (.inl rfl))).trans h.rs.at_, h.rs.nf⟩, h.row.kept (fun b hb o => c4.block b hb fun f => h.ap b f (.inr (.inr o))) fun _ c => .inl c, h.hS, h.own, ap⟩
  · exact hb.elim (h.du.o1.own b) fun hb => Nat.le_trans bel.size hb.1
  · exact hi.elim (h.du.o1.own i) fun hi => by rw [hi]; exact h.hS
/-- A call of the document's. -/
theorem Bt.doc {W w w' : World} {D E S T : Nat} {d e Y : Dk} {s t t' : Sm} {F G : Nat → Prop} {v : Value} {X : Int} {en : Ending} (h : Bt W w D E S T d e s t F G v) (c : RcP G T E v t' X Y w en w') : ∃ G' v', Bt W w' D E S T d Y s t' F G' v' := by
  obtain ⟨_, G', v', c1, c2, c3, c4, c5⟩ := c
  have bel := h.du.o1.bel
  have ap : ∀ b, Fs F S b → ¬ Gt G' T v' b := fun b f g => (c4 b g).elim (h.ap b f) fun g => by have := h.flt f; omega
  have own : ∀ b, Gt G' T v' b → W.heap.size ≤ b := fun b g => (c4 b g).elim (h.own b) fun g => Nat.le_trans bel.size g
  exact ⟨G', v', ⟨Wr.one_other h.du.o1 c5 (fun b hb => h.ap b (.inl hb)) (bel.trans (c5.below bel.size h.own)), c1, fun b hb => own b (.inl hb), fun b hb g => ap b (.inl hb) (.inl g)⟩, ⟨(c5.block S h.st.lt (h.ap S (.inr rfl))).trans h.st.at_, h.st.nf⟩, c2, c3, h.hS, own, ap⟩
/-- A call of both disks. -/
theorem Bt.act {W w w' : World} {D E S T : Nat} {d e d' e' : Dk} {s t : Sm} {F G F' G' : Nat → Prop} {v : Value} (h : Bt W w D E S T d e s t F G v) (u : Wr.Du W w' D E d' e' F' G') (m : Mv w F G w' F' G') : Bt W w' D E S T d' e' s t F' G' v := by
  have out : ∀ b, Gt G T v b → b = T ∨ v.ownBlock = some b → ¬ G b → w'.heap[b]? = w.heap[b]? := fun b g _ n => m.k.block b (h.glt g) fun c => c.elim (fun c => h.ap b (.inl c) g) n
  have gT : Gt G T v T := .inr (.inl rfl)
  have sS : Fs F S S := .inr rfl
  have keepS : w'.heap[S]? = w.heap[S]? := m.k.block S h.st.lt fun c => c.elim h.st.nf fun c => h.ap S sS (.inl c)
  have fN : ∀ b, F' b → b < w.heap.size → F b := fun b c hb => (m.f b c).elim id fun c => by omega
  have gN : ∀ b, G' b → b < w.heap.size → G b := fun b c hb => (m.g b c).elim id fun c => by omega
  refine ⟨u, ⟨keepS.trans h.st.at_, fun c => h.st.nf (fN S c h.st.lt)⟩, ⟨(out T gT (.inl rfl) h.rs.nf).trans h.rs.at_, fun c => h.rs.nf (gN T c h.rs.lt)⟩, h.row.kept (fun b _ o => out b (.inr (.inr o)) (.inr o) (h.row.ap b o).1) m.g, h.hS, fun b g => ?_, fun b f g => ?_⟩
  · rcases g with g | g | g
    · exact u.rown b g
    · exact h.own b (.inr (.inl g))
    · exact h.own b (.inr (.inr g))
  · rcases f with f | f
    · rcases g with g | g
      · exact u.dis b f g
      · have gg : Gt G T v b := .inr g
        exact h.ap b (.inl (fN b f (h.glt gg))) gg
    · have hb : b < w.heap.size := by rw [f]; exact h.st.lt
      rcases g with g | g
      · exact h.ap b (.inr f) (.inl (gN b g hb))
      · exact h.ap b (.inr f) (.inr g)
/-- Nothing has turned but what was made. -/
theorem Bt.below {W w w' : World} {D E S T : Nat} {d e : Dk} {s t : Sm} {F G : Nat → Prop} {v : Value} (h : Bt W w D E S T d e s t F G v) (b : Below w.heap.size w w') : Bt W w' D E S T d e s t F G v :=
  ⟨h.du.below b, h.st.below b, h.rs.below b, h.row.kept (fun k hk _ => b.block k hk) fun _ c => .inl c, h.hS, h.own, h.ap⟩

end Go.Proofs.YthmholgfnjpgbaaGreat.Wq
