/-
  Both streams on both disks, beside a block of the law's own ('Ab', 'Qa'), or both disks without a stream ('Qn'): what each call of the law makes of them. Nothing is asked but what each fact names.
-/
import Derived.Test.YthmholgfnjpgbaaGreatDocJ
import Derived.Test.YthmholgfnjpgbaaGreatLawP3
import Derived.Test.YthmholgfnjpgbaaGreatLwC
import Derived.Test.YthmholgfnjpgbaaGreatSpV
namespace Go.Proofs.YthmholgfnjpgbaaGreat.Wq
open Go.ChangeShapes Go.WideShapes Go.ChangeAt Go.RowKit Go.Proofs.YthmholgfnjpgbaaGreat.M Go.Proofs.YthmholgfnjpgbaaGreat.Wd Go.Proofs.YthmholgfnjpgbaaGreat.Wst Go.Proofs.YthmholgfnjpgbaaGreat.Wdc

/-- Both streams on both disks, and a block of the law's own. -/
structure Ab (W w : World) (D E S T : Nat) (d e : Dk) (s t : Sm) (F G : Nat → Prop) (v : Value) (X : Nat) (o : Obj) : Prop where
  bt : Bt W w D E S T d e s t F G v
  xb : w.heap[X]? = some o
  xf : ¬ Fs F S X
  xg : ¬ Gt G T v X
section
variable {W w w' : World} {D E S T : Nat} {d e Y : Dk} {s s' t t' : Sm} {F G : Nat → Prop} {v : Value} {X : Nat} {o : Obj} {x : Int} {en : Ending}
theorem Ab.code (h : Ab W w D E S T d e s t F G v X o) (c : CaP F S D s' x Y w en w') : Ab W w' D E S T Y e s' t (Gr F w w') G v X o := by
  have hl := blk_lt h.xb
  refine ⟨h.bt.code c, (c.2.2.2.block X hl h.xf).trans h.xb, fun f => ?_, h.xg⟩
  rcases f with f | f
  · rcases f with f | f
    · exact h.xf (.inl f)
    · have := f.1; omega
  · exact h.xf (.inr f)
theorem Ab.doc (h : Ab W w D E S T d e s t F G v X o) (c : RcP G T E v t' x Y w en w') : ∃ G' v', Ab W w' D E S T d Y s t' F G' v' X o := by
  obtain ⟨_, G', v', c1, c2, c3, c4, c5⟩ := c
  have hl := blk_lt h.xb
  have b := h.bt
  have bel := b.du.o1.bel
  have ap : ∀ k, Fs F S k → ¬ Gt G' T v' k := fun k f g => (c4 k g).elim (b.ap k f) fun g => by have := b.flt f; omega
  have own : ∀ k, Gt G' T v' k → W.heap.size ≤ k := fun k g => (c4 k g).elim (b.own k) fun g => Nat.le_trans bel.size g
  refine ⟨G', v', ⟨⟨⟨Wr.one_other b.du.o1 c5 (fun k hb => b.ap k (.inl hb)) (bel.trans (c5.below bel.size b.own)), c1, fun k hb => own k (.inl hb), fun k hb g => ap k (.inl hb) (.inl g)⟩, ⟨(c5.block S b.st.lt (b.ap S (.inr rfl))).trans b.st.at_, b.st.nf⟩, c2, c3, b.hS, own, ap⟩, (c5.block X hl h.xg).trans h.xb, h.xf, fun g => ?_⟩⟩
  rcases c4 X g with g | g
  · exact h.xg g
  · omega
theorem Ab.below (h : Ab W w D E S T d e s t F G v X o) (b : Below w.heap.size w w') : Ab W w' D E S T d e s t F G v X o := ⟨h.bt.below b, (b.block X (blk_lt h.xb)).trans h.xb, h.xf, h.xg⟩
theorem Ab.act {d' e' : Dk} {F' G' : Nat → Prop} (h : Ab W w D E S T d e s t F G v X o) (u : Wr.Du W w' D E d' e' F' G') (m : Mv w F G w' F' G') : Ab W w' D E S T d' e' s t F' G' v X o := by
  have hl := blk_lt h.xb
  refine ⟨h.bt.act u m, (m.k.block X hl fun c => c.elim (fun c => h.xf (.inl c)) fun c => h.xg (.inl c)).trans h.xb, fun f => ?_, fun g => ?_⟩
  · rcases f with f | f
    · rcases m.f X f with f | f
      · exact h.xf (.inl f)
      · omega
    · exact h.xf (.inr f)
  · rcases g with g | g
    · rcases m.g X g with g | g
      · exact h.xg (.inl g)
      · omega
    · exact h.xg (.inr g)
end

/-- The same, whatever blocks they own. -/
def Qa (W : World) (D E S T X : Nat) (o : Obj) (d e : Dk) (s t : Sm) (w : World) : Prop := ∃ F G v, Ab W w D E S T d e s t F G v X o
/-- Both disks without a stream. -/
def Qn (W : World) (D E X : Nat) (o : Obj) (d e : Dk) (w : World) : Prop := ∃ F G, Wr.Du W w D E d e F G ∧ w.heap[X]? = some o ∧ ¬ F X ∧ ¬ G X
section
variable {W w w' : World} {D E S T X : Nat} {o : Obj} {d e Y : Dk} {s s' t : Sm} {m : Nat}
theorem Qa.below (h : Qa W D E S T X o d e s t w) (b : Below w.heap.size w w') : Qa W D E S T X o d e s t w' := by
  obtain ⟨F, G, v, h⟩ := h
  exact ⟨F, G, v, h.below b⟩
theorem Qn.below (h : Qn W D E X o d e w) (b : Below w.heap.size w w') : Qn W D E X o d e w' := by
  obtain ⟨F, G, h1, h2, h3, h4⟩ := h
  exact ⟨F, G, h1.below b, (b.block X (blk_lt h2)).trans h2, h3, h4⟩
theorem Qa.dead (h : Qa W D E S T X o d e s t w) : Qn W D E X o d e w := by
  obtain ⟨F, G, v, h⟩ := h
  exact ⟨F, G, h.bt.du, h.xb, fun f => h.xf (.inl f), fun g => h.xg (.inl g)⟩
theorem Qa.x (h : Qa W D E S T X o d e s t w) : w.heap[X]? = some o := by
  obtain ⟨F, G, v, h⟩ := h
  exact h.xb
theorem Qn.x (h : Qn W D E X o d e w) : w.heap[X]? = some o := by
  obtain ⟨F, G, _, h, _⟩ := h
  exact h
theorem Qa.bel (h : Qa W D E S T X o d e s t w) : Below W.heap.size W w := by
  obtain ⟨F, G, v, h⟩ := h
  exact h.bt.du.o1.bel
theorem Qn.bel (h : Qn W D E X o d e w) : Below W.heap.size W w := by
  obtain ⟨F, G, h, _⟩ := h
  exact h.o1.bel
theorem q_append (h : Qa W D E S T X o d d s s w) (f : Fit d s) (iv : Wr.Iv m d) (hm : m ≤ 900000) (b : ByteArray) (hb : b.size ≤ maxLen) :
    Calls Tryz.prog 16 #[.pointer (some ⟨S, 0, none⟩), .string b] w fun en w' => en = .returned (.int .i64 (s.apX b d)) ∧ Qa W D E S T X o (s.apD b d) d (s.apS b d) s w' := by
  obtain ⟨F, G, v, a⟩ := h
  obtain ⟨L, l⟩ := a.bt.du.o1.at_
  exact (append l a.bt.st f.sw f.g1 (fun j hj => by have := iv.q j hj; omega) b hb).mono fun en w' c => ⟨c.1, _, _, _, a.code c⟩
theorem q_appendR (h : Qa W D E S T X o Y d s' s w) (f : Fit d s) (iv : Wr.Iv m d) (hm : m ≤ 900000) (b : ByteArray) (hb : b.size ≤ maxLen) :
    Calls Tryz.prog 17 #[.pointer (some ⟨T, 0, none⟩), .string b] w fun en w' => en = .returned (.int .i64 (s.apX b d)) ∧ Qa W D E S T X o Y (s.apD b d) s' (s.apS b d) w' := by
  obtain ⟨F, G, v, a⟩ := h
  obtain ⟨L, l⟩ := a.bt.du.r
  refine (Wdc.append l a.bt.rs a.bt.row f.sw f.g1 f.fr (fun j hj => by have := iv.q j hj; omega) b hb).mono fun en w' c => ⟨c.1, ?_⟩
  obtain ⟨G', v', a'⟩ := a.doc c
  exact ⟨F, G', v', a'⟩
theorem q_same (h : Qa W D E S T X o d d s t w) :
    Calls Tryz.prog 12 #[.pointer (some ⟨D, 0, none⟩), .pointer (some ⟨E, 0, none⟩)] w fun en w' => en = .returned (.bool true) ∧ Qa W D E S T X o d d s t w' := by
  obtain ⟨F, G, v, a⟩ := h
  exact (Wr.same a.bt.du).mono fun en w' c => ⟨c.1, F, G, v, a.below c.2⟩
theorem qn_same (h : Qn W D E X o d d w) :
    Calls Tryz.prog 12 #[.pointer (some ⟨D, 0, none⟩), .pointer (some ⟨E, 0, none⟩)] w fun en w' => en = .returned (.bool true) ∧ Qn W D E X o d d w' := by
  have h0 := h
  obtain ⟨F, G, u, _⟩ := h
  exact (Wr.same u).mono fun en w' c => ⟨c.1, h0.below c.2⟩
theorem q_left (h : Qa W D E S T X o d d s s w) (f : Fit d s) :
    Calls Tryz.prog 18 #[.pointer (some ⟨S, 0, none⟩)] w fun en w' => en = .returned (.int .i64 s.left) ∧ Qa W D E S T X o d d s s w' := by
  obtain ⟨F, G, v, a⟩ := h
  obtain ⟨L, l⟩ := a.bt.du.o1.at_
  exact (left l a.bt.st f.sw).mono fun en w' c => ⟨c.1, F, G, v, a.below c.2⟩
theorem q_leftR (h : Qa W D E S T X o d d s s w) (f : Fit d s) :
    Calls Tryz.prog 19 #[.pointer (some ⟨T, 0, none⟩)] w fun en w' => en = .returned (.int .i64 s.left) ∧ Qa W D E S T X o d d s s w' := by
  obtain ⟨F, G, v, a⟩ := h
  obtain ⟨L, l⟩ := a.bt.du.r
  exact (Wdc.left l a.bt.rs a.bt.row f.sw f.fr).mono fun en w' c => ⟨c.1, F, G, v, a.below c.2⟩
theorem q_gen (h : Qa W D E S T X o d e s t w) :
    Calls Tryz.prog 20 #[.pointer (some ⟨S, 0, none⟩)] w fun en w' => en = .returned (.int .i64 s.g) ∧ Qa W D E S T X o d e s t w' := by
  obtain ⟨F, G, v, a⟩ := h
  refine (gen a.bt.st).mono fun en w' c => ⟨c.1, ?_⟩
  obtain ⟨_, rfl⟩ := c
  exact ⟨F, G, v, a⟩
theorem Qa.genR (h : Qa W D E S T X o d e s t w) : w.cell? ⟨T, 3, none⟩ = some (.int .i64 t.g) := by
  obtain ⟨F, G, v, a⟩ := h
  exact a.bt.rs.cell (i := 3) rfl
/-- A disk's queues and sizes behind an act. -/
theorem q_act (h : Qa W D E S T X o d d s t w) (iv : Wr.Iv m d) (hm : m ≤ 900000) (A : Wv.Av) (hA : A.ok W) :
    Calls Tryz.prog 15 #[.pointer (some ⟨D, 0, none⟩), .pointer (some ⟨E, 0, none⟩), .agg A.cells.toArray] w fun en w' => en = .returned (.bool true) ∧ ∃ d', Wr.Iv (m + 1) d' ∧ Ms d 1 d' ∧ Qa W D E S T X o d' d' s t w' := by
  obtain ⟨F, G, v, a⟩ := h
  refine (act A hA a.bt.du iv hm (Mv.refl w F G)).mono fun en w' c => ⟨c.1, ?_⟩
  obtain ⟨_, d', F', G', i', u', ms, mv⟩ := c
  exact ⟨d', i', ms, F', G', v, a.act u' mv⟩
theorem qn_act (h : Qn W D E X o d d w) (iv : Wr.Iv m d) (hm : m ≤ 900000) (A : Wv.Av) (hA : A.ok W) :
    Calls Tryz.prog 15 #[.pointer (some ⟨D, 0, none⟩), .pointer (some ⟨E, 0, none⟩), .agg A.cells.toArray] w fun en w' => en = .returned (.bool true) ∧ ∃ d', Wr.Iv (m + 1) d' ∧ Ms d 1 d' ∧ Qn W D E X o d' d' w' := by
  obtain ⟨F, G, u, hx, hf, hg⟩ := h
  have hl := blk_lt hx
  refine (act A hA u iv hm (Mv.refl w F G)).mono fun en w' c => ⟨c.1, ?_⟩
  obtain ⟨_, d', F', G', i', u', ms, mv⟩ := c
  refine ⟨d', i', ms, F', G', u', (mv.k.block X hl fun c => c.elim hf hg).trans hx, fun c => ?_, fun c => ?_⟩
  · rcases mv.f X c with c | c
    · exact hf c
    · omega
  · rcases mv.g X c with c | c
    · exact hg c
    · omega
end

end Go.Proofs.YthmholgfnjpgbaaGreat.Wq
