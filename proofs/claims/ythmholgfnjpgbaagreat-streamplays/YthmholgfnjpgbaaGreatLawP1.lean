/-
  One act on the code's disk and on the document's: both answer the same, and have the same behind it.
-/
import Derived.Test.YthmholgfnjpgbaaGreatRb
import Derived.Test.YthmholgfnjpgbaaGreatActV
import Derived.Lib.MinMax
import Derived.Deep.RegionHeld3
namespace Go.Proofs.YthmholgfnjpgbaaGreat.Wr
open Go.ChangeShapes Go.WideShapes Go.ChangeAt Go.RowKit Go.Proofs.YthmholgfnjpgbaaGreat.M Go.Proofs.YthmholgfnjpgbaaGreat.Wd Go.Proofs.YthmholgfnjpgbaaGreat.Wv

theorem one_lt {W w : World} {D : Nat} {d : Dk} {F : Nat → Prop} (h : One W w D d F) {b : Nat} (hb : F b) : b < w.heap.size := by
  obtain ⟨L, l⟩ := h.at_
  exact l.lt b hb
theorem one_other {W w w' : World} {E : Nat} {e : Dk} {F G : Nat → Prop} (h : One W w E e G) (hk : Kept F w w') (dis : ∀ b, G b → ¬ F b) (bel : Below W.heap.size W w') : One W w' E e G := by
  obtain ⟨L, l⟩ := h.at_
  exact ⟨⟨L, l.kept hk.size fun b hb => hk.block b (l.lt b hb) (dis b hb)⟩, h.own, bel⟩

/-- The code's disk and the document's, apart from one another. -/
structure Du (W w : World) (D E : Nat) (d e : Dk) (F G : Nat → Prop) : Prop where
  o1 : One W w D d F
  r : ∃ L, RkL w E e G L
  rown : ∀ b, G b → W.heap.size ≤ b
  dis : ∀ b, F b → ¬ G b
theorem Du.rlt {W w : World} {D E : Nat} {d e : Dk} {F G : Nat → Prop} (h : Du W w D E d e F G) {b : Nat} (hb : G b) : b < w.heap.size := by
  obtain ⟨L, l⟩ := h.r
  exact l.lt b hb
theorem Du.left {W w w' : World} {D E : Nat} {d d' e : Dk} {F G : Nat → Prop} (h : Du W w D E d e F G) (o : One W w' D d' (Gr F w w')) (hk : Kept F w w') : Du W w' D E d' e (Gr F w w') G := by
  refine ⟨o, ?_, h.rown, fun b hb hg => ?_⟩
  · obtain ⟨L, l⟩ := h.r
    exact ⟨L, l.kept hk.size fun b hb => hk.block b (l.lt b hb) (fun hf => h.dis b hf hb)⟩
  · rcases hb with hb | hb
    · exact h.dis b hb hg
    · have := h.rlt hg; omega
theorem Du.right {W w w' : World} {D E : Nat} {d e e' : Dk} {F G : Nat → Prop} (h : Du W w D E d e F G) (o : ∃ L, RkL w' E e' (Gr G w w') L) (hk : Kept G w w') : Du W w' D E d e' F (Gr G w w') :=
  ⟨one_other h.o1 hk h.dis (h.o1.bel.trans (hk.below h.o1.bel.size h.rown)), o, fun b hb => by
    rcases hb with hb | hb
    · exact h.rown b hb
    · exact Nat.le_trans h.o1.bel.size hb.1, fun b hf hb => by
    rcases hb with hb | hb
    · exact h.dis b hf hb
    · have := one_lt h.o1 hf; omega⟩
theorem Du.rightG {W w w' : World} {D E : Nat} {d e e' : Dk} {F G : Nat → Prop} (h : Du W w D E d e F G) (o : ∃ L, RkL w' E e' G L) (hk : Kept G w w') : Du W w' D E d e' F (Gr G w w') := by
  obtain ⟨L, l⟩ := o
  refine h.right ⟨L, l.more (fun b hb => .inl hb) fun b hb => ?_⟩ hk
  rcases hb with hb | hb
  · exact l.lt b hb
  · exact hb.2
theorem Du.below {W w w' : World} {D E : Nat} {d e : Dk} {F G : Nat → Prop} (h : Du W w D E d e F G) (b : Below w.heap.size w w') : Du W w' D E d e F G := by
  obtain ⟨L, l⟩ := h.r
  exact ⟨h.o1.below b, ⟨L, l.below b⟩, h.rown, h.dis⟩

/-- A block that is neither's. -/
structure Ob (w : World) (F G : Nat → Prop) (g : Nat) (ob : Obj) : Prop where
  at_ : w.heap[g]? = some ob
  nf : ¬ F g
  ng : ¬ G g
theorem Ob.left {w w' : World} {F G : Nat → Prop} {g : Nat} {ob : Obj} (h : Ob w F G g ob) (hk : Kept F w w') : Ob w' (Gr F w w') G g ob :=
  ⟨(hk.block g (blk_lt h.at_) h.nf).trans h.at_, fun hb => by
    rcases hb with hb | hb
    · exact h.nf hb
    · have := blk_lt h.at_; omega, h.ng⟩
theorem Ob.right {w w' : World} {F G : Nat → Prop} {g : Nat} {ob : Obj} (h : Ob w F G g ob) (hk : Kept G w w') : Ob w' F (Gr G w w') g ob :=
  ⟨(hk.block g (blk_lt h.at_) h.ng).trans h.at_, h.nf, fun hb => by
    rcases hb with hb | hb
    · exact h.ng hb
    · have := blk_lt h.at_; omega⟩
theorem Ob.below {w w' : World} {F G : Nat → Prop} {g : Nat} {ob : Obj} (h : Ob w F G g ob) (b : Below w.heap.size w w') : Ob w' F G g ob := ⟨(b.block g (blk_lt h.at_)).trans h.at_, h.nf, h.ng⟩
def aob (A : Av) : Obj := .cells #[.int .i64 A.act, .int .i64 A.reg, .int .i64 A.sec, .int .i64 A.num, .string A.data, .slice A.ka A.K.length A.kc] 43
theorem Ob.cells {w : World} {F G : Nat → Prop} {g : Nat} {A : Av} (h : Ob w F G g (aob A)) : w.cell? ⟨g, 0, none⟩ = some (.int .i64 A.act) ∧ w.cell? ⟨g, 1, none⟩ = some (.int .i64 A.reg) ∧ w.cell? ⟨g, 2, none⟩ = some (.int .i64 A.sec) ∧ w.cell? ⟨g, 3, none⟩ = some (.int .i64 A.num) ∧ w.cell? ⟨g, 4, none⟩ = some (.string A.data) ∧ w.cell? ⟨g, 5, none⟩ = some (.slice A.ka A.K.length A.kc) := by
  have hb := h.at_
  unfold aob at hb
  exact ⟨blk_cell (l := [_, _, _, _, _, _]) hb rfl, blk_cell (l := [_, _, _, _, _, _]) hb rfl, blk_cell (l := [_, _, _, _, _, _]) hb rfl, blk_cell (l := [_, _, _, _, _, _]) hb rfl, blk_cell (l := [_, _, _, _, _, _]) hb rfl, blk_cell (l := [_, _, _, _, _, _]) hb rfl⟩

/-- What holds of the disk as plain data. -/
structure Iv (m : Nat) (d : Dk) : Prop where
  q : ∀ j, j < d.k → (d.r j).q.length ≤ m
  o : d.off = true → ∀ j, j < d.k → (d.r j).q = []
theorem cnt_off {d : Dk} {a : Nat} (h : d.off = false) : (d.cnt a).off = true → ∀ j, j < (d.cnt a).k → ((d.cnt a).r j).q = [] := by
  rcases ha : d.ask with _ | ⟨b, l, K⟩
  · rw [(now_none ha).2, h]
    intro hh; cases hh
  · rw [(now_some (a := a) ha).2]
    split
    · split
      · exact fun _ _ _ => rfl
      · intro hh
        have : d.off = true := hh
        rw [h] at this; cases this
    · rw [h]; intro hh; cases hh
theorem Iv.write {m : Nat} {d : Dk} (h : Iv m d) (a b : Int) (x : ByteArray) : Iv (m + 1) (d.write a b x) := by
  refine ⟨q_write h.q a b x, ?_⟩
  unfold Dk.write
  split
  · rename_i c
    obtain ⟨i, s, rfl, rfl, _, _, ho⟩ := readE_ok (preW_ok c).1
    exact cnt_off (d := d.put (i : Int) (s : Int) x) ho
  · exact h.o
theorem Iv.flush {m : Nat} {d : Dk} (h : Iv m d) (a : Int) : Iv (m + 1) (d.flush a) := by
  refine ⟨fun j hj => Nat.le_succ_of_le (q_flush h.q a j hj), ?_⟩
  unfold Dk.flush
  split
  · rename_i c
    obtain ⟨ho, _⟩ := preF_ok c
    split
    · exact cnt_off ho
    · rename_i hn
      intro hh
      have h2 : (d.cnt a.toNat).off = true := hh
      have e : d.cnt a.toNat = dec d a.toNat := (dec_no (by simpa using hn)).symm
      rw [e] at h2
      unfold dec at h2
      split at h2
      · rw [ho] at h2; cases h2
      · split at h2
        · have h3 : d.off = true := h2
          rw [ho] at h3; cases h3
        · rw [ho] at h2; cases h2
  · exact h.o
theorem Iv.lay {m : Nat} {d : Dk} (h : Iv m d) (a : Int) (x : ByteArray) : Iv (m + 1) (d.lay a x) := by
  refine ⟨fun j hj => Nat.le_succ_of_le (q_lay h.q a x j hj), ?_⟩
  unfold Dk.lay
  split
  · intro ho j hj
    show (upd d.r a.toNat ((d.r a.toNat).lay x) j).q = []
    unfold upd
    split
    · rfl
    · exact h.o ho j hj
  · exact h.o
theorem Iv.crash {m : Nat} {d : Dk} (K : List Int) : Iv m (d.crash K) := ⟨q_crash K, fun h => by cases h⟩
theorem Iv.on {m : Nat} {d : Dk} (h : Iv m d) : Iv (m + 1) d.on := ⟨fun j hj => Nat.le_succ_of_le (h.q j hj), fun h => by cases h⟩
theorem Iv.cut {m : Nat} {d : Dk} (h : Iv m d) (a n : Int) (K : List Int) : Iv (m + 1) (d.cut a n K) := ⟨fun j hj => Nat.le_succ_of_le (h.q j hj), h.o⟩
theorem Iv.more {m : Nat} {d : Dk} (h : Iv m d) : Iv (m + 1) d := ⟨fun j hj => Nat.le_succ_of_le (h.q j hj), h.o⟩

theorem Ns.rd {W w : World} {ka : Option Addr} {K : List Int} {kc : Nat} (h : Ns W ka K kc) {F : Nat → Prop} (b : Below W.heap.size W w) (hF : ∀ i, F i → W.heap.size ≤ i) : ∀ j, j < K.length → ∃ b o, ka = some ⟨b, o, none⟩ ∧ b < w.heap.size ∧ ¬ F b ∧ w.cell? ⟨b, o + j, none⟩ = some (.int .u64 (K.getD j 0)) := fun j hj => by
  rcases h.at_ with h0 | ⟨g, o, h1, h2, h3⟩
  · rw [h0] at hj; simp at hj
  · exact ⟨g, o, h1, Nat.lt_of_lt_of_le h2 b.size, fun hf => by have := hF g hf; omega, (b.cell (by exact h2)).trans (h3 j hj)⟩

theorem one_cut {W w : World} {D : Nat} {d : Dk} {F : Nat → Prop} (h : One W w D d F) (a n : Int) (hn63 : n < 9223372036854775808) (ao : Option Addr) (K : List Int) (c : Nat) (h64 : K64 K) (hb : K.length * 8 ≤ 140737488355328) (hnil : ao = none → K = []) (ha : ∀ j, j < K.length → ∃ b o, ao = some ⟨b, o, none⟩ ∧ b < w.heap.size ∧ ¬ F b ∧ w.cell? ⟨b, o + j, none⟩ = some (.int .u64 (K.getD j 0))) :
    Calls Tryz.prog 51 #[.pointer (some ⟨D, 0, none⟩), .int .i64 a, .int .i64 n, .slice ao K.length c] w fun e w' => e = .returned (.tuple #[]) ∧ One W w' D (d.cut a n K) (Gr F w w') ∧ Kept F w w' := by
  obtain ⟨L, l⟩ := h.at_
  exact (cutD l a n hn63 ao K c h64 hb hnil ha).mono fun e w' ⟨h1, h2, h3⟩ => ⟨h1, h.step h2 h3, h3⟩

/-- Behind an act. -/
def Done (W : World) (D E m : Nat) (w' : World) : Prop := ∃ d F G, Iv m d ∧ Du W w' D E d d F G

end Go.Proofs.YthmholgfnjpgbaaGreat.Wr
