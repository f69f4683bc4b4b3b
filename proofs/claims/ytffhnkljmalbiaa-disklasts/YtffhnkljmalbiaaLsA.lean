/-
  What the law DiskLasts keeps: two disks and its own slices, apart from one another ('Lz'), and what each of its steps does to them; the plain facts on its disk ('Pl'). Nothing is asked but what each fact names.
-/
import Derived.Test.YtffhnkljmalbiaaLawApart
import Derived.Test.YtffhnkljmalbiaaMathLm
import Derived.Test.YtffhnkljmalbiaaLmRep
namespace Go.Proofs.Ytffhnkljmalbiaa.Wd
open Go.ChangeShapes Go.WideShapes Go.ChangeAt Go.RowKit Go.Proofs.Ytffhnkljmalbiaa.M Go.Proofs.Ytffhnkljmalbiaa.Wv

structure Lz (W w : World) (D E M J : Nat) (d e : Dk) (l : Nat → List ByteArray) (F G H : Nat → Prop) : Prop where
  o1 : One W w D d F
  o2 : One W w E e G
  fg : ∀ b, F b → ¬ G b
  hf : ∀ b, H b → ¬ F b
  hg : ∀ b, H b → ¬ G b
  my : ∃ g o c, My w M J l H g o c
  hw : ∀ b, H b → W.heap.size ≤ b

theorem Lz.hlt {W w : World} {D E M J : Nat} {d e : Dk} {l : Nat → List ByteArray} {F G H : Nat → Prop} (h : Lz W w D E M J d e l F G H) {b : Nat} (hb : H b) : b < w.heap.size := by
  obtain ⟨g, o, c, m⟩ := h.my
  exact m.lt b hb
theorem Lz.left {W w w' : World} {D E M J : Nat} {d d' e : Dk} {l : Nat → List ByteArray} {F G H : Nat → Prop} (h : Lz W w D E M J d e l F G H) (o : One W w' D d' (Gr F w w')) (hk : Kept F w w') : Lz W w' D E M J d' e l (Gr F w w') G H where
  o1 := o
  o2 := h.o2.other hk (fun b hb hf => h.fg b hf hb) o.bel
  fg := fun b hb hg => by
    rcases hb with hb | hb
    · exact h.fg b hb hg
    · have := h.o2.lt hg; omega
  hf := fun b hb hf => by
    rcases hf with hf | hf
    · exact h.hf b hb hf
    · have := h.hlt hb; omega
  hg := h.hg
  my := by
    obtain ⟨g, o, c, m⟩ := h.my
    exact ⟨g, o, c, m.kept hk.size fun b hb => hk.block b (m.lt b hb) (h.hf b hb)⟩
  hw := h.hw
theorem Lz.symm {W w : World} {D E M J : Nat} {d e : Dk} {l : Nat → List ByteArray} {F G H : Nat → Prop} (h : Lz W w D E M J d e l F G H) : Lz W w E D M J e d l G F H := ⟨h.o2, h.o1, fun b hg hf => h.fg b hf hg, h.hg, h.hf, h.my, h.hw⟩
theorem Lz.right {W w w' : World} {D E M J : Nat} {d e e' : Dk} {l : Nat → List ByteArray} {F G H : Nat → Prop} (h : Lz W w D E M J d e l F G H) (o : One W w' E e' (Gr G w w')) (hk : Kept G w w') : Lz W w' D E M J d e' l F (Gr G w w') H := (h.symm.left o hk).symm
theorem Lz.below {W w w' : World} {D E M J : Nat} {d e : Dk} {l : Nat → List ByteArray} {F G H : Nat → Prop} (h : Lz W w D E M J d e l F G H) (b : Below w.heap.size w w') : Lz W w' D E M J d e l F G H :=
  ⟨h.o1.below b, h.o2.below b, h.fg, h.hf, h.hg, by
    obtain ⟨g, o, c, m⟩ := h.my
    exact ⟨g, o, c, m.kept b.size fun k hk => b.block k (m.lt k hk)⟩, h.hw⟩
theorem Gr.set {F : Nat → Prop} {w w' : World} (p : Addr) (v : Value) : Gr F w (w'.setCell p v) = Gr F w w' := by
  have e : (w'.setCell p v).heap.size = w'.heap.size := by simp [World.setCell]
  unfold Gr
  rw [e]
theorem Lz.mine {W w w' : World} {D E M J J' : Nat} {d e : Dk} {l l' : Nat → List ByteArray} {F G H : Nat → Prop} (h : Lz W w D E M J d e l F G H) {g o c : Nat → Nat} (m : My w' M J' l' (Gr H w w') g o c) (hk : Kept H w w') : Lz W w' D E M J' d e l' F G (Gr H w w') := by
  have bel : Below W.heap.size W w' := h.o1.bel.trans (hk.below h.o1.bel.size h.hw)
  refine ⟨h.o1.other hk (fun b hf hh => h.hf b hh hf) bel, h.o2.other hk (fun b hg hh => h.hg b hh hg) bel, h.fg, ?_, ?_, ⟨g, o, c, m⟩, ?_⟩
  · intro b hb hf
    rcases hb with hb | hb
    · exact h.hf b hb hf
    · have := h.o1.lt hf; omega
  · intro b hb hf
    rcases hb with hb | hb
    · exact h.hg b hb hf
    · have := h.o2.lt hf; omega
  · intro b hb
    rcases hb with hb | hb
    · exact h.hw b hb
    · exact Nat.le_trans h.o1.bel.size hb.1

/-- One slice turned. -/
theorem Lz.turn {W w w3 : World} {D E M J J' : Nat} {d e : Dk} {l : Nat → List ByteArray} {F G H : Nat → Prop} (h : Lz W w D E M J d e l F G H) {g o c : Nat → Nat} (m : My w M J l H g o c) {i : Nat} (hi : i < J') (hJ : J' ≤ 4) (hJJ : ∀ j, j < J' → j ≠ i → j < J) (hJ2 : ∀ j, j < J → j < J') {x : List ByteArray} {g1 o1 c1 : Nat}
    (hk3 : Kept H w w3) (hM : w3.heap[M]? = w.heap[M]?) (hk : ∀ j, j < J → j ≠ i → w3.heap[g j]? = w.heap[g j]?) (hg : (i < J ∧ g1 = g i) ∨ w.heap.size ≤ g1)
    (hcur : ∃ cur : List Value, w3.heap[g1]? = some (.cells cur.toArray 9 (0, 0)) ∧ cur.length = o1 + c1 ∧ x.length ≤ c1 ∧ ∀ t, t < x.length → cur[o1 + t]? = some (.string (x.getD t ⟨#[]⟩))) :
    ∃ H', Lz W (w3.setCell ⟨M, i, none⟩ (.slice (some ⟨g1, o1, none⟩) x.length c1)) D E M J' d e (upd l i x) F G H' := by
  have m' := m.turn hi hJ hJJ hJ2 hk3.size hM hk hg hcur
  rw [← Gr.set (F := H) (w := w) (w' := w3) ⟨M, i, none⟩ (.slice (some ⟨g1, o1, none⟩) x.length c1)] at m'
  exact ⟨_, h.mine m' (hk3.setCell m.ownM _)⟩

/-- What is read of the slices. -/
theorem My.cell {w : World} {M J : Nat} {l : Nat → List ByteArray} {H : Nat → Prop} {g o c : Nat → Nat} (h : My w M J l H g o c) {i : Nat} (hi : i < J) : w.cell? ⟨M, i, none⟩ = some (.slice (some ⟨g i, o i, none⟩) (l i).length (c i)) := by
  have h4 := h.hJ
  refine blk_cell h.row ((r4_get _ i (by omega)).trans ?_)
  unfold mf
  rw [if_pos hi]
theorem My.any {w : World} {M J : Nat} {l : Nat → List ByteArray} {H : Nat → Prop} {g o c : Nat → Nat} (h : My w M J l H g o c) {i : Nat} (hi : i < 4) : w.cell? ⟨M, i, none⟩ = some (mf J l g o c i) := blk_cell h.row (r4_get _ i hi)
theorem My.free {w : World} {M J : Nat} {l : Nat → List ByteArray} {H : Nat → Prop} {g o c : Nat → Nat} (h : My w M J l H g o c) (i : Nat) : w.frozen? ⟨M, i, none⟩ = false := by
  have := h.row
  simp [World.frozen?, this]
theorem My.text {w : World} {M J : Nat} {l : Nat → List ByteArray} {H : Nat → Prop} {g o c : Nat → Nat} (h : My w M J l H g o c) {i t : Nat} (hi : i < J) (ht : t < (l i).length) : w.cell? ⟨g i, o i + t, none⟩ = some (.string ((l i).getD t ⟨#[]⟩)) := by
  obtain ⟨cur, h1, h2, h3, h4⟩ := h.each i hi
  exact blk_cell h1 (h4 t ht)
theorem My.le {w : World} {M J : Nat} {l : Nat → List ByteArray} {H : Nat → Prop} {g o c : Nat → Nat} (h : My w M J l H g o c) {i : Nat} (hi : i < J) : (l i).length ≤ c i := by
  obtain ⟨cur, h1, h2, h3, h4⟩ := h.each i hi
  exact h3
theorem My.congr {w : World} {M J : Nat} {l l' : Nat → List ByteArray} {H : Nat → Prop} {g o c : Nat → Nat} (h : My w M J l H g o c) (hl : ∀ i, i < J → l i = l' i) : My w M J l' H g o c where
  row := by
    rw [h.row]
    congr 3
    apply List.map_congr_left
    intro j _
    unfold mf
    by_cases hj : j < J
    · rw [if_pos hj, if_pos hj, hl j hj]
    · rw [if_neg hj, if_neg hj]
  each := fun i hi => by
    rw [← hl i hi]
    exact h.each i hi
  inj := h.inj
  ownM := h.ownM
  own := h.own
  lt := h.lt
  hJ := h.hJ

theorem Lz.congr {W w : World} {D E M J : Nat} {d e : Dk} {l l' : Nat → List ByteArray} {F G H : Nat → Prop} (h : Lz W w D E M J d e l F G H) (hl : ∀ i, i < J → l i = l' i) : Lz W w D E M J d e l' F G H :=
  ⟨h.o1, h.o2, h.fg, h.hf, h.hg, by
    obtain ⟨g, o, c, m⟩ := h.my
    exact ⟨g, o, c, m.congr hl⟩, h.hw⟩

/-- The plain disk of the law. -/
structure Pl (j : Nat) (d : Dk) : Prop where
  k : d.k = 1
  off : d.off = false
  ask : d.ask = none
  n : (d.r 0).n = 4
  q : (d.r 0).q.length ≤ j
theorem Pl.q1 {j : Nat} {d : Dk} (h : Pl j d) : ∀ i, i < d.k → (d.r i).q.length ≤ j := fun i hi => by
  rw [h.k] at hi
  obtain rfl : i = 0 := by omega
  exact h.q
theorem Pl.preF {j : Nat} {d : Dk} (h : Pl j d) : d.preF 0 = 0 := by
  unfold Dk.preF Dk.has
  rw [h.off, h.k]
  rfl
/-- What the sectors may be. -/
def mayOf (d : Dk) (i : Nat) : List ByteArray := may (d.r 0).s (d.r 0).q i (d.r 0).q.length
theorem Pl.flush {j : Nat} {d : Dk} (h : Pl j d) : Pl (j + 1) (d.flush 0) ∧ ∀ i, (mayOf d i).getLast? = some ((d.r 0).set (fun _ => true) |>.s i) ∧ mayOf (d.flush 0) i = [((d.r 0).set (fun _ => true)).s i] := by
  have e : d.flush 0 = d.at 0 ((d.r 0).set fun _ => true) := by
    rw [(flush_plain h.ask 0).2, if_pos h.preF]
    rfl
  have e0 : (d.flush 0).r 0 = (d.r 0).set fun _ => true := by
    rw [e]
    exact upd_at d.r 0 _
  refine ⟨⟨by rw [e]; exact h.k, by rw [e]; exact h.off, by rw [e]; exact h.ask, by rw [e0]; exact h.n, by rw [e0]; exact Nat.zero_le _⟩, fun i => ⟨?_, ?_⟩⟩
  · exact stL_all (fun _ => rfl) _ _ _ _
  · unfold mayOf
    rw [e0]
    rfl
theorem Pl.write {j : Nat} {d : Dk} (h : Pl j d) {k : Nat} (hk : k < 4) {x : ByteArray} (hx : x.size = 64) : d.writeE 0 (k : Int) x = 0 ∧ Pl (j + 1) (d.write 0 (k : Int) x) ∧ ∀ i, mayOf (d.write 0 (k : Int) x) i = if k = i then mayOf d i ++ [x] else mayOf d i := by
  have hr : d.readE 0 (k : Int) = 0 := by
    rw [readE_in h.preF]
    have e : ((0 : Int)).toNat = 0 := rfl
    rw [e, h.n, if_pos ⟨by omega, by omega⟩]
  have hp : d.preW 0 (k : Int) x = 0 := by
    unfold Dk.preW
    rw [if_pos hr, if_pos hx]
  have e : d.write 0 (k : Int) x = d.put 0 (k : Int) x := by
    rw [(write_plain h.ask 0 (k : Int) x).2, if_pos hp]
  have e0 : (d.write 0 (k : Int) x).r 0 = (d.r 0).put k x := by
    rw [e]
    unfold Dk.put
    have : ((k : Int)).toNat = k := Int.toNat_natCast k
    rw [this]
    exact upd_at d.r 0 _
  refine ⟨by rw [(write_plain h.ask 0 (k : Int) x).1, hp], ⟨by rw [e]; exact h.k, by rw [e]; exact h.off, by rw [e]; exact h.ask, by rw [e0]; exact h.n, ?_⟩, fun i => ?_⟩
  · rw [e0]
    show ((d.r 0).q ++ [(k, x)]).length ≤ _
    have := h.q
    simp
    omega
  · unfold mayOf
    rw [e0]
    exact may_put (d.r 0).s (d.r 0).q k i x
/-- Behind a loss of power. -/
theorem Pl.crash {j : Nat} {d : Dk} (h : Pl j d) (K : List Int) {i : Nat} (hi : i < 4) : (d.crash K).readE 0 (i : Int) = 0 ∧ (d.crash K).readB 0 (i : Int) = stL (kb K 0) (d.r 0).s (d.r 0).q (d.r 0).q.length i ∧ ∀ m, m < (d.crash K).k → ((d.crash K).r m).q.length ≤ 1048576 := by
  have hp : Pl 0 (d.crash K) := ⟨h.k, rfl, rfl, h.n, Nat.le_refl _⟩
  have hr : (d.crash K).readE 0 (i : Int) = 0 := by
    rw [readE_in hp.preF]
    have e : ((0 : Int)).toNat = 0 := rfl
    rw [e, hp.n, if_pos ⟨by omega, by omega⟩]
  refine ⟨hr, ?_, q_crash K⟩
  unfold Dk.readB
  rw [if_pos hr]
  have e : ((i : Int)).toNat = i := Int.toNat_natCast i
  rw [e]
  rfl
theorem Pl.keeps {j : Nat} {d : Dk} (_ : Pl j d) (K : List Int) (i : Nat) : stL (kb K 0) (d.r 0).s (d.r 0).q (d.r 0).q.length i ∈ mayOf d i := stL_may _ _ _ _ _
theorem Pl.last {j : Nat} {d : Dk} (_ : Pl j d) (i : Nat) : (mayOf d i).getLast? = some (stL (kb [18446744073709551615] 0) (d.r 0).s (d.r 0).q (d.r 0).q.length i) := stL_all kb_all _ _ _ _
theorem Pl.len {j : Nat} {d : Dk} (h : Pl j d) (i : Nat) : 0 < (mayOf d i).length ∧ (mayOf d i).length ≤ j + 1 := by
  have := may_length (d.r 0).s (d.r 0).q i (d.r 0).q.length
  have := h.q
  exact ⟨may_pos _ _ _ _, by unfold mayOf; omega⟩
theorem Pl.new : Pl 0 (newD (fun _ => 4) 1) ∧ ∀ i, mayOf (newD (fun _ => 4) 1) i = [noB] := ⟨⟨rfl, rfl, rfl, by decide, Nat.le_refl _⟩, fun _ => rfl⟩
theorem secB_none : secB ⟨#[]⟩ = noB := by decide +kernel

end Go.Proofs.Ytffhnkljmalbiaa.Wd
