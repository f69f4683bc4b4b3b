/-
  Both Opens of the law of plays in one: whatever they answer. Nothing is asked but what each fact names.
-/
import Derived.Test.YthmholgfnjpgbaaGreatSpB
namespace Go.Proofs.YthmholgfnjpgbaaGreat.Wq
open Go.ChangeShapes Go.WideShapes Go.ChangeAt Go.RowKit Go.Proofs.YthmholgfnjpgbaaGreat.M Go.Proofs.YthmholgfnjpgbaaGreat.Wd Go.Proofs.YthmholgfnjpgbaaGreat.Wst Go.Proofs.YthmholgfnjpgbaaGreat.Wdc

/-- A disk that has regions, none of them too great. -/
def Dz (d : Dk) : Prop := 0 < d.k ∧ ∀ i, i < d.k → (d.r i).n ≤ 4096
theorem Dz.ms {d e : Dk} {t : Nat} (h : Dz d) (m : Ms d t e) : Dz e := ⟨by rw [m.k]; exact h.1, fun i hi => by rw [m.n]; exact h.2 i (by rw [← m.k]; exact hi)⟩
theorem opL_small {d : Dk} (z : Dz d) : (opL d 0).length ≤ 1000000 := by
  have hn := z.2 0 z.1
  have h1 := recs_len (dtOf (opY d 0) (((d.r 0).n - 1) / 2))
  have h2 := dt_size (opY d 0) (((d.r 0).n - 1) / 2)
  show (recs (dtOf (opY d 0) (((d.r 0).n - 1) / 2))).length ≤ 1000000
  omega
section
variable {W w w' : World} {D E X : Nat} {o : Obj} {d : Dk} {m : Nat}
/-- Behind the code's Open. -/
def Pc (W : World) (D E X : Nat) (o : Obj) (d : Dk) (sv : Value) (a : Option Addr) (n c : Nat) (w : World) : Prop :=
  (opX d 0 = 0 ∧ ∃ S, sv = .pointer (some ⟨S, 0, none⟩) ∧ n = (opL d 0).length ∧ Hq W D E S X o (opD d 0) d (opT d 0) (.slice a n c) (opL d 0) w) ∨
  (¬ opX d 0 = 0 ∧ sv = .pointer none ∧ a = none ∧ n = 0 ∧ c = 0 ∧ Qn W D E X o (opD d 0) d w)
/-- Both streams, or none, on disks that are the same. -/
def Lx (W : World) (D E X : Nat) (o : Obj) (d : Dk) (sv tv : Value) (w : World) : Prop :=
  (∃ S T s, sv = .pointer (some ⟨S, 0, none⟩) ∧ tv = .pointer (some ⟨T, 0, none⟩) ∧ Qa W D E S T X o d d s s w ∧ Fit d s) ∨ (sv = .pointer none ∧ tv = .pointer none ∧ Qn W D E X o d d w)
/-- Behind the document's Open. -/
def Pd (W : World) (D E X : Nat) (o : Obj) (d : Dk) (sv tv : Value) (a : Option Addr) (n : Nat) (a2 : Option Addr) (n2 : Nat) (w : World) : Prop :=
  Lx W D E X o (opD d 0) sv tv w ∧ ∃ L : List ByteArray, L.length ≤ 1000000 ∧ n = L.length ∧ n2 = L.length ∧ War.Lies w a n (nth L) ∧ War.Lies w a2 n2 (nth L)
theorem p_open (h : Qn W D E X o d d w) (iv : Wr.Iv m d) (hm : m ≤ 900000) :
    Calls Tryz.prog 8 #[.pointer (some ⟨D, 0, none⟩), .int .i64 0] w fun en w' => ∃ sv a n c, en = .returned (.tuple #[sv, .slice a n c, .int .i64 (opX d 0)]) ∧ Hid (Pc W D E X o d sv a n c w') := by
  refine (q_open h iv hm).mono fun en w' c => ?_
  rcases c with ⟨hX, S, v, he, hq⟩ | ⟨hX, he, qn⟩
  · obtain ⟨F, G, hf, hr⟩ := hq
    obtain ⟨a, ca, ev, _⟩ := rcv_lies hf.row
    subst ev
    exact ⟨_, a, _, ca, by rw [he, hX], .inl ⟨hX, S, rfl, rfl, F, G, hf, hr⟩⟩
  · exact ⟨_, none, 0, 0, he, .inr ⟨hX, rfl, rfl, rfl, rfl, qn⟩⟩
theorem p_openR {sv : Value} {a : Option Addr} {n c : Nat} (h : Pc W D E X o d sv a n c w) (iv : Wr.Iv m d) (hm : m ≤ 900000) (z : Dz d) :
    Calls Tryz.prog 9 #[.pointer (some ⟨E, 0, none⟩), .int .i64 0] w fun en w' => ∃ tv a2 n2 c2, en = .returned (.tuple #[tv, .slice a2 n2 c2, .int .i64 (opX d 0)]) ∧ Hid (Pd W D E X o d sv tv a n a2 n2 w') := by
  rcases h with ⟨hX, S, hs, hn, hq⟩ | ⟨hX, hs, ha, hn, hc, qn⟩
  · subst hs
    subst hn
    refine (q_openR hq iv hm hX).mono fun en w' k => ?_
    obtain ⟨T, a1, c1, a2, c2, e1, he, qa, li, li2⟩ := k
    obtain ⟨rfl, _⟩ : a = a1 ∧ c = c1 := by simpa using e1
    exact ⟨_, a2, _, c2, by rw [he, hX], .inl ⟨S, T, opT d 0, rfl, rfl, qa, fit_open z.2 hX⟩, opL d 0, opL_small z, rfl, rfl, li, li2⟩
  · subst hs ha hn hc
    refine (q_openRN qn iv hm hX).mono fun en w' k => ?_
    exact ⟨_, none, 0, 0, k.1, .inr ⟨rfl, rfl, k.2⟩, [], by simp, rfl, rfl, .inl (Nat.le_refl _), .inl (Nat.le_refl _)⟩
theorem Lx.below {sv tv : Value} (h : Lx W D E X o d sv tv w) (b : Below w.heap.size w w') : Lx W D E X o d sv tv w' := by
  rcases h with ⟨S, T, s, h1, h2, h3, h4⟩ | ⟨h1, h2, h3⟩
  · exact .inl ⟨S, T, s, h1, h2, h3.below b, h4⟩
  · exact .inr ⟨h1, h2, h3.below b⟩
theorem Pd.below {sv tv : Value} {a a2 : Option Addr} {n n2 : Nat} (h : Pd W D E X o d sv tv a n a2 n2 w) (b : Below w.heap.size w w') : Pd W D E X o d sv tv a n a2 n2 w' := by
  obtain ⟨h1, L, h2, h3, h4, h5, h6⟩ := h
  exact ⟨h1.below b, L, h2, h3, h4, h5.below b, h6.below b⟩
theorem p_equal {sv tv : Value} {a a2 : Option Addr} {n n2 : Nat} (h : Pd W D E X o d sv tv a n a2 n2 w) (c c2 : Nat) :
    Calls Tryz.prog 11 #[.slice a n c, .slice a2 n2 c2] w fun en w' => en = .returned (.bool true) ∧ Hid (Lx W D E X o (opD d 0) sv tv w') := by
  obtain ⟨h1, L, h2, rfl, h4, h5, h6⟩ := h
  subst h4
  have C := equal_ L L a a2 c c2 w h5 h6 (by omega)
  rw [decide_eq_true rfl] at C
  exact C.mono fun en w' k => ⟨k.1, h1.below k.2⟩
theorem p_same {sv tv : Value} (h : Lx W D E X o d sv tv w) :
    Calls Tryz.prog 12 #[.pointer (some ⟨D, 0, none⟩), .pointer (some ⟨E, 0, none⟩)] w fun en w' => en = .returned (.bool true) ∧ Lx W D E X o d sv tv w' := by
  rcases h with ⟨S, T, s, h1, h2, h3, h4⟩ | ⟨h1, h2, h3⟩
  · exact (q_same h3).mono fun en w' k => ⟨k.1, .inl ⟨S, T, s, h1, h2, k.2, h4⟩⟩
  · exact (qn_same h3).mono fun en w' k => ⟨k.1, .inr ⟨h1, h2, k.2⟩⟩
end

end Go.Proofs.YthmholgfnjpgbaaGreat.Wq
