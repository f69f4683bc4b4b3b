/-
  The walk of the law StreamAny: whatever lies in a region, what it is opened with is opened again the same, with what is appended behind it; the law returns true, and nothing that was in memory has turned. Conditions: none but that the arguments lie in memory as such do.
-/
import Derived.Test.YtefbdmijbcplmaaSmR
namespace Go.Proofs.Ytefbdmijbcplmaa.Wst
open Go.ChangeShapes Go.WideShapes Go.ChangeAt Go.RowKit Go.Proofs.Ytefbdmijbcplmaa.M Go.Proofs.Ytefbdmijbcplmaa.Wd

theorem laid_new {z : Int} (h3 : 3 ≤ z) (h4 : z ≤ 4096) (x : ByteArray) : Live ((newD (fun _ => z) 1).lay 0 x) 0 z.toNat ∧ (∃ y, ((newD (fun _ => z) 1).lay 0 x).r 0 = ⟨z.toNat, y, []⟩) ∧ ((newD (fun _ => z) 1).lay 0 x).ask = none ∧ ((newD (fun _ => z) 1).lay 0 x).k = 1 := by
  have hz : szN z = z.toNat := by unfold szN; omega
  have hr : ((newD (fun _ => z) 1).lay 0 x).r 0 = (newR z).lay x := rfl
  have hr2 : (newR z).lay x = ⟨z.toNat, fun k => cut64 x (64 * k), []⟩ := by
    show Rg.mk (szN z) _ _ = _
    rw [hz]
  exact ⟨⟨rfl, Nat.zero_lt_one, by rw [hr, hr2]⟩, ⟨_, hr.trans hr2⟩, rfl, rfl⟩

/-- An Open of a region with whatever in it. -/
def AnO (W : World) (D N : Nat) (e : Ending) (w' : World) : Prop :=
  (e = .returned (.tuple #[.pointer none, .slice none 0 0, .int .i64 12]) ∧ Hid (Below W.heap.size W w')) ∨
  (∃ S v F d s, e = .returned (.tuple #[.pointer (some ⟨S, 0, none⟩), v, .int .i64 0]) ∧ Hid (Ss W w' S D s d F ∧ On d s N ∧ s.i = 0 ∧ d.k = 1 ∧ d.ask = none ∧ Rw W w' (Fs F S) v s.L ∧ s.L.length ≤ 200000))
theorem open_anO {W w : World} {D N : Nat} {d : Dk} {F : Nat → Prop} (o : One W w D d F) (hl : Live d 0 N) (hn : 3 ≤ N ∧ N ≤ 4096) {y : Nat → ByteArray} (hr : d.r 0 = ⟨N, y, []⟩) (ha : d.ask = none) (hk : d.k = 1) :
    Calls Try.prog 8 #[.pointer (some ⟨D, 0, none⟩), .int .i64 0] w fun e w' => AnO W D N e w' := by
  obtain ⟨Ly, l⟩ := o.at_
  have hq : ∀ j, j < d.k → (d.r j).q.length ≤ 990000 := fun j hj => by
    have : j = 0 := by omega
    rw [this, hr]
    exact Nat.zero_le _
  refine (open_ l hq 0).mono fun e w' h => ?_
  rcases open_any hl hn hr ha with ⟨x, _⟩ | ⟨x, q1, q2, q3, q4, q5, q6⟩
  · have x : opX d 0 = 12 := x
    rcases h with ⟨h, _⟩ | ⟨_, h1, h2, h3⟩
    · rw [x] at h; cases h
    · rw [x] at h1
      exact .inl ⟨h1, o.bel.trans (h3.below o.bel.size o.own)⟩
  · have x : opX d 0 = 0 := x
    rcases h with ⟨_, h⟩ | ⟨h, _⟩
    · obtain ⟨S, v, F', e1, e2, e3, e4, e5, e6, e7⟩ := opened o h
      have hLL : opL d (0 : Int).toNat = (opT d 0).L := q3.symm
      rw [hLL] at e6
      refine .inr ⟨S, v, F', _, _, e1, e2, q1, q2, q5.trans hk, q6, row_of o.bel.size e6 e7, ?_⟩
      have h1 : (frs (opT d 0).L).size + 1 ≤ 55 * (opT d 0).h := (On.sw q1).1.cap
      have h3 : ∀ (L : List ByteArray), L.length ≤ (frs L).size := fun L => by
        induction L with
        | nil => exact Nat.zero_le _
        | cons b L ih =>
          show L.length + 1 ≤ (fr b ++ frs L).size
          rw [size_app, fr_size]
          omega
      have h4 := h3 (opT d 0).L
      have h5 : (opT d 0).h ≤ 2047 := by
        have := q1.h
        have := hn
        show (opT d ((0 : Nat) : Int)).h ≤ 2047
        omega
      omega
    · exact absurd x h

theorem Rw.at_ {W w : World} {G : Nat → Prop} {a : Option Addr} {n cap : Nat} {L : List ByteArray} (h : Rw W w G (.slice a n cap) L) : War.Lies w a L.length (nth L) := by
  obtain ⟨a', cap', e, _, _, hl⟩ := h.lies
  injection e with e1 e2 e3
  rw [e1]
  exact hl
/-- A Crash and an Open behind it, of a region at rest. -/
def CrO (W w : World) (D N : Nat) (L : List ByteArray) (g : Int) (F : Nat → Prop) (e : Ending) (w' : World) : Prop :=
  ∃ S a cap F' d', e = .returned (.tuple #[.pointer (some ⟨S, 0, none⟩), .slice a L.length cap, .int .i64 0]) ∧ Hid (One W w' D d' F' ∧ M.Rest d' 0 N L (g + 1) ∧ d'.ask = none ∧ d'.k = 1 ∧ Kept F w w' ∧ (∀ b, F' b → F b ∨ w.heap.size ≤ b) ∧ War.Lies w' a L.length (nth L))
theorem open_cr {W w : World} {D N : Nat} {d : Dk} {F : Nat → Prop} {L : List ByteArray} {g : Int} (o : One W w D d F) (r : M.Rest d 0 N L g) (hg : g < 281474976710655) (ha : d.ask = none) (hk : d.k = 1) :
    Calls Try.prog 8 #[.pointer (some ⟨D, 0, none⟩), .int .i64 0] w fun e w' => CrO W w D N L g F e w' :=
  (open_calm o r hg (k1 hk rfl) ha).mono fun e w' ⟨S, v, F', d', s', q1, q2, q3, q4, q5, q6, q7, q8, q9, kp, gr, hS, own, ap⟩ => by
    obtain ⟨a, cap, rfl, _, _, li⟩ := War.own_lies own (fun j hj => rcv_get hj)
    have r1 := q3.rest
    rw [q4, q5] at r1
    exact ⟨S, a, cap, F', d', q1, q2.o, r1.mono q6, q9 ha, q7.trans hk, kp, fun b hb => gr_old b (gr b hb), li⟩

theorem list_len (L : List ByteArray) (x : ByteArray) : (L ++ [x]).length = L.length + 1 := by simp

end Go.Proofs.Ytefbdmijbcplmaa.Wst
