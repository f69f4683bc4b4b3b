/-
  The calls of TopStreams' two closures, over the law's whole memory: an Open of the next region, On and Off, an Append. Conditions: the law's memory is as its predicate says, the regions are as the plain one says.
-/
import Derived.Test.YtaojoecmbgmhoaaTpA
namespace Go.Proofs.Ytaojoecmbgmhoaa.Wtp
open Go.ChangeShapes Go.WideShapes Go.ChangeAt Go.RowKit Go.Proofs.Ytaojoecmbgmhoaa.M Go.Proofs.Ytaojoecmbgmhoaa.Wd Go.Proofs.Ytaojoecmbgmhoaa.Wst

section
variable {V w : World} {P C D n nn lost : Nat} {d : Dk} {s : Nat → Sm} {L : Nat → List ByteArray} {m : Nat → ByteArray} {F G : Nat → Prop} {SP : Nat → Nat} {sv v : Nat → Value}

/-- An Open of region k that goes well. -/
def OyP (V : World) (P C D k lost : Nat) (d : Dk) (s : Nat → Sm) (L : Nat → List ByteArray) (m : Nat → ByteArray) (SP : Nat → Nat) (sv v : Nat → Value) (g : Int) (S : Nat) (pl : Option Addr) (nl cl : Nat) (w' : World) : Prop :=
  ∃ d' s' F' G' X, Tp V w' P C D (k + 1) k lost d' (upd s k s') (upd L 2 X) m F' G' (upd SP k S) sv (upd v 2 (.slice pl nl cl)) ∧ nl = X.length ∧ Pq (k + 1) d' (upd s k s') (upd L k X) (upd m k ⟨#[]⟩) (g + 1) ∧ (X = L k ∨ (¬ (m k).size = 0 ∧ X = L k ++ [m k])) ∧ (d.ask = none → d'.ask = none) ∧ War.Lies w' pl nl (nth X) ∧ nl ≤ cl ∧ X.length ≤ 1650
/-- An Open in which the power fails. -/
def OnP (V : World) (P C D k lost : Nat) (d : Dk) (s : Nat → Sm) (L : Nat → List ByteArray) (m : Nat → ByteArray) (SP : Nat → Nat) (sv v : Nat → Value) (g : Int) (w' : World) : Prop :=
  ∃ d' F' G', Tp V w' P C D k k lost d' s L m F' G' SP sv v ∧ d'.off = true ∧ Pq 0 d'.on s L m (g + 1) ∧ d'.on.ask = none ∧ ¬ d.ask = none
theorem topen (h : Tp V w P C D n n lost d s L m F G SP sv v) {g : Int} (q : Pq n d s L m g) (hn : n < 2) (hg : g < 281474976710655) :
    Calls Try.prog 9 #[.pointer (some ⟨D, 0, none⟩), .int .i64 (n : Int)] w fun e w' =>
      (∃ S pl nl cl, e = .returned (.tuple #[.pointer (some ⟨S, 0, none⟩), .slice pl nl cl, .int .i64 0]) ∧ Hid (OyP V P C D n lost d s L m SP sv v g S pl nl cl w')) ∨
      (e = .returned (.tuple #[.pointer none, .slice none 0 0, .int .i64 11]) ∧ Hid (OnP V P C D n lost d s L m SP sv v g w')) := by
  obtain ⟨X, r, hX⟩ := q.rest n hn
  refine (open_rest h.o r hg (fun j hj _ => q.q j hj)).mono fun e w' c => ?_
  rcases c with ⟨S, lv, F', d', s', e1, ss, on, i1, l1, g1, k1, r1, a1, kp, hF, hS, own, ap⟩ | ⟨d', e1, o1, dn, k1, na, oth, kp⟩
  · left
    obtain ⟨G', T⟩ := h.opened ss kp hF hS own ap
    obtain ⟨pl, cl, rfl, hc, _, li⟩ := War.own_lies (f := nth X) own fun _ hj => rcv_get hj
    exact ⟨S, pl, X.length, cl, e1, d', s', F', G', X, T, rfl, q.opened hn on i1 l1 g1 k1 r1, hX, a1, li, hc, r.len⟩
  · right
    obtain ⟨p1, p2⟩ := q.fails hn (g' := g + 1) (m' := m) (by omega) dn k1 oth hX fun _ _ => rfl
    exact ⟨e1, d', _, _, h.disk o1 kp, dn.off, p1, p2, na⟩

/-- The power is on again. -/
theorem ton (h : Tp V w P C D n nn lost d s L m F G SP sv v) : Calls Try.prog 11 #[.pointer (some ⟨D, 0, none⟩)] w fun e w' => e = .returned (.tuple #[]) ∧ Hid (∃ F' G', Tp V w' P C D n nn lost d.on s L m F' G' SP sv v) :=
  h.o.on.mono fun _ _ ⟨e1, e2, e3⟩ => ⟨e1, _, _, h.disk e2 e3⟩

/-- What the law's blocks hold. -/
theorem Tp.cp (h : Tp V w P C D n nn lost d s L m F G SP sv v) : w.cell? ⟨P, 0, none⟩ = some (.pointer (some ⟨D, 0, none⟩)) := blk_cell (l := [.pointer (some ⟨D, 0, none⟩)]) h.p rfl
theorem Tp.ca (h : Tp V w P C D n nn lost d s L m F G SP sv v) : w.cell? ⟨P + 5, 0, none⟩ = some (.func (.func 6) #[] #[.pointer (some ⟨P + 4, 0, none⟩), .pointer (some ⟨C, 0, none⟩), .pointer (some ⟨P, 0, none⟩)]) := blk_cell (l := [_]) h.ha rfl
theorem Tp.cs (h : Tp V w P C D n nn lost d s L m F G SP sv v) {k : Nat} (hk : k < 2) : w.cell? ⟨P + 1, k, none⟩ = some (sv k) ∧ w.frozen? ⟨P + 1, k, none⟩ = false := ⟨blk_cell (l := [sv 0, sv 1]) h.hs (two_get sv hk), blk_free h.hs k⟩
theorem Tp.ct (h : Tp V w P C D n nn lost d s L m F G SP sv v) {k : Nat} (hk : k < 2) : w.cell? ⟨P + 2, k, none⟩ = some (v k) ∧ w.frozen? ⟨P + 2, k, none⟩ = false := ⟨blk_cell (l := [v 0, v 1]) h.ht (two_get v hk), blk_free h.ht k⟩
theorem Tp.cm (h : Tp V w P C D n nn lost d s L m F G SP sv v) {k : Nat} (hk : k < 2) : w.cell? ⟨P + 3, k, none⟩ = some (.string (m k)) ∧ w.frozen? ⟨P + 3, k, none⟩ = false := ⟨blk_cell (l := [.string (m 0), .string (m 1)]) h.hm (by match k, hk with | 0, _ => rfl | 1, _ => rfl), blk_free h.hm k⟩
end

end Go.Proofs.Ytaojoecmbgmhoaa.Wtp
