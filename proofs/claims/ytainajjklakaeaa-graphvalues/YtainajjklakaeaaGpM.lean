/-
  How a workflow lies in memory: texts ('Ss'), nodes ('N6', 'Ns'), and that they still lie there behind a call that only makes memory. The contracts of find and what it goes by (slices.IndexFunc, a closure), and of the document's Find. Conditions: the nodes lie in memory.
-/
import Derived.Test.YtainajjklakaeaaGpA
import Derived.Test.YtainajjklakaeaaGtN
import Derived.Test.YtainajjklakaeaaEqual
import Derived.Deep.QuietTactic
import Derived.BigQuiet
namespace Go.Proofs.Ytainajjklakaeaa.Wgp
open Go.ChangeShapes Go.WideShapes Go.ChangeAt Go.RowKit Go.Proofs.Ytainajjklakaeaa.M Go.Proofs.Ytainajjklakaeaa.Wg

theorem bcell {W w1 : World} (hb : Below W.heap.size W w1) : (∀ b o, b < W.heap.size → w1.cell? ⟨b, o, none⟩ = W.cell? ⟨b, o, none⟩) ∧ (∀ b o, b < W.heap.size → w1.frozen? ⟨b, o, none⟩ = W.frozen? ⟨b, o, none⟩) :=
  ⟨fun b o h => hb.cell (p := ⟨b, o, none⟩) h, fun b o h => hb.frozen (p := ⟨b, o, none⟩) h⟩

/-- Texts that a slice holds. -/
def Ss (w : World) (a : Option Addr) (l : List ByteArray) : Prop := l = [] ∨ ∃ g, a = some ⟨g, 0, none⟩ ∧ g < w.heap.size ∧ ∀ (i : Nat) s, l[i]? = some s → w.cell? ⟨g, i, none⟩ = some (.string s)
theorem Ss.below {w w' : World} {a : Option Addr} {l : List ByteArray} (h : Ss w a l) (b : Below w.heap.size w w') : Ss w' a l := by
  rcases h with h | ⟨g, h1, h2, h3⟩
  · exact .inl h
  · exact .inr ⟨g, h1, Nat.lt_of_lt_of_le h2 b.size, fun i s hs => (b.cell (p := ⟨g, i, none⟩) h2).trans (h3 i s hs)⟩
theorem Ss.take {w : World} {a : Option Addr} {l : List ByteArray} (h : Ss w a l) (n : Nat) : Ss w a (l.take n) := by
  rcases h with h | ⟨g, h1, h2, h3⟩
  · exact .inl (by rw [h]; simp)
  · refine .inr ⟨g, h1, h2, fun i s hs => h3 i s ?_⟩
    rw [List.getElem?_take] at hs
    split at hs
    · exact hs
    · cases hs
theorem Ss.at {w : World} {a : Option Addr} {l : List ByteArray} (h : Ss w a l) {i : Nat} {s : ByteArray} (hs : l[i]? = some s) : ∃ g, a = some ⟨g, 0, none⟩ ∧ g < w.heap.size ∧ w.cell? ⟨g, i, none⟩ = some (.string s) := by
  rcases h with h | ⟨g, h1, h2, h3⟩
  · rw [h] at hs; simp at hs
  · exact ⟨g, h1, h2, h3 i s hs⟩

/-- One node's six cells, from j on; its Deps lie at da. -/
def N6 (w : World) (g j : Nat) (x : Nd) (da : Option Addr) (dc : Nat) : Prop :=
  w.cell? ⟨g, j, none⟩ = some (.string x.name) ∧ w.cell? ⟨g, j + 1, none⟩ = some (.slice da x.deps.length dc) ∧ w.cell? ⟨g, j + 2, none⟩ = some (.int .i64 x.tries) ∧
  w.cell? ⟨g, j + 3, none⟩ = some (.int .i64 x.lease) ∧ w.cell? ⟨g, j + 4, none⟩ = some (.int .i64 x.tenant) ∧ w.cell? ⟨g, j + 5, none⟩ = some (.string x.flow)
/-- Deps as they lie. -/
def Dp (w : World) (x : Nd) (da : Option Addr) (dc : Nat) : Prop := x.deps.length ≤ dc ∧ dc ≤ 9223372036854775807 ∧ Ss w da x.deps
theorem Dp.below {w w' : World} {x : Nd} {da : Option Addr} {dc : Nat} (h : Dp w x da dc) (b : Below w.heap.size w w') : Dp w' x da dc := ⟨h.1, h.2.1, h.2.2.below b⟩
theorem N6.below {w w' : World} {g j : Nat} {x : Nd} {da : Option Addr} {dc : Nat} (h : N6 w g j x da dc) (hg : g < w.heap.size) (b : Below w.heap.size w w') : N6 w' g j x da dc := by
  have e : ∀ o, w'.cell? ⟨g, o, none⟩ = w.cell? ⟨g, o, none⟩ := fun o => b.cell (p := ⟨g, o, none⟩) hg
  obtain ⟨h0, h1, h2, h3, h4, h5⟩ := h
  exact ⟨(e _).trans h0, (e _).trans h1, (e _).trans h2, (e _).trans h3, (e _).trans h4, (e _).trans h5⟩
/-- Nodes that a slice holds. -/
def Ns (w : World) (a : Option Addr) (L : List Nd) : Prop := L = [] ∨ ∃ g, a = some ⟨g, 0, none⟩ ∧ g < w.heap.size ∧ ∀ (i : Nat) x, L[i]? = some x → ∃ da dc, N6 w g (i * 6) x da dc ∧ Dp w x da dc
theorem Ns.below {w w' : World} {a : Option Addr} {L : List Nd} (h : Ns w a L) (b : Below w.heap.size w w') : Ns w' a L := by
  rcases h with h | ⟨g, h1, h2, h3⟩
  · exact .inl h
  · refine .inr ⟨g, h1, Nat.lt_of_lt_of_le h2 b.size, fun i x hx => ?_⟩
    obtain ⟨da, dc, k1, k2⟩ := h3 i x hx
    exact ⟨da, dc, k1.below h2 b, k2.below b⟩
theorem Ns.take {w : World} {a : Option Addr} {L : List Nd} (h : Ns w a L) (n : Nat) : Ns w a (L.take n) := by
  rcases h with h | ⟨g, h1, h2, h3⟩
  · exact .inl (by rw [h]; simp)
  · refine .inr ⟨g, h1, h2, fun i s hs => h3 i s ?_⟩
    rw [List.getElem?_take] at hs
    split at hs
    · exact hs
    · cases hs
theorem Ns.at {w : World} {a : Option Addr} {L : List Nd} (h : Ns w a L) {i : Nat} {x : Nd} (hx : L[i]? = some x) : ∃ g da dc, a = some ⟨g, 0, none⟩ ∧ g < w.heap.size ∧ N6 w g (i * 6) x da dc ∧ Dp w x da dc := by
  rcases h with h | ⟨g, h1, h2, h3⟩
  · rw [h] at hx; simp at hx
  · obtain ⟨da, dc, k1, k2⟩ := h3 i x hx
    exact ⟨g, da, dc, h1, h2, k1, k2⟩

theorem str_eq {a b : ByteArray} (h : a = b) : (a.toList == b.toList) = true := by rw [h]; simp
theorem str_ne {a b : ByteArray} (h : a ≠ b) : (a.toList == b.toList) = false := by
  rw [beq_eq_false_iff_ne]
  exact fun e => h (toList_inj.1 e)
theorem ret_i {a b : Int} (h : a = b) : Ending.returned (.int .i64 a) = .returned (.int .i64 b) := by rw [h]

set_option maxRecDepth 100000 in
theorem find1 (nm fl s : ByteArray) (D : Value) (t l n : Int) (c : Nat) (w : World) (hD : ∃ a m k, D = .slice a m k) (hc : w.cell? ⟨c, 0, none⟩ = some (.string s)) :
    Calls Try.prog 40 #[.agg #[.string nm, D, .int .i64 t, .int .i64 l, .int .i64 n, .string fl], .pointer (some ⟨c, 0, none⟩)] w fun e w' => e = .returned (.bool (nm.toList == s.toList)) ∧ Below w.heap.size w w' := by
  obtain ⟨a, m, k, rfl⟩ := hD
  have hl := World.block_lt_of_cell? w _ hc
  simp only at hl
  go_enter Try.func40, Try.ntmps40
  go_wp2
  go_ret
  exact ⟨rfl, (Below.refl _ _).alloc (Nat.le_refl _) _⟩

theorem fnd_step_no {L : List Nd} {s : ByteArray} (h : ∀ (j : Nat) y, j < L.length → L[j]? = some y → y.name ≠ s) : fnd L s = -1 :=
  fnd_no fun i x hx => h i x (List.getElem?_eq_some_iff.1 hx).1 hx

set_option maxRecDepth 100000 in
set_option maxHeartbeats 1600000 in
theorem indexF {w : World} {a : Option Addr} {L : List Nd} {cap c : Nat} {s : ByteArray} (h : Ns w a L) (hl : L.length ≤ 4194304) (hc : w.cell? ⟨c, 0, none⟩ = some (.string s)) :
    Calls Try.prog 39 #[.slice a L.length cap, .func (.func 40) #[] #[.pointer (some ⟨c, 0, none⟩)]] w fun e w' => e = .returned (.int .i64 (fnd L s)) ∧ Below w.heap.size w w' := by
  have hcl := World.block_lt_of_cell? w _ hc
  simp only at hcl
  have H := hid h
  have HC := hid hc
  clear hc h
  go_enter Try.func39, Try.ntmps39
  go_wp2_with fail
  go_loopw [8] (fun iv wr => ∃ i : Nat, i ≤ L.length ∧ iv = .int .i64 (i : Int) ∧ Hid (∀ (j : Nat) y, j < i → L[j]? = some y → y.name ≠ s) ∧ Below w.heap.size w wr) (fun iv _ => L.length - (intOf iv).toNat)
  case atStart => exact ⟨0, Nat.zero_le _, rfl, fun j y hj => absurd hj (Nat.not_lt_zero j), Below.refl _ _⟩
  case round =>
    obtain ⟨i, hi, rfl, hno, hb⟩ := hrel
    by_cases ci : i < L.length
    · obtain ⟨x, hx⟩ : ∃ x, L[i]? = some x := ⟨L[i], List.getElem?_eq_getElem ci⟩
      obtain ⟨g, da, dc, rfl, hg, N, _⟩ := H.out.at hx
      obtain ⟨y0, y1, y2, y3, y4, y5⟩ := N.below hg hb
      have C1 := hid fun W (b : Below wr.heap.size wr W) => find1 x.name x.flow s (.slice da x.deps.length dc) x.tries x.lease x.tenant c W ⟨_, _, _, rfl⟩ ((b.cell (p := ⟨c, 0, none⟩) (Nat.lt_of_lt_of_le hcl hb.size)).trans ((hb.cell (p := ⟨c, 0, none⟩) hcl).trans HC.out))
      have hx' := hid hx
      clear hx N H
      by_cases e : x.name = s
      · rw [str_eq e] at C1
        have E := hid e
        clear e
        go_wp2_with fail
        refine (C1.out _ (Below.refl _ _)).mono ?_
        rintro e w2 ⟨rfl, b2⟩
        clear C1
        go_wp2_with fail
        go_ret
        exact ⟨ret_i (fnd_at hx'.out E.out hno.out).symm, hb.trans (b2.mono hb.size)⟩
      · rw [str_ne e] at C1
        have hno' : Hid (∀ (j : Nat) y, j < i + 1 → L[j]? = some y → y.name ≠ s) := fun j y hj hy => by
          by_cases c : j = i
          · subst c
            rw [hx'.out] at hy
            injection hy with hy
            rw [← hy]; exact e
          · exact hno.out j y (by omega) hy
        clear e hno
        go_wp2_with fail
        refine (C1.out _ (Below.refl _ _)).mono ?_
        rintro e w2 ⟨rfl, b2⟩
        clear C1
        go_wp2_with fail
        go_roundw
        case rel => exact ⟨i + 1, ci, by go_num, hno', hb.trans (b2.mono hb.size)⟩
        case measure => simp [intOf]; omega
    · have e : fnd L s = -1 := fnd_step_no fun j y hj => hno.out j y (by omega)
      clear hno
      go_wp2_with fail
      go_ret
      exact ⟨ret_i e.symm, hb⟩

set_option maxRecDepth 100000 in
theorem find {w : World} {a : Option Addr} {L : List Nd} {cap : Nat} (s : ByteArray) (h : Ns w a L) (hl : L.length ≤ 4194304) :
    Calls Try.prog 33 #[.slice a L.length cap, .string s] w fun e w' => e = .returned (.int .i64 (fnd L s)) ∧ Below w.heap.size w w' := by
  have C := hid (indexF (cap := cap) (c := w.heap.size) (s := s) (h.below ((Below.refl _ _).alloc (Nat.le_refl _) (.cells #[.string s] 9))) hl (by simp [go_sem]))
  clear h
  go_enter Try.func33, Try.ntmps33
  go_wp2_with fail
  refine C.out.mono ?_
  rintro e w2 ⟨rfl, b2⟩
  go_wp2_with fail
  go_ret
  exact ⟨rfl, ((Below.refl _ _).alloc (Nat.le_refl _) _).trans (b2.mono (by simp))⟩

end Go.Proofs.Ytainajjklakaeaa.Wgp
