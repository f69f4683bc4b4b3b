/-
  The walks of the disk's small readers: find, sectors, at, Sectors. Each answers what the disk as plain data says, and leaves memory as it is.
-/
import Derived.Test.YtcnonioiggniiaaDkRep
namespace Go.Proofs.Ytcnonioiggniiaa.Wd
open Go.ChangeShapes Go.WideShapes Go.ChangeAt Go.RowKit Go.Proofs.Ytcnonioiggniiaa.M

/-- The pointer to a region. -/
def rp (L : Ly) (i : Nat) : Value := .pointer (some ⟨L.R, i * 2, none⟩)

theorem DkL.cR {w : World} {D : Nat} {d : Dk} {F : Nat → Prop} {L : Ly} (h : DkL w D d F L) {i : Nat} (hi : i < d.k) : w.cell? ⟨L.R, i * 2, none⟩ = some (lv (d.r i).n (L.lb i)) ∧ w.cell? ⟨L.R, i * 2 + 1, none⟩ = some (qv (d.r i).q (L.qb i) (L.qm i)) ∧ (∀ j, w.frozen? ⟨L.R, j, none⟩ = false) := by
  obtain ⟨l, h1, h2, h3, h4⟩ := h.rows (by omega)
  exact ⟨blk_cell h1 (h4 i hi).1, blk_cell h1 (h4 i hi).2, fun j => blk_free h1 j⟩
theorem DkL.cD {w : World} {D : Nat} {d : Dk} {F : Nat → Prop} {L : Ly} (h : DkL w D d F L) : w.cell? ⟨D, 0, none⟩ = some (.slice (pt d.k L.R) d.k (cp d.k L.rc)) ∧ w.cell? ⟨D, 1, none⟩ = some (.bool d.off) ∧ w.cell? ⟨D, 2, none⟩ = some (.int .i64 (aR d.ask)) ∧ w.cell? ⟨D, 3, none⟩ = some (.int .i64 (aL d.ask)) ∧ w.cell? ⟨D, 4, none⟩ = some (.slice L.ka (aK d.ask).length L.kc) ∧ (∀ j, w.frozen? ⟨D, j, none⟩ = false) := by
  have := h.dk
  refine ⟨?_, ?_, ?_, ?_, ?_, fun j => blk_free this j⟩ <;> simp [World.cell?, this]

set_option maxRecDepth 100000 in
theorem sectorsR {w : World} {D : Nat} {d : Dk} {F : Nat → Prop} {L : Ly} (h : DkL w D d F L) {i : Nat} (hi : i < d.k) :
    Calls Try.prog 46 #[rp L i] w fun e w' => e = .returned (.int .i64 ((d.r i).n : Int)) ∧ w = w' := by
  obtain ⟨c1, c2, c3⟩ := h.cR hi
  have hn := (h.ok.r i hi).n
  have e1 : (((64 * (d.r i).n : Nat) : Int)).tdiv 64 = ((d.r i).n : Int) := by
    rw [Int.tdiv_eq_ediv_of_nonneg (by omega)]; omega
  have HE : Hid _ := e1
  clear e1
  unfold lv at c1
  unfold rp
  go_enter Try.func46, Try.ntmps46
  go_wp2
  go_ret
  exact ⟨ret_int (by first | rfl | exact HE.out), rfl⟩

set_option maxRecDepth 100000 in
theorem find {w : World} {D : Nat} {d : Dk} {F : Nat → Prop} {L : Ly} (h : DkL w D d F L) {a : Int} :
    Calls Try.prog 30 #[.pointer (some ⟨D, 0, none⟩), .int .i64 a] w fun e w' => e = .returned (if d.has a then rp L a.toNat else .pointer none) ∧ w = w' := by
  obtain ⟨c1, c2, c3⟩ := h.cD
  have hk := h.ok.k
  by_cases c : d.has a = true
  · rw [if_pos c]
    have c0 : 0 ≤ a ∧ a < d.k := by unfold Dk.has at c; simpa using c
    obtain ⟨i, rfl⟩ := Int.eq_ofNat_of_zero_le c0.1
    have hi : i < d.k := by omega
    rw [pt_pos _ (by omega), cp_pos _ (by omega)] at c1
    unfold rp
    clear c
    go_enter Try.func30, Try.ntmps30
    go_wp2
    go_ret
    exact ⟨rfl, rfl⟩
  · rw [if_neg c]
    have c0 : ¬ (0 ≤ a ∧ a < d.k) := by unfold Dk.has at c; simpa using c
    rcases Int.lt_or_le a 0 with h0 | h0
    all_goals
      go_enter Try.func30, Try.ntmps30
      go_wp2
      go_ret
      exact ⟨rfl, rfl⟩

set_option maxRecDepth 100000 in
theorem at_ {w : World} {D : Nat} {d : Dk} {F : Nat → Prop} {L : Ly} (h : DkL w D d F L) {i : Nat} (hi : i < d.k) {s : Nat} (hs : s < (d.r i).n) :
    Calls Try.prog 83 #[rp L i, .int .i64 (s : Int)] w fun e w' => e = .returned (.slice (some ⟨L.lb i, s * 64, none⟩) 64 (64 * (d.r i).n - s * 64)) ∧ w = w' := by
  obtain ⟨c1, c2, c3⟩ := h.cR hi
  have hn := (h.ok.r i hi).n
  unfold lv at c1
  unfold rp
  go_enter Try.func83, Try.ntmps83
  have e1 : Hid ((s + 1) * 64 - s * 64 = 64) := by show _ = _; omega
  go_wp2
  go_ret
  exact ⟨by rw [e1.out]; rfl, rfl⟩

end Go.Proofs.Ytcnonioiggniiaa.Wd
