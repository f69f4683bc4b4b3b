/-
  The walk of the laws' function wakes: it returns true. Nothing is asked.
-/
import Derived.Test.YtpbbamoeaalolaaGtU
import Derived.Test.YtpbbamoeaalolaaGtR
namespace Go.Proofs.Ytpbbamoeaalolaa.Wg
open Go.ChangeShapes Go.WideShapes Go.ChangeAt Go.RowKit Go.Proofs.Ytpbbamoeaalolaa.M Go.Maps

def payK : Ky := (1, payT)
theorem pay_ok : KOk payK := ⟨by decide, by decide⟩
theorem pay_add : addE payK [] = 0 := addE_0.2 ⟨by decide, pay_name, by simp, by decide⟩
theorem pay_adds : adds [] [payK] = (0, [payK]) := by
  rw [adds_ok pay_add, addL_yes pay_add]
  rfl
def wkE : List Ed := [(2, 1), (3, 4), (4, 2)]
theorem wk_rch : rch wkE 1 4 = [1, 2, 3, 4] := by decide
theorem wk_len {R : List Int} (h : IsR wkE 1 R) : R.length = 4 := by
  have := h.one (rch_is wkE 1)
  rw [this, show wkE.length + 1 = 4 from rfl, wk_rch]
  rfl
/-- Two cells of the block made last. -/
theorem rd_new2 {w : World} {k : Ky} {T : Nat} : Rd kC (w.alloc (.cells #[.int .i64 k.1, .string k.2] T)) w.heap.size 0 [k] := by
  intro i x hx t v hv
  have hi : i = 0 := by
    have := (List.getElem?_eq_some_iff.1 hx).1
    simpa using this
  subst hi
  simp at hx
  subst hx
  exact blk_cell (l := [.int .i64 k.1, .string k.2]) (heap_alloc_new w _) (by rw [show 0 + 0 * 2 + t = t by omega]; exact hv)

set_option maxRecDepth 100000 in
set_option maxHeartbeats 1600000 in
theorem wakes (w : World) : Calls Try.prog 12 #[] w fun e w' => e = .returned (.bool true) ∧ Below w.heap.size w w' := by
  have NW : Hid (∀ W g, W.heap[g]? = some (Obj.cells #[.int .i64 1, .string ⟨#[112, 97, 121]⟩] 38 (0, 0)) → Calls Try.prog 11 #[.slice (some ⟨g, 0, none⟩) 1 1] W fun e w' => ∃ s, e = .returned (.tuple #[.pointer (some ⟨s, 0, none⟩), .int .i64 0]) ∧ Hid (Tab W w' s [payK])) := fun W g hg => by
    refine (new (l := [payK]) (a := some ⟨g, 0, none⟩) (cap := 1) (by decide) (fun k hk => by simp at hk; subst hk; exact pay_ok) (.inr ⟨g, rfl, blk_lt hg, ?_⟩)).mono ?_
    · intro i x hx t v hv
      have hi : i = 0 := by
        have := (List.getElem?_eq_some_iff.1 hx).1
        simpa using this
      subst hi
      simp at hx
      subst hx
      exact blk_cell (l := [.int .i64 1, .string ⟨#[112, 97, 121]⟩]) hg (by rw [show 0 + 0 * 2 + t = t by omega]; exact hv)
    · rintro e w' ⟨_, h⟩
      rw [pay_adds] at h
      rcases h with ⟨h, _⟩ | ⟨_, s, h1, h2⟩
      · exact absurd rfl h
      · exact ⟨s, h1, h2⟩
  have HS : Hid (∀ W w' s, Tab W w' s [payK] → Calls Try.prog 18 #[.pointer (some ⟨s, 0, none⟩), .agg #[.int .i64 1, .string ⟨#[112, 97, 121]⟩]] w' fun e w'' => e = .returned (.bool true) ∧ Below w'.heap.size w' w'') := fun W w' s t => by
    obtain ⟨F, h1, _⟩ := t.tb
    have := has h1 pay_ok
    rw [decide_eq_true (by simp)] at this
    exact this
  have LS : Hid (∀ W w' s, Tab W w' s [payK] → Calls Try.prog 20 #[.pointer (some ⟨s, 0, none⟩)] w' fun e w'' => ∃ a cap, e = .returned (.slice a 1 cap) ∧ Below w'.heap.size w' w'') := fun W w' s t => by
    obtain ⟨F, h1, _⟩ := t.tb
    exact (list h1).mono fun e w'' ⟨a, cap, q1, _, _, _, q5⟩ => ⟨a, cap, q1, q5⟩
  have RC : Hid (∀ W g, W.heap[g]? = some (Obj.cells #[.int .i64 2, .int .i64 1, .int .i64 3, .int .i64 4, .int .i64 4, .int .i64 2] 52 (0, 0)) → Calls Try.prog 21 #[.int .i64 1, .slice (some ⟨g, 0, none⟩) 3 3] W fun e w' => ∃ a cap, e = .returned (.slice a 4 cap) ∧ Below W.heap.size W w') := fun W g hg => by
    refine (reach (es := wkE) (a := some ⟨g, 0, none⟩) (cap := 3) 1 (by unfold I64; decide) (fun e he => ?_) (.inr ⟨g, 0, rfl, blk_lt hg, ?_⟩) (by decide)).mono ?_
    · unfold wkE at he
      simp at he
      rcases he with rfl | rfl | rfl <;> exact ⟨by decide, by decide⟩
    · intro i x hx t v hv
      have key : ([.int .i64 2, .int .i64 1, .int .i64 3, .int .i64 4, .int .i64 4, .int .i64 2] : List Value)[i * 2 + t]? = some v := by
        have := flat_get eC_len wkE i t (by have := (List.getElem?_eq_some_iff.1 hv).1; rwa [eC_len] at this)
        rw [hx, Option.bind_some, hv] at this
        exact this
      rw [Nat.zero_add]
      exact blk_cell (l := [.int .i64 2, .int .i64 1, .int .i64 3, .int .i64 4, .int .i64 4, .int .i64 2]) hg key
    · rintro e w' ⟨R, g', cap, q1, rfl, _, _, _, _, _, q8⟩
      exact ⟨_, cap, by rw [wk_len q1], q8⟩
  go_enter Try.func12, Try.ntmps12
  go_wp2_with fail
  refine (NW.out _ _ (heap_alloc_new w _)).mono ?_
  rintro e w1 ⟨s, rfl, t1⟩
  have B1 := ((Below.refl w.heap.size w).alloc (Nat.le_refl _) (.cells #[.int .i64 1, .string ⟨#[112, 97, 121]⟩] 38)).trans (t1.out.bel.mono (by simp))
  clear NW
  go_wp2_with fail
  refine (HS.out _ _ _ t1.out).mono ?_
  rintro e w2 ⟨rfl, b2⟩
  have t2 := hid (t1.out.below b2)
  have B2 := B1.trans (b2.mono B1.size)
  clear t1 HS b2 B1
  go_wp2_with fail
  refine (LS.out _ _ _ t2.out).mono ?_
  rintro e w3 ⟨a, cap, rfl, b3⟩
  have B3 := B2.trans (b3.mono B2.size)
  clear t2 LS b3 B2
  go_wp2_with fail
  refine (RC.out _ _ (heap_alloc_new w3 _)).mono ?_
  rintro e w4 ⟨a', cap', rfl, b4⟩
  have B4 := (B3.alloc B3.size (.cells #[.int .i64 2, .int .i64 1, .int .i64 3, .int .i64 4, .int .i64 4, .int .i64 2] 52)).trans (b4.mono (by have := B3.size; simp; omega))
  clear RC b4 B3
  go_wp2
  go_ret
  exact ⟨rfl, B4⟩

end Go.Proofs.Ytpbbamoeaalolaa.Wg
