/-
  The walks of frame.All and of the document's All: each returns the bodies of the frames that the text begins with, in a slice of its own, and the place behind them; nothing that was in memory has turned. Condition: the text has at most 1048576 bytes.
-/
import Derived.Test.YtcnonioiggniiaaRows
import Derived.Test.YtcnonioiggniiaaPa
import Derived.Test.YtcnonioiggniiaaFGet
import Derived.WalkKit
import Derived.ProofKit
import Derived.OpenShut
import Derived.WalkSpells
namespace Go.Proofs.Ytcnonioiggniiaa.Wa
open Go.ChangeShapes Go.WideShapes Go.ChangeAt Go.RowKit Go.Proofs.Ytcnonioiggniiaa.M

theorem info9 : (Try.prog.info? 9).map (fun i => (i.zero, i.size, i.bytes)) = some (some (.string ⟨#[]⟩), 1, 16) := by kernel_rfl

theorem own_below {w w' : World} {base e size n : Nat} {v : Value} {xs : List Value} (h : w.ownsRow base e size v n xs) (b : Below w.heap.size w w') : w'.ownsRow base e size v n xs :=
  h.kept (row := none) ⟨b.os, b.tape, b.output, b.size, fun k hk _ => b.block k hk⟩ (by cases v.ownBlock <;> simp)

/-- What comes of a Get, by frames. -/
theorem q_step {s : ByteArray} {k : Nat} (h : qE s (pl s k : Int) = 0) : qB s (pl s k : Int) = bd s k ∧ qX s (pl s k : Int) = (pl s (k + 1) : Int) := by
  obtain ⟨e1, e2⟩ := q_ok h
  rw [Int.toNat_natCast] at e1 e2
  exact ⟨e1, e2⟩

set_option maxRecDepth 100000 in
theorem all (s : ByteArray) (w : World) (hs : s.size ≤ 1048576) :
    Calls Try.prog 51 #[.string s] w fun e w' => ∃ k v, Fst s k ∧ e = .returned (.tuple #[v, .int .i64 (pl s k : Int)]) ∧ w'.ownsRow w.heap.size 9 1 v k (bds s k) ∧ Below w.heap.size w w' := by
  obtain ⟨i0, hi, hz0, hz1, hz2⟩ := info_parts info9
  go_enter Try.func51, Try.ntmps51
  go_wp2
  go_loopw [4, 5] (fun v a wr => ∃ k : Nat, Up s k ∧ a = .int .i64 (pl s k : Int) ∧ wr.ownsRow w.heap.size 9 1 v k (bds s k) ∧ Below w.heap.size w wr) (fun _ a _ => s.size - (intOf a).toNat)
  case atStart => exact ⟨0, up_zero s, rfl, World.ownsRow_nil _ _ _ _, Below.refl _ _⟩
  case round =>
    obtain ⟨k, hu, rfl, hown, hbel⟩ := hrel
    have hp := pl_le hu
    have hz := hbel.size
    by_cases c : qE s (pl s k : Int) = 0
    · have hq := q_place c
      obtain ⟨e1, e2⟩ := q_step c
      have C : Hid _ := fun w => Wq.get s (pl s k : Int) w (by unfold maxLen; omega) (by omega) (by omega)
      rw [c, e1, e2] at C
      have hu' := up_succ hu c
      have hp' := pl_le hu'
      have HM : Hid (pl s k + 7 ≤ pl s (k + 1)) := by show pl s k + 7 ≤ pl s k + 6 + n2 s (pl s k); omega
      have HB : Hid (bds s (k + 1) = bds s k ++ [.string (bd s k)]) := bds_succ s k
      clear c hq e1 e2
      generalize bd s k = x at C HB
      generalize pl s k = p at C HM hp
      generalize hP : pl s (k + 1) = p' at C HM hp'
      have HP : Hid (pl s (k + 1) = p') := hP
      clear hP
      go_wp2_with fail
      refine (C.out _).mono ?_
      rintro e w1 ⟨rfl, b1⟩
      have hown1 := own_below hown b1
      have hz1' := b1.size
      clear hown
      go_wp2_with (at_builtin; refine wpList_append_own _ rfl _ _ 24 rfl w.heap.size 9 i0 (.string ⟨#[]⟩) 1 16 Try.underlying24 hi hz0 hz1 hz2 rfl (by decide) _ _ _ rfl (hown1.alloc _) ⟨w1.heap.size, 0, none⟩ 1 1 [.string x] rfl rfl ?c1 ?c2 ?c3 ?c4 ?c5 ?_)
      case c1 =>
        intro j u hj
        match j, hj with
        | 0, hj => simp at hj; subst hj; simp [Addr.add]
      case c2 => intro u hu; simp at hu; subst hu; rfl
      case c3 => unfold maxLen; omega
      case c4 => omega
      case c5 => simp; omega
      · intro v' w2 hown2 hgrow _
        have hlt := hown1.lt
        have B2 : Hid (Below w.heap.size w w2) := ((hbel.trans (b1.mono hz)).alloc (by omega) _).grown hgrow (by simp; omega) fun k hk => (hlt k hk).1
        clear hown1 hgrow hlt
        go_wp2
        go_roundw
        case rel => exact ⟨k + 1, hu', by rw [HP.out], by rw [HB.out]; exact hown2, B2.out⟩
        case measure => have := HM.out; simp [intOf] <;> omega
    · obtain ⟨e1, e2⟩ := q_err c
      have C : Hid _ := fun w => Wq.get s (pl s k : Int) w (by unfold maxLen; omega) (by omega) (by omega)
      rw [e1, e2] at C
      have hF : Hid (Fst s k) := ⟨hu, c⟩
      have hE : (qE s (pl s k : Int) == 0) = false := by simpa using c
      generalize qE s (pl s k : Int) = E at C hE
      clear e1 e2 c
      go_wp2_with fail
      refine (C.out _).mono ?_
      rintro e w1 ⟨rfl, b1⟩
      have hown1 := own_below hown b1
      clear hown
      go_wp2
      go_ret2
      exact ⟨k, _, hF.out, rfl, hown1, hbel.trans (b1.mono hz)⟩

end Go.Proofs.Ytcnonioiggniiaa.Wa
