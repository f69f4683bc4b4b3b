/-
  The walk of token.Verify: the claims and the error that 'vfN' and 'vfE' say; nothing that was in memory has turned. Conditions: keys and texts of at most 2^47 bytes; the table of the rounds' numbers holds what it was laid with.
-/
import Derived.Test.YtkelipedpjmmaaaDoorRows
import Derived.Test.YtkelipedpjmmaaaDoorQd
import Derived.Test.YtkelipedpjmmaaaDoorMSame2
namespace Go.Proofs.YtkelipedpjmmaaaDoor.Wtk
open Go.ChangeShapes Go.WideShapes Go.ChangeAt Go.RowKit Go.Proofs.YtkelipedpjmmaaaDoor.M Go.Proofs.YtkelipedpjmmaaaDoor.Wf Go.Proofs.YtkelipedpjmmaaaDoor.Wr Go.Proofs.YtkelipedpjmmaaaDoor.Wh

set_option maxRecDepth 100000 in
set_option maxHeartbeats 4000000 in
theorem verify0 (K s T T2 H G : ByteArray) (m0 m1 m2 m3 r0 r1 r2 r3 X now ep : Int) (b : Bool) (w : World) (HT : Hid (Tab w))
    (CP : Hid (∀ W, Calls Tryd.prog 8 #[.string s] W fun e w' => e = .returned (.tuple #[.agg #[.int .i64 m0, .int .i64 m1, .int .i64 m2, .int .i64 m3], .string T, .int .i64 0]) ∧ Below W.heap.size W w'))
    (CQ : Hid (∀ W, Calls Tryd.prog 14 #[.string s] W fun e w' => e = .returned (.tuple #[.string H, .string T2]) ∧ Below W.heap.size W w'))
    (CT : Hid (∀ W, Tab W → Calls Tryd.prog 20 #[.string K, .string H] W fun e w' => e = .returned (.string G) ∧ Below W.heap.size W w'))
    (CS : Hid (∀ W, Calls Tryd.prog 19 #[.string T, .string G] W fun e w' => e = .returned (.bool b) ∧ W = w'))
    (hc : (b = false ∧ X = 20 ∧ (r0 = 0 ∧ r1 = 0 ∧ r2 = 0 ∧ r3 = 0)) ∨ (b = true ∧ m3 < now ∧ X = 21 ∧ (r0 = 0 ∧ r1 = 0 ∧ r2 = 0 ∧ r3 = 0)) ∨ (b = true ∧ ¬ m3 < now ∧ ¬ m2 = ep ∧ X = 22 ∧ (r0 = 0 ∧ r1 = 0 ∧ r2 = 0 ∧ r3 = 0)) ∨ (b = true ∧ ¬ m3 < now ∧ ep = m2 ∧ X = 0 ∧ (r0 = m0 ∧ r1 = m1 ∧ r2 = m2 ∧ r3 = m3))) :
    Calls Tryd.prog 11 #[.string K, .string s, .int .i64 now, .int .i64 ep] w fun e w' => e = .returned (.tuple #[.agg #[.int .i64 r0, .int .i64 r1, .int .i64 r2, .int .i64 r3], .int .i64 X]) ∧ Below w.heap.size w w' := by
  rcases hc with ⟨rfl, rfl, rfl, rfl, rfl, rfl⟩ | ⟨rfl, h1, rfl, rfl, rfl, rfl, rfl⟩ | ⟨rfl, h1, h2, rfl, rfl, rfl, rfl, rfl⟩ | ⟨rfl, h1, rfl, rfl, rfl, rfl, rfl, rfl⟩
  all_goals
    go_enter Tryd.func11, Tryd.ntmps11
    go_wp2_with fail
    refine (CP.out _).mono ?_
    rintro e w1 ⟨rfl, b1⟩
    go_wp2_with fail
    refine (CQ.out _).mono ?_
    rintro e w2 ⟨rfl, b2⟩
    have Z2 := hid ((((rz_start 23 w).below b1).alloc _).below b2)
    have T2' : Hid (Tab w2) := HT.out.below Z2.out.2 HT.out.pos
    go_wp2_with fail
    refine (CT.out _ T2'.out).mono ?_
    rintro e w3 ⟨rfl, b3⟩
    have Z3 := hid (Z2.out.below b3)
    have bl := hid ((b3.block w1.heap.size (Nat.lt_of_lt_of_le (by simp) b2.size)).trans ((b2.block w1.heap.size (by simp)).trans (heap_alloc_new w1 _)))
    clear b1 b2 b3 Z2 T2'
    go_wp2_with fail
    refine (CS.out _).mono ?_
    rintro e w4 ⟨rfl, rfl⟩
    obtain ⟨v0, v1, v2, v3, vf, vl⟩ := Z3.out.cells
    obtain ⟨d0, d1, d2, d3⟩ := four_c bl.out
    clear bl
    go_wp2_with fail
    exact bodyPost_ret (v := .tuple #[.agg #[_, _, _, _], _]) (by simp [results, Tryd.results11, go_sem, v0, v1, v2, v3]) rfl ⟨rfl, Z3.out.put _ _ _ _⟩

theorem verify (K s : ByteArray) (now ep : Int) (w : World) (hK : K.size ≤ 140737488355328) (hs : s.size ≤ 140737488355328) (hT : Tab w) :
    Calls Tryd.prog 11 #[.string K, .string s, .int .i64 now, .int .i64 ep] w fun e w' => e = .returned (.tuple #[.agg #[.int .i64 (vfN K s now ep 0), .int .i64 (vfN K s now ep 1), .int .i64 (vfN K s now ep 2), .int .i64 (vfN K s now ep 3)], .int .i64 (vfE K s now ep)]) ∧ Below w.heap.size w w' := by
  have CP := hid (fun W => parse s W hs)
  have hts := tkT_size s
  by_cases h0 : tkE s = 0
  · have CQ := hid (fun W => parts s W (by unfold maxLen; omega) (tk_long h0))
    have CT := hid (fun W h => Wm.tag_ K (hd32 s) W (by omega) (by rw [hd32_size]; omega) h)
    have hg := tag_size K (hd32 s)
    have CS := hid (fun W => Wm.same (tkT s) (tag K (hd32 s)) W (by omega) (by rw [hg]; omega))
    rw [h0] at CP
    refine verify0 K s _ _ _ _ _ _ _ _ _ _ _ _ _ now ep _ w (hid hT) CP CQ CT CS ?_
    by_cases h1 : tkT s = tag K (hd32 s)
    · by_cases h2 : tkN s 3 < now
      · have e0 := vf_late (ep := ep) h0 h1 h2
        have n0 := vf_none (K := K) (s := s) (now := now) (ep := ep) (by rw [e0]; decide)
        exact .inr (.inl ⟨decide_eq_true h1, h2, e0, n0 0, n0 1, n0 2, n0 3⟩)
      · by_cases h3 : tkN s 2 = ep
        · obtain ⟨e0, n0⟩ := vf_ok h0 h1 h2 h3
          exact .inr (.inr (.inr ⟨decide_eq_true h1, h2, h3.symm, e0, n0 0, n0 1, n0 2, n0 3⟩))
        · have e0 := vf_epoch h0 h1 h2 h3
          have n0 := vf_none (K := K) (s := s) (now := now) (ep := ep) (by rw [e0]; decide)
          exact .inr (.inr (.inl ⟨decide_eq_true h1, h2, h3, e0, n0 0, n0 1, n0 2, n0 3⟩))
    · have e0 := vf_tag (now := now) (ep := ep) h0 h1
      have n0 := vf_none (K := K) (s := s) (now := now) (ep := ep) (by rw [e0]; decide)
      exact .inl ⟨decide_eq_false h1, e0, n0 0, n0 1, n0 2, n0 3⟩
  · have e0 := vf_err (K := K) (now := now) (ep := ep) h0
    have n0 := vf_none (K := K) (s := s) (now := now) (ep := ep) (by rw [e0]; exact h0)
    rw [e0, n0, n0, n0, n0]
    have h1 : (tkE s != 0) = true := by simpa using h0
    generalize tkT s = T at *
    generalize tkN s 0 = m0 at *
    generalize tkN s 1 = m1 at *
    generalize tkN s 2 = m2 at *
    generalize tkN s 3 = m3 at *
    generalize tkE s = E at *
    clear e0 n0 h0 hT
    go_enter Tryd.func11, Tryd.ntmps11
    go_wp2_with fail
    refine (CP.out _).mono ?_
    rintro e w1 ⟨rfl, b1⟩
    have Z3 := hid (((rz_start 23 w).below b1))
    obtain ⟨v0, v1, v2, v3, vf, vl⟩ := Z3.out.cells
    go_wp2_with fail
    exact bodyPost_ret (v := .tuple #[.agg #[.int .i64 0, .int .i64 0, .int .i64 0, .int .i64 0], .int .i64 E]) (by simp [results, Tryd.results11, go_sem, v0, v1, v2, v3, vl]) rfl ⟨rfl, (Z3.out.put _ _ _ _).alloc (by rw [put4_size]; exact Z3.out.2.size) _⟩

end Go.Proofs.YtkelipedpjmmaaaDoor.Wtk
