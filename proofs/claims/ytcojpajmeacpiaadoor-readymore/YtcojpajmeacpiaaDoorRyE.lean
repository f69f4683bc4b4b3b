/-
  The contracts of the document's Bit, Number, waits, count, and Ready. Conditions: what is handed in lies in memory.
-/
import Derived.Test.YtcojpajmeacpiaaDoorRyB
import Derived.Test.YtcojpajmeacpiaaDoorBits
import Derived.Deep.OwnRows
import Derived.Laws.OwnMore
namespace Go.Proofs.YtcojpajmeacpiaaDoor.Wry
open Go.ChangeShapes Go.WideShapes Go.ChangeAt Go.RowKit Go.Shelf Go.Proofs.YtcojpajmeacpiaaDoor.M

theorem infoB : (Tryd.prog.info? 4).map (fun i => (i.zero, i.size, i.bytes)) = some (some (.bool false), 1, 1) := by kernel_rfl
theorem madeB (n : Nat) (hn : n ≤ 1048576) (u : World) : (Instr.makeSlice 39 (.int .i64 (n : Int)) (.int .i64 (n : Int))).run Tryd.prog u = .ok (.slice (some ⟨u.heap.size, 0, none⟩) n n) (u.alloc (.cells (madeCells #[.bool false] n) 4)) := by
  obtain ⟨i0, hi, hz0, hz1, hz2⟩ := info_parts infoB
  have h := run_make (P := Tryd.prog) u 39 4 i0 (.bool false) Tryd.underlying39 hi hz0 .i64 .i64 (n : Int) (n : Int) (by omega) (by omega) (by rw [hz2]; omega) (by omega)
  simpa [hz1, Value.cells] using h

set_option maxRecDepth 100000 in
theorem bitR (m k : Nat) (w : World) (hm : m < 4294967296) :
    Calls Tryd.prog 28 #[.int .u32 (m : Int), .int .i64 (k : Int)] w fun e w' => e = .returned (.bool (m.testBit k)) ∧ w = w' := by
  have e : bitB (m : Int) (k : Int) = m.testBit k := by unfold bitB; simp
  have C := hid (Wb.bit (m : Int) (k : Int) w (by omega) (by omega))
  have hw : IntKind.u64.wrap (m : Int) = (m : Int) := by rw [IntKind.wrap_u64]; omega
  rw [e] at C
  clear e
  rcases e1 : m.testBit k with _ | _
  all_goals
    rw [e1] at C
    clear e1
    go_enter Tryd.func28, Tryd.ntmps28
    go_wp2_with fail
    refine C.out.mono ?_
    rintro e w1 ⟨rfl, rfl⟩
    go_wp2_with fail
    go_ret
    exact ⟨rfl, rfl⟩

set_option maxRecDepth 100000 in
theorem countR (M : List Nat) (a : Option Addr) (cap : Nat) (w : World) : Calls Tryd.prog 22 #[.slice a M.length cap] w fun e w' => e = .returned (.int .i64 (nn M : Int)) ∧ w = w' := by
  by_cases h : 32 < M.length
  · have e : (32 : Int) = (nn M : Int) := by unfold nn; omega
    rw [← e]
    go_enter Tryd.func22, Tryd.ntmps22
    go_wp2_with fail
    go_ret
    exact ⟨rfl, rfl⟩
  · have e := hid (show M.length = nn M by unfold nn; omega)
    go_enter Tryd.func22, Tryd.ntmps22
    go_wp2_with fail
    go_ret
    exact ⟨by rw [← e.out] <;> rfl, rfl⟩

theorem bsm_up (p : Nat → Bool) (i : Nat) : bsm p (i + 1) = bsm p i + (if p i then 2 ^ i else 0) := rfl

set_option maxRecDepth 100000 in
set_option maxHeartbeats 2000000 in
theorem number {w : World} {g n : Nat} {p : Nat → Bool} (hn : n ≤ 32) (h : w.rowIs g 4 n (fun j => .bool (p j))) :
    Calls Tryd.prog 29 #[.slice (some ⟨g, 0, none⟩) n n] w fun e w' => e = .returned (.int .u32 (bsm p n : Int)) ∧ w = w' := by
  have H := hid h
  clear h
  go_enter Tryd.func29, Tryd.ntmps29
  go_wp2_with fail
  go_loop [3, 4, 5] (fun mv pv iv => ∃ i : Nat, i ≤ n ∧ iv = .int .i64 (i : Int) ∧ mv = .int .u32 ((bsm p i : Nat) : Int) ∧ pv = .int .u32 (((2 ^ i % 4294967296 : Nat)) : Int)) (fun _ _ iv => n - (intOf iv).toNat)
  case atStart => exact ⟨0, Nat.zero_le _, rfl, rfl, rfl⟩
  case round =>
    obtain ⟨i, hi, rfl, rfl, rfl⟩ := hrel
    by_cases c : i < n
    · have x0 := H.out.cell c
      have hl := bsm_lt p i
      have h2 : 2 ^ i < 2 ^ 32 := Nat.pow_lt_pow_right (by decide) (by omega)
      have h3 : 2 ^ (i + 1) ≤ 2 ^ 32 := Nat.pow_le_pow_right (by decide) (by omega)
      have h4 : 2 ^ (i + 1) = 2 * 2 ^ i := by rw [Nat.pow_succ, Nat.mul_comm]
      have hu := hid (bsm_up p i)
      obtain ⟨q, hq⟩ : ∃ q, Hid (2 ^ i = q) := ⟨_, hid rfl⟩
      rw [hq.out] at hl h2 h4 hu ⊢
      have hm : q % 4294967296 = q := Nat.mod_eq_of_lt (by omega)
      have hs := hid h4
      rw [hm]
      generalize bsm p i = b at hl hu ⊢
      have e1 := hid (show IntKind.u32.wrap (2 * (q : Int)) = ((2 * q % 4294967296 : Nat) : Int) by rw [IntKind.wrap_u32]; omega)
      have e2 : (b : Int) + (q : Int) < 4294967296 := by omega
      have e3 := hid (show (2 * (q : Int)) % 4294967296 = ((2 * q % 4294967296 : Nat) : Int) by omega)
      clear h3 h4 hm
      rcases e : p i with _ | _
      · rw [e] at x0 hu
        clear e
        go_wp2_with fail
        go_round
        case rel => exact ⟨i + 1, c, by go_num, by rw [hu.out]; simp, by rw [hs.out]; first | exact congrArg _ e1.out | exact congrArg _ e3.out⟩
        case measure => simp [intOf]; omega
      · rw [e] at x0 hu
        clear e
        go_wp2_with fail
        go_round
        case rel => exact ⟨i + 1, c, by go_num, by rw [hu.out]; simp, by rw [hs.out]; first | exact congrArg _ e1.out | exact congrArg _ e3.out⟩
        case measure => simp [intOf]; omega
    · obtain rfl : i = n := by omega
      go_wp2_with fail
      go_ret
      exact ⟨rfl, rfl⟩

set_option maxRecDepth 100000 in
set_option maxHeartbeats 2000000 in
theorem waitsR {w : World} {a : Option Addr} {M : List Nat} {cap g n i : Nat} {D : Nat → Bool} (h : Ms w a M) (hM : MOk M) (hi : i < nn M) (hn : n ≤ 32) (hr : w.rowIs g 4 n (fun j => .bool (D j))) :
    Calls Tryd.prog 23 #[.slice a M.length cap, .int .i64 (i : Int), .slice (some ⟨g, 0, none⟩) n n] w fun e w' => e = .returned (.bool (wai M D i n)) ∧ w = w' := by
  have H := hid hr
  obtain ⟨ga, o, rfl, hga, x1⟩ := h.at (mk_at hi)
  have hil : i < M.length := Nat.lt_of_lt_of_le hi (nn_len M)
  have hml := mk_lt hM i
  have hw0 := hid (wai_zero M D i)
  have hws := hid (fun k => wai_succ M D i k)
  have hbit := hid (fun k => bitR (mk M i) k w hml)
  generalize wai M D i = f at *
  generalize mk M i = m at *
  clear hr h
  go_enter Tryd.func23, Tryd.ntmps23
  go_wp2_with fail
  go_loop [7] (fun iv => ∃ k : Nat, k ≤ n ∧ iv = .int .i64 (k : Int) ∧ Hid (f k = false)) (fun iv => n - (intOf iv).toNat)
  case atStart => exact ⟨0, Nat.zero_le _, rfl, hw0⟩
  case round =>
    obtain ⟨k, hk, rfl, hf⟩ := hrel
    by_cases c : k < n
    · have x0 := H.out.cell c
      have C := hid (hbit.out k)
      have hs := hid (hws.out k)
      rw [hf.out] at hs
      go_wp2_with fail
      refine C.out.mono ?_
      rintro e w1 ⟨rfl, rfl⟩
      clear C
      rcases e1 : m.testBit k with _ | _
      · rw [e1] at hs
        clear e1
        go_wp2_with fail
        go_round
        case rel => exact ⟨k + 1, c, by go_num, hid (by rw [hs.out]; rfl)⟩
        case measure => simp [intOf]; omega
      · rw [e1] at hs
        clear e1
        rcases e2 : D k with _ | _
        · rw [e2] at x0 hs
          have R : Hid (f n = true) := hid (by
            have hst : ∀ j, k + 1 ≤ j → f j = true := fun j hj => by
              induction j with
              | zero => omega
              | succ j ih =>
                by_cases q : k + 1 ≤ j
                · rw [hws.out, ih q]; rfl
                · obtain rfl : j = k := by omega
                  rw [hs.out]; rfl
            exact hst n c)
          clear e2
          go_wp2_with fail
          go_ret
          exact ⟨ret_b R.out.symm, rfl⟩
        · rw [e2] at x0 hs
          clear e2
          go_wp2_with fail
          go_round
          case rel => exact ⟨k + 1, c, by go_num, hid (by rw [hs.out]; rfl)⟩
          case measure => simp [intOf]; omega
    · obtain rfl : k = n := by omega
      go_wp2_with fail
      go_ret
      exact ⟨ret_b hf.out.symm, rfl⟩

end Go.Proofs.YtcojpajmeacpiaaDoor.Wry
