/-
  The walks of the document's right and shift: each returns what 'rr' and the quotient say. Conditions: the word fits 32 bits, the number is from 1 to 31.
-/
import Derived.Test.YtkelipedpjmmaaaDoorRows
import Derived.Test.YtkelipedpjmmaaaDoorSSch
import Derived.WalkKit
import Derived.ProofKit
import Derived.OpenShut
import Derived.BigQuiet
namespace Go.Proofs.YtkelipedpjmmaaaDoor.Wh
open Go.ChangeShapes Go.WideShapes Go.ChangeAt Go.RowKit Go.Proofs.YtkelipedpjmmaaaDoor.M

/-- A power of two, told apart from its reckoning. -/
def p2 (i : Nat) : Nat := 2 ^ i
theorem pow_small (i : Nat) (h : i ≤ 31) : 2 ^ i ≤ 2147483648 := Nat.pow_le_pow_right (n := 2) (by decide) h

set_option maxRecDepth 100000 in
theorem rightAt (x n R : Nat) (w : World) (h : x < 4294967296) (hn : n < 32) (h0 : 0 < n) (hE : Hid (x / 2 ^ n + x % 2 ^ n * 2 ^ (32 - n) = R)) (hR : R < 4294967296) :
    Calls Tryd.prog 85 #[.int .u32 (x : Int), .int .i64 (n : Int)] w fun e w' => e = .returned (.int .u32 (R : Int)) ∧ ∃ n, w' = w.drewN n := by
  go_enter Tryd.func85, Tryd.ntmps85
  go_wp2
  go_loop [5, 6] (fun lv iv => ∃ i : Nat, i ≤ n ∧ iv = .int .i64 (i : Int) ∧ lv = .int .u32 ((2 ^ i : Nat) : Int)) (fun _ i => n - (intOf i).toNat)
  case atStart => exact ⟨0, Nat.zero_le _, rfl, rfl⟩
  case round =>
    obtain ⟨i, hi, rfl, rfl⟩ := hrel
    by_cases hlt : i < n
    · have hp := pow_small i (by omega)
      have hq : ((2 ^ (i + 1) : Nat) : Int) = 2 * ((2 ^ i : Nat) : Int) := by rw [Nat.pow_succ]; omega
      have hp1 := pow_small (i + 1) (by omega)
      have hp2 : 2 * ((2 ^ i : Nat) : Int) < 4294967296 := by omega
      have HQ : Hid _ := hq
      clear hq hp1
      generalize 2 ^ i = P at hp HQ hp2
      go_wp2
      go_round
      case rel => exact ⟨i + 1, by omega, by go_num, by rw [HQ.out]⟩
      case measure => simp [intOf] <;> omega
    · have hin : i = n := by omega
      subst hin
      have hL : 0 < 2 ^ i := Nat.pow_pos (by decide)
      have hLp := pow_small i (by omega)
      generalize 2 ^ i = L at hE hL hLp
      clear hi hlt
      go_wp2
      go_loop [7, 8] (fun lv iv => ∃ j : Nat, i ≤ j ∧ j ≤ 32 ∧ iv = .int .i64 (j : Int) ∧ lv = .int .u32 ((p2 (j - i) : Nat) : Int)) (fun _ i => 32 - (intOf i).toNat)
      case atStart => exact ⟨i, Nat.le_refl _, by omega, rfl, by rw [Nat.sub_self]; rfl⟩
      case round =>
        obtain ⟨j, hij, hj, rfl, rfl⟩ := hrel
        by_cases hlt : j < 32
        · have hp : 2 ^ (j - i) ≤ 2147483648 := pow_small (j - i) (by omega)
          have hp1 : 2 ^ (j + 1 - i) ≤ 2147483648 := pow_small (j + 1 - i) (by omega)
          have hq : (2 ^ (j + 1 - i) : Nat) = 2 * 2 ^ (j - i) := by rw [show j + 1 - i = j - i + 1 by omega, Nat.pow_succ]; omega
          have hp2 : 2 * ((p2 (j - i) : Nat) : Int) < 4294967296 := by unfold p2; omega
          have HQ : Hid (((p2 (j + 1 - i) : Nat) : Int) = 2 * ((p2 (j - i) : Nat) : Int)) := by
            show ((p2 (j + 1 - i) : Nat) : Int) = 2 * ((p2 (j - i) : Nat) : Int)
            unfold p2
            omega
          have HJ : Hid (i ≤ j ∧ j < 32) := ⟨hij, hlt⟩
          have hji : (j : Int) < 32 := by omega
          clear hq hp1 hp hE h hR hL hLp hlt hj hij hn h0
          generalize p2 (j - i) = P at HQ hp2
          go_wp2
          go_round
          case rel => exact ⟨j + 1, by have := HJ.out; omega, by have := HJ.out; omega, by go_num, by rw [HQ.out]⟩
          case measure => simp [intOf] <;> omega
        · have hj32 : j = 32 := by omega
          subst hj32
          have hHp := pow_small (32 - i) (by omega)
          have hE' : Hid (x / L + x % L * p2 (32 - i) = R) := hE
          clear hE
          have hE := hE'
          clear hE'
          have hHp' : p2 (32 - i) ≤ 2147483648 := hHp
          clear hHp
          generalize p2 (32 - i) = H at hE hHp'
          have d1 : (x : Int).tdiv (L : Int) = ((x / L : Nat) : Int) := by rw [Int.tdiv_eq_ediv_of_nonneg (by omega)]; rfl
          have d2 : (x : Int).tmod (L : Int) = ((x % L : Nat) : Int) := by rw [Int.tmod_eq_emod_of_nonneg (by omega)]; rfl
          have hL0 : ¬ (L : Int) = 0 := by omega
          have hx := Nat.div_le_self x L
          have hm := Nat.mod_le x L
          have he := hE.out
          generalize x / L = A at d1 hx he
          generalize x % L = M at d2 hm he
          have d3 : IntKind.u32.wrap ((M : Int) * (H : Int)) = ((M * H : Nat) : Int) := by
            rw [← Int.natCast_mul, IntKind.wrap_u32']
            generalize M * H = MH at he
            omega
          have d4 : IntKind.u32.wrap ((A : Int) + ((M * H : Nat) : Int)) = (R : Int) := by
            rw [IntKind.wrap_u32']
            generalize M * H = MH at he
            omega
          clear hE
          generalize M * H = MH at d3 d4 he
          go_wp2
          go_quiet (fail)
          go_wp2
          go_ret
          exact ⟨rfl, _, rfl⟩

theorem rightRef (x n : Nat) (w : World) (h : x < 4294967296) (hn : n < 32) (h0 : 0 < n) :
    Calls Tryd.prog 85 #[.int .u32 (x : Int), .int .i64 (n : Int)] w fun e w' => e = .returned (.int .u32 ((rr x n : Nat) : Int)) ∧ ∃ n, w' = w.drewN n := by
  have e : x / 2 ^ n + x % 2 ^ n * 2 ^ (32 - n) = rr x n := rfl
  exact rightAt x n (rr x n) w h hn h0 e (rr_lt h n (by omega) h0)

set_option maxRecDepth 100000 in
theorem shiftRef (x n : Nat) (w : World) (h : x < 4294967296) (hn : n < 32) :
    Calls Tryd.prog 86 #[.int .u32 (x : Int), .int .i64 (n : Int)] w fun e w' => e = .returned (.int .u32 ((x / 2 ^ n : Nat) : Int)) ∧ w = w' := by
  go_enter Tryd.func86, Tryd.ntmps86
  go_wp2
  go_loop [0, 5] (fun lv iv => ∃ i : Nat, i ≤ n ∧ iv = .int .i64 (i : Int) ∧ lv = .int .u32 ((x / 2 ^ i : Nat) : Int)) (fun _ i => n - (intOf i).toNat)
  case atStart => exact ⟨0, Nat.zero_le _, rfl, by rw [Nat.pow_zero, Nat.div_one]⟩
  case round =>
    obtain ⟨i, hi, rfl, rfl⟩ := hrel
    by_cases hlt : i < n
    · have hp : x / 2 ^ i ≤ x := Nat.div_le_self _ _
      have hq : x / 2 ^ (i + 1) = x / 2 ^ i / 2 := by rw [Nat.pow_succ, Nat.div_div_eq_div_mul]
      have HQ : Hid _ := hq
      clear hq
      generalize x / 2 ^ i = P at hp HQ
      have d1 : (P : Int).tdiv 2 = ((P / 2 : Nat) : Int) := by rw [Int.tdiv_eq_ediv_of_nonneg (by omega)]; rfl
      go_wp2
      go_round
      case rel => exact ⟨i + 1, by omega, by go_num, by rw [HQ.out]; congr 1⟩
      case measure => simp [intOf] <;> omega
    · have hin : i = n := by omega
      subst hin
      go_wp2
      go_ret
      exact ⟨rfl, rfl⟩

end Go.Proofs.YtkelipedpjmmaaaDoor.Wh
