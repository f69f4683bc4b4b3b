/-
  The contract of firstBehindItself: the first node that comes behind itself, by masks of at most 20 nodes. It uses up the row of masks, and turns nothing else.
-/
import Derived.Test.YtainajjklakaeaaGpK
namespace Go.Proofs.Ytainajjklakaeaa.Wgp
open Go.ChangeShapes Go.WideShapes Go.ChangeAt Go.RowKit Go.Proofs.Ytainajjklakaeaa.M Go.Proofs.Ytainajjklakaeaa.Wg

/-- What firstBehindItself comes to. -/
def FbP (p : Nat → Nat → Bool) (n : Nat) (e : Ending) : Prop :=
  (∃ k : Nat, e = .returned (.tuple #[.int .i64 (k : Int), .bool true]) ∧ k < n ∧ war p n k k = true ∧ ∀ j, j < k → war p n j j = false) ∨ (e = .returned (.tuple #[.int .i64 0, .bool false]) ∧ ∀ j, j < n → war p n j j = false)

/-- The row in a round of b, as far as a. -/
def fbV (p : Nat → Nat → Bool) (n b a : Nat) (i : Nat) : Value := .int .u32 ((bsm (if i < a then war p (b + 1) i else war p b i) n : Nat) : Int)

theorem fb_self {p : Nat → Nat → Bool} (n b a : Nat) : fbV p n b a b = .int .u32 ((bsm (war p b b) n : Nat) : Int) := by
  unfold fbV
  split
  · rw [show bsm (war p (b + 1) b) n = bsm (war p b b) n from bsm_congr fun j _ => war_self p b j]
  · rfl
theorem bsm20 (q : Nat → Bool) {n : Nat} (hn : n ≤ 20) : bsm q n < 1048576 := Nat.lt_of_lt_of_le (bsm_lt q n) (Nat.pow_le_pow_right (by decide) hn)

theorem u32_and_one (a : Nat) (ha : a < 4294967296) : bits .and .u32 (a : Int) 1 = ((a % 2 : Nat) : Int) := by
  show IntKind.u32.wrap ((BitVec.ofInt 32 (a : Int) &&& BitVec.ofInt 32 1).toNat : Int) = _
  rw [BitVec.toNat_and, ofInt_u32 a ha, show (BitVec.ofInt 32 1).toNat = 1 from rfl, Nat.and_one_is_mod, IntKind.wrap_u32]
  omega
theorem bit_test (q : Nat → Bool) {n b : Nat} (hb : b < n) (hn : n ≤ 20) : (bits .and .u32 (((bsm q n : Nat) : Int) / 2 ^ b) 1 == 1) = q b := by
  have h := bsm_at (p := q) hb
  have hl := bsm20 q hn
  have e : (((bsm q n : Nat) : Int) / 2 ^ b) = ((bsm q n / 2 ^ b : Nat) : Int) := by simp
  have hd : bsm q n / 2 ^ b ≤ bsm q n := Nat.div_le_self _ _
  rw [e, u32_and_one _ (by omega), h]
  cases q b <;> rfl

set_option maxRecDepth 100000 in
set_option maxHeartbeats 6400000 in
theorem firstBehind (p : Nat → Nat → Bool) (n g B : Nat) (w0 w : World) (hn : n ≤ 20) (h : w.rowIs g 71 n (fun i => .int .u32 (bsm (p i) n : Int))) (hb : Below B w0 w) (hg : B ≤ g) :
    Calls Try.prog 32 #[.slice (some ⟨g, 0, none⟩) n n] w fun e w' => FbP p n e ∧ Below B w0 w' := by
  have H := hid h
  have hgl := h.lt
  clear h
  go_enter Try.func32, Try.ntmps32
  go_wp2_with fail
  go_loopw [10] (fun iv wr => ∃ b : Nat, b ≤ n ∧ iv = .int .i64 (b : Int) ∧ Hid (wr.rowIs g 71 n (fbV p n b 0)) ∧ Below B w0 wr) (fun iv _ => n - (intOf iv).toNat)
  case atStart => exact ⟨0, Nat.zero_le _, rfl, hid (H.out.congr fun i _ => by simp [fbV, war]), hb⟩
  case round =>
    obtain ⟨b, hbn, rfl, HR, hb1⟩ := hrel
    by_cases c : b < n
    · go_wp2_with fail
      go_loopw [15] (fun iv wr => ∃ a : Nat, a ≤ n ∧ iv = .int .i64 (a : Int) ∧ Hid (wr.rowIs g 71 n (fbV p n b a)) ∧ Below B w0 wr) (fun iv _ => n - (intOf iv).toNat)
      case atStart => exact ⟨0, Nat.zero_le _, rfl, HR, hb1⟩
      case round =>
        obtain ⟨a, han, rfl, HA, hb2⟩ := hrel
        by_cases ca : a < n
        · have x0 := HA.out.cell ca
          have x1 := HA.out.cell c
          have x2 := HA.out.frozen
          have gl := HA.out.lt
          rw [fb_self] at x1
          rw [show fbV p n b a a = .int .u32 ((bsm (war p b a) n : Nat) : Int) from by unfold fbV; rw [if_neg (by omega)]] at x0
          have hbit := bit_test (war p b a) c hn
          have l0 := bsm20 (war p b a) hn
          have l1 := bsm20 (war p b b) hn
          rcases e : war p b a b with _ | _
          · have HN : Hid (wr.rowIs g 71 n (fbV p n b (a + 1))) := hid (HA.out.congr fun i _ => by
              unfold fbV
              by_cases q : i = a
              · subst q
                rw [if_neg (by omega), if_pos (by omega), show bsm (war p b i) n = bsm (war p (b + 1) i) n from bsm_congr fun j _ => by simp [war, e]]
              · by_cases q2 : i < a
                · rw [if_pos q2, if_pos (by omega)]
                · rw [if_neg q2, if_neg (by omega)])
            rw [e] at hbit
            clear e HA HR
            go_wp2_with fail
            go_roundw
            case rel => exact ⟨a + 1, ca, by go_num, HN, hb2⟩
            case measure => simp [intOf]; omega
          · have ho := hid (u32_or_nat (bsm (war p b a) n) (bsm (war p b b) n) (by omega) (by omega))
            have hrow : Hid (bsm (war p b a) n ||| bsm (war p b b) n = bsm (war p (b + 1) a) n) := hid (by
              rw [bsm_or]
              exact bsm_congr fun j _ => by simp [war, e])
            rw [e] at hbit
            clear e HR
            generalize bsm (war p b a) n = X at x0 hbit l0 ho hrow
            generalize bsm (war p b b) n = Y at x1 l1 ho hrow
            go_wp2_with fail
            go_region
            all_goals
              go_wp2_with fail
              go_roundw
              case rel =>
                rw [ho.out, hrow.out]
                refine ⟨a + 1, ca, by go_num, hid ?_, (hb2.setCell (p := ⟨g, a, none⟩) hg _).drew⟩
                refine ((HA.out.set a _).drew).congr fun j _ => ?_
                unfold fbV
                by_cases q : j = a
                · subst q
                  rw [if_pos rfl, if_pos (by omega)]
                · rw [if_neg q]
                  by_cases q2 : j < a
                  · rw [if_pos q2, if_pos (by omega)]
                  · rw [if_neg q2, if_neg (by omega)]
              case measure => simp [intOf]; omega
        · have HN : Hid (wr.rowIs g 71 n (fbV p n (b + 1) 0)) := hid (HA.out.congr fun i hi => by
            unfold fbV
            rw [if_pos (by omega), if_neg (by omega)])
          clear HA HR
          go_wp2_with fail
          go_roundw
          case rel => exact ⟨b + 1, c, by go_num, HN, hb2⟩
          case measure => simp [intOf]; omega
    · have HN : Hid (wr.rowIs g 71 n (fun i => .int .u32 (bsm (war p n i) n : Int))) := hid (HR.out.congr fun i hi => by
        unfold fbV
        rw [if_neg (by omega), show b = n by omega])
      have gl := HN.out.lt
      clear HR
      go_wp2_with fail
      go_loop [40] (fun iv => ∃ k : Nat, k ≤ n ∧ iv = .int .i64 (k : Int) ∧ Hid (∀ j, j < k → war p n j j = false)) (fun iv => n - (intOf iv).toNat)
      case atStart => exact ⟨0, Nat.zero_le _, rfl, fun j hj => absurd hj (Nat.not_lt_zero j)⟩
      case round =>
        obtain ⟨k, hk, rfl, hno⟩ := hrel
        by_cases ck : k < n
        · have x0 := HN.out.cell ck
          have hbit := bit_test (war p n k) ck hn
          have l0 := bsm20 (war p n k) hn
          rcases e : war p n k k with _ | _
          · have hno' : Hid (∀ j, j < k + 1 → war p n j j = false) := fun j hj => by
              by_cases q : j = k
              · subst q; exact e
              · exact hno.out j (by omega)
            rw [e] at hbit
            clear e hno
            go_wp2_with fail
            go_round
            case rel => exact ⟨k + 1, ck, by go_num, hno'⟩
            case measure => simp [intOf]; omega
          · have R : Hid (FbP p n (.returned (.tuple #[.int .i64 (k : Int), .bool true]))) := .inl ⟨k, rfl, ck, e, hno.out⟩
            rw [e] at hbit
            clear e hno
            go_wp2_with fail
            go_ret2
            exact ⟨R.out, hb1⟩
        · have R : Hid (FbP p n (.returned (.tuple #[.int .i64 0, .bool false]))) := .inr ⟨rfl, fun j hj => hno.out j (by omega)⟩
          clear hno
          go_wp2_with fail
          go_ret2
          exact ⟨R.out, hb1⟩

end Go.Proofs.Ytainajjklakaeaa.Wgp
