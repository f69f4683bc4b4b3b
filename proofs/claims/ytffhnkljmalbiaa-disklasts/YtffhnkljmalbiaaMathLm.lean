/-
  Plain facts on what lasts behind a loss of power: each sector is what lasted ahead or one of the writes to it; if all are kept, the last one. Nothing is asked but what each fact names.
-/
import Derived.Test.YtffhnkljmalbiaaMathDk
namespace Go.Proofs.Ytffhnkljmalbiaa.M

/-- What a sector may be: what lasts, and the first m writes to it, in order. -/
def may (s : Nat → ByteArray) (q : List (Nat × ByteArray)) (k : Nat) : Nat → List ByteArray
  | 0 => [s k]
  | m + 1 => if (qx q m).1 = k then may s q k m ++ [(qx q m).2] else may s q k m
theorem may_yes {s : Nat → ByteArray} {q : List (Nat × ByteArray)} {k m : Nat} (h : (qx q m).1 = k) : may s q k (m + 1) = may s q k m ++ [(qx q m).2] := if_pos h
theorem may_no {s : Nat → ByteArray} {q : List (Nat × ByteArray)} {k m : Nat} (h : ¬ (qx q m).1 = k) : may s q k (m + 1) = may s q k m := if_neg h
theorem may_pos (s : Nat → ByteArray) (q : List (Nat × ByteArray)) (k : Nat) : ∀ m, 0 < (may s q k m).length
  | 0 => by show 0 < 1; omega
  | m + 1 => by
    have := may_pos s q k m
    by_cases c : (qx q m).1 = k
    · rw [may_yes c, List.length_append]; omega
    · rw [may_no c]; exact this
theorem may_length (s : Nat → ByteArray) (q : List (Nat × ByteArray)) (k : Nat) : ∀ m, (may s q k m).length ≤ m + 1
  | 0 => by show 1 ≤ 1; omega
  | m + 1 => by
    have := may_length s q k m
    by_cases c : (qx q m).1 = k
    · rw [may_yes c, List.length_append]; simp; omega
    · rw [may_no c]; omega
theorem may_app {s : Nat → ByteArray} {q : List (Nat × ByteArray)} {x : Nat × ByteArray} (k : Nat) : ∀ m, m ≤ q.length → may s (q ++ [x]) k m = may s q k m
  | 0, _ => rfl
  | m + 1, h => by
    have e := qx_app (q := q) (x := x) (k := m) (by omega)
    by_cases c : (qx q m).1 = k
    · rw [may_yes c, may_yes (by rw [e]; exact c), e, may_app k m (by omega)]
    · rw [may_no c, may_no (by rw [e]; exact c), may_app k m (by omega)]
/-- One write more. -/
theorem may_put (s : Nat → ByteArray) (q : List (Nat × ByteArray)) (a k : Nat) (x : ByteArray) : may s (q ++ [(a, x)]) k (q ++ [(a, x)]).length = if a = k then may s q k q.length ++ [x] else may s q k q.length := by
  have hl : (q ++ [(a, x)]).length = q.length + 1 := by simp
  have e := qx_last q (a, x)
  rw [hl]
  by_cases c : a = k
  · rw [may_yes (by rw [e]; exact c), e, if_pos c, may_app k _ (Nat.le_refl _)]
  · rw [may_no (by rw [e]; exact c), if_neg c, may_app k _ (Nat.le_refl _)]
/-- What lasts is among them. -/
theorem stL_may (kp : Nat → Bool) (s : Nat → ByteArray) (q : List (Nat × ByteArray)) (k : Nat) : ∀ m, stL kp s q m k ∈ may s q k m
  | 0 => by simp [stL, may]
  | m + 1 => by
    have ih := stL_may kp s q k m
    cases hk : kp m
    · rw [stL_no hk]
      by_cases c : (qx q m).1 = k
      · rw [may_yes c]; exact List.mem_append_left _ ih
      · rw [may_no c]; exact ih
    · rw [stL_yes hk]
      by_cases c : (qx q m).1 = k
      · rw [may_yes c, ← c, upd_at]
        exact List.mem_append_right _ (List.mem_singleton.2 rfl)
      · rw [may_no c, upd_off _ _ (fun e => c e.symm)]; exact ih
/-- If all are kept it is the last one. -/
theorem stL_all {kp : Nat → Bool} (hk : ∀ m, kp m = true) (s : Nat → ByteArray) (q : List (Nat × ByteArray)) (k : Nat) : ∀ m, (may s q k m).getLast? = some (stL kp s q m k)
  | 0 => by simp [stL, may]
  | m + 1 => by
    have ih := stL_all hk s q k m
    rw [stL_yes (hk m)]
    by_cases c : (qx q m).1 = k
    · rw [may_yes c, ← c, upd_at, List.getLast?_concat]
    · rw [may_no c, upd_off _ _ (fun e => c e.symm)]; exact ih
/-- All sixty-four bits keep all. -/
theorem kb_all (m : Nat) : kb [18446744073709551615] 0 m = true := by
  show (if 0 < 1 then bitB 18446744073709551615 ((m % 64 : Nat) : Int) else false) = true
  rw [if_pos (by omega)]
  unfold bitB
  have e : (18446744073709551615 : Int).toNat = 2 ^ 64 - 1 := by decide
  rw [e, Int.toNat_natCast, Nat.testBit_two_pow_sub_one]
  have h : m % 64 < 64 := Nat.mod_lt _ (by omega)
  simp [h]
  omega

end Go.Proofs.Ytffhnkljmalbiaa.M
