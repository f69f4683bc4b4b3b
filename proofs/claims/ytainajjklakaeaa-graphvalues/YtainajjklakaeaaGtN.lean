/-
  The contracts of the two functions that tell a name (the code's and the document's), and the walk of the law GrantNames. Nothing is asked but what each fact names.
-/
import Derived.Test.YtainajjklakaeaaGtA0
import Derived.WalkKit
import Derived.ProofKit
import Derived.OpenShut
import Derived.WalkSpells
import Derived.Laws.RangeAny
namespace Go.Proofs.Ytainajjklakaeaa.Wg
open Go.ChangeShapes Go.WideShapes Go.ChangeAt Go.RowKit Go.Proofs.Ytainajjklakaeaa.M

theorem hid {p : Prop} (h : p) : Hid p := h
theorem ret_b {a b : Bool} (h : a = b) : Ending.returned (.bool a) = .returned (.bool b) := by rw [h]

/-- What a rune must be to be let pass, as numbers. -/
def ltr (r : Int) : Bool := decide ((97 ≤ r ∧ r ≤ 122) ∨ (48 ≤ r ∧ r ≤ 57))
set_option maxRecDepth 100000 in
theorem letter (r : Int) (w : World) : Calls Try.prog 36 #[.int .i32 r] w fun e w' => e = .returned (.bool (ltr r)) ∧ w = w' := by
  by_cases h1 : 97 ≤ r
  · by_cases h2 : r ≤ 122
    · have e : ltr r = true := decide_eq_true (by omega)
      rw [e]
      go_enter Try.func36, Try.ntmps36
      go_wp2
      go_ret
      exact ⟨rfl, rfl⟩
    · have e : ltr r = false := decide_eq_false (by omega)
      rw [e]
      go_enter Try.func36, Try.ntmps36
      go_wp2
      all_goals
        go_ret
        exact ⟨by simp <;> omega, rfl⟩
  · by_cases h2 : 48 ≤ r
    · by_cases h3 : r ≤ 57
      · have e : ltr r = true := decide_eq_true (by omega)
        rw [e]
        go_enter Try.func36, Try.ntmps36
        go_wp2
        go_ret
        exact ⟨rfl, rfl⟩
      · have e : ltr r = false := decide_eq_false (by omega)
        rw [e]
        go_enter Try.func36, Try.ntmps36
        go_wp2
        go_ret
        exact ⟨rfl, rfl⟩
    · have e : ltr r = false := decide_eq_false (by omega)
      rw [e]
      go_enter Try.func36, Try.ntmps36
      go_wp2
      go_ret
      exact ⟨rfl, rfl⟩

theorem ltr_byte (c : UInt8) : ltr (c.toNat : Int) = nmC c := by
  unfold ltr nmC
  rw [Bool.eq_iff_iff, decide_eq_true_iff, decide_eq_true_iff]
  omega

/-- Behind a byte that is no letter of a code a rune is read that is none either. -/
theorem decode_bad {s : ByteArray} {i : Nat} (h : i < s.size) (hc : 128 ≤ s[i].toNat) : ∃ r n, Utf8.decode s i = (r, n) ∧ 128 ≤ r ∧ r < 2147483648 ∧ 1 ≤ n ∧ n ≤ 4 := by
  have e : s.get! (i + 0) = s[i]'h := by
    show s.get! i = _
    simp [ByteArray.get!, getElem!_pos, h]
    rfl
  have hb : (s[i]'h).toNat < 256 := UInt8.toNat_lt _
  have hm : ∀ k, (s.get! (i + k)).toNat % 64 < 64 := fun k => Nat.mod_lt _ (by decide)
  have m1 := hm 1
  have m2 := hm 2
  have m3 := hm 3
  simp only [Utf8.decode, e, Utf8.runeError]
  rw [if_neg (by omega)]
  repeat' split
  all_goals
    try rename_i hh
    try simp only [ge_iff_le, Bool.and_eq_true, decide_eq_true_eq] at hh
    exact ⟨_, _, rfl, by omega, by omega, by omega, by omega⟩

theorem next_any {P : Program} (w : World) (s : ByteArray) (pos : Nat) (ty : TypeId) (h : pos < s.size) {r n : Nat} (hd : Utf8.decode s pos = (r, n)) :
    (Instr.next (.pointer (some ⟨w.heap.size, 0, none⟩)) true ty).run P (w.iter s pos) =
      .ok (.tuple #[.bool true, .int .i64 pos, .int .i32 r]) (w.iter s (pos + n)) := by
  simp only [Instr.next, getObj, setObj, Sem.run_bind, Sem.run, World.iter_heap, Result.andThen, h, if_true, hd, World.iter_set]
  simp [goInt]

theorem iter_below (w : World) (s : ByteArray) (pos : Nat) : Below w.heap.size w (w.iter s pos) := (Below.refl _ _).alloc (Nat.le_refl _) _

set_option maxRecDepth 100000 in
theorem named (s : ByteArray) (w : World) (hs : s.size ≤ 9223372036854775807) : Calls Try.prog 29 #[.string s] w fun e w' => e = .returned (.bool (nmd s)) ∧ Below w.heap.size w w' := by
  have C : Hid _ := fun (r : Int) (w : World) => letter r w
  by_cases h1 : s.size < 1
  · rw [nmd_size (.inl h1)]
    go_enter Try.func29, Try.ntmps29
    go_wp2
    go_ret
    exact ⟨rfl, Below.refl _ _⟩
  by_cases h2 : 16 < s.size
  · rw [nmd_size (.inr h2)]
    go_enter Try.func29, Try.ntmps29
    go_wp2
    go_ret
    exact ⟨rfl, Below.refl _ _⟩
  go_enter Try.func29, Try.ntmps29
  go_wp2
  go_loopw [4] (fun _ w' => ∃ pos : Nat, pos ≤ s.size ∧ w' = w.iter s pos ∧ Hid (∀ i (h : i < s.size), i < pos → nmC s[i] = true)) (fun _ w' => s.size - w'.iterPos w.heap.size)
  case atStart => exact ⟨0, Nat.zero_le _, rfl, fun i _ h => absurd h (Nat.not_lt_zero i)⟩
  case round =>
    obtain ⟨pos, hp, rfl, hyes⟩ := hrel
    by_cases c1 : pos < s.size
    · by_cases c2 : nmC s[pos] = true
      · have hl := nmC_lit c2
        have hnx : ∀ ty, (Instr.next (.pointer (some ⟨w.heap.size, 0, none⟩)) true ty).run Try.prog (w.iter s pos) = _ := fun ty => run_next_ascii w s pos ty c1 hl
        have L1 : Hid _ := fun W => letter (s[pos].toNat : Int) W
        rw [ltr_byte, c2] at L1
        go_wp2_with (go_at_call 36; refine (L1.out _).mono ?_; rintro e w' ⟨rfl, rfl⟩)
        go_roundw
        case rel => exact ⟨pos + 1, c1, rfl, fun i h hi => by
          by_cases e : i = pos
          · subst e; exact c2
          · exact hyes i h (by omega)⟩
        case measure => simp; omega
      · have c2' : nmC s[pos] = false := by simpa using c2
        have hno := nmd_bad c1 c2'
        have hex : ∃ r n, Utf8.decode s pos = (r, n) ∧ Hid (ltr (r : Int) = false) := by
          by_cases hb : s[pos].toNat < 128
          · exact ⟨_, _, decode_ascii s pos c1 hb, by rw [ltr_byte]; exact c2'⟩
          · obtain ⟨r, n, e, q, _⟩ := decode_bad c1 (by omega)
            exact ⟨r, n, e, decide_eq_false (by omega)⟩
        obtain ⟨r, n, hd, hr⟩ := hex
        have hnx : ∀ ty, (Instr.next (.pointer (some ⟨w.heap.size, 0, none⟩)) true ty).run Try.prog (w.iter s pos) = _ := fun ty => next_any w s pos ty c1 hd
        have L1 : Hid _ := fun W => letter (r : Int) W
        rw [hr.out] at L1
        clear hd
        go_wp2_with (go_at_call 36; refine (L1.out _).mono ?_; rintro e w' ⟨rfl, rfl⟩)
        go_ret
        exact ⟨(by first | rfl | exact ret_b hno.symm), iter_below _ _ _⟩
    · have hnx : ∀ ty, (Instr.next (.pointer (some ⟨w.heap.size, 0, none⟩)) true ty).run Try.prog (w.iter s pos) = _ := fun ty => run_next_end w s pos ty c1
      have hok : nmd s = true := nmd_iff.2 ⟨by omega, by omega, fun i h => hyes.out i h (by omega)⟩
      go_wp2
      go_ret
      exact ⟨(by first | rfl | exact ret_b hok.symm), iter_below _ _ _⟩

theorem nmC_in {c : UInt8} (h : nmC c = true) : ((97 ≤ c.toNat ∧ c.toNat ≤ 122) ∨ (c.toNat < 97 ∧ 48 ≤ c.toNat ∧ c.toNat ≤ 57)) := by
  have := of_decide_eq_true h
  omega
theorem nmC_out {c : UInt8} (h : nmC c = false) : (c.toNat < 48 ∨ (57 < c.toNat ∧ c.toNat < 97) ∨ 122 < c.toNat) := by
  have := of_decide_eq_false h
  omega

/-- "pay". -/
def payT : ByteArray := ⟨#[112, 97, 121]⟩
theorem pay_name : nmd payT = true := by decide +kernel

end Go.Proofs.Ytainajjklakaeaa.Wg
