/-
  The walk of the law MacSame: it returns true, and nothing that was in memory has turned. Conditions: texts of at most 2^47 bytes.
-/
import Derived.Test.YtpmmffihibhlhaaRows
import Derived.Test.YtpmmffihibhlhaaMSame
import Derived.WalkKit
import Derived.ProofKit
import Derived.OpenShut
import Derived.WalkSpells
import Derived.WalkSmall
import Derived.Laws.IdiomStrings
namespace Go.Proofs.Ytpmmffihibhlhaa.Wm
open Go.ChangeShapes Go.WideShapes Go.ChangeAt Go.RowKit Go.Proofs.Ytpmmffihibhlhaa.M

theorem add_at (g j : Nat) : (⟨g, 0, none⟩ : Addr).add j = ⟨g, j, none⟩ := by
  unfold Addr.add
  split
  · rename_i h; rw [h]
  · simp
/-- A text turned into bytes of its own. -/
theorem bytes_of (S : ByteArray) (u : World) : ∃ cap u', (convert 9 23 (.string S)).run Try.prog u = .ok (.slice (some ⟨u.heap.size, 0, none⟩) S.size cap) u' ∧
    (∀ j, j < S.size → u'.cell? ⟨u.heap.size, j, none⟩ = some (.int .u8 (bx S j : Int))) ∧ (∀ j, j < S.size → u'.frozen? ⟨u.heap.size, j, none⟩ = false) ∧ Below u.heap.size u u' ∧ u.heap.size < u'.heap.size := by
  refine ⟨_, _, run_bytes_of_string u 9 23 5 S Try.underlying9 Try.underlying23 Try.underlying5, fun j hj => ?_, fun j hj => ?_, ?_, ?_⟩
  · have h := World.cell?_alloc_mark u.drew (bytesRow S (grownCap u S.size 0 5)) 5 ((bytesRow S (grownCap u S.size 0 5)).size, (bytesRow S (grownCap u S.size 0 5)).size + 1) j
    rw [bytesRow_at S _ j hj] at h
    have e := get_bt S j hj
    rw [bx_int, ← e]
    exact h
  · have h := World.frozen?_alloc_mark u.drew (bytesRow S (grownCap u S.size 0 5)) 5 (bytesRow S (grownCap u S.size 0 5)).size ((bytesRow S (grownCap u S.size 0 5)).size + 1) j
    have hz : S.size ≤ (bytesRow S (grownCap u S.size 0 5)).size := by
      unfold bytesRow
      rw [Array.size_append, Array.size_map]
      exact Nat.le_add_right _ _
    rw [decide_eq_false (by omega), Bool.false_and] at h
    exact h
  · exact ((Below.refl _ _).drew).alloc (Nat.le_refl _) _
  · show u.heap.size < (u.heap.push _).size
    rw [Array.size_push]
    omega
/-- Bytes of which one was stored, turned back into a text. -/
theorem back_of {S : ByteArray} {u' U : World} {g cap p : Nat} (v : UInt8) (hU : ∀ a, U.cell? a = (u'.setCell ⟨g, p, none⟩ (.int .u8 (v.toNat : Int))).cell? a) (hc : ∀ j, j < S.size → u'.cell? ⟨g, j, none⟩ = some (.int .u8 (bx S j : Int))) :
    (convert 23 9 (.slice (some ⟨g, 0, none⟩) S.size cap)).run Try.prog U = .ok (.string (setC S p v)) U := by
  have hl : (S.data.toList.set p v).length = S.size := by simp
  have h := run_convert_bytes_back (P := Try.prog) U 23 9 5 ⟨g, 0, none⟩ cap (S.data.toList.set p v) Try.underlying23 Try.underlying5 Try.underlying9 (fun j hj => by
    have hj' : j < S.size := by rw [hl] at hj; exact hj
    rw [add_at, hU]
    by_cases c : p = j
    · subst c
      rw [World.cell?_setCell_same' u' ⟨g, p, none⟩ _ (by rw [hc p hj']; rfl)]
      simp
    · rw [World.cell?_setCell_other (a := ⟨g, p, none⟩) (b := ⟨g, j, none⟩) (w := u') (h := fun h => c (by injection h)), hc j hj', List.getElem_set_ne c, bx_int, ← get_bt S j hj']
      rfl)
  rw [hl] at h
  exact h
theorem flip_val {x : Nat} (hx : x < 256) : bits .xor .u8 (x : Int) 1 = ((UInt8.ofNat (x ^^^ 1)).toNat : Int) := by
  have h := u8_xor_nat x 1 hx (by decide)
  have h2 : x ^^^ 1 < 256 := xor_byte hx (by decide)
  rw [UInt8.toNat_ofNat', Nat.mod_eq_of_lt (by omega)]
  exact h
theorem flip_ne (x : Nat) : ¬ x ^^^ 1 = x := by
  intro h
  have h2 : x ^^^ (x ^^^ 1) = x ^^^ x := by rw [h]
  rw [← Nat.xor_assoc, Nat.xor_self, Nat.zero_xor] at h2
  omega
theorem flip_other {S : ByteArray} {p : Nat} (hp : p < S.size) : ¬ S = setC S p (UInt8.ofNat (bx S p ^^^ 1)) := by
  apply setC_other hp
  intro h
  have h1 := congrArg UInt8.toNat h
  rw [UInt8.toNat_ofNat', Nat.mod_eq_of_lt (show bx S p ^^^ 1 < 2 ^ 8 from xor_byte (bx_lt S p) (by decide)), ← bx_get hp] at h1
  exact flip_ne _ h1
theorem none_of {b : ByteArray} (h : b.size = 0) : b = ⟨#[]⟩ := by
  apply ByteArray.ext
  exact Array.eq_empty_of_size_eq_zero h

theorem full_of {b : ByteArray} (h : ¬ b.size = 0) : b.toList.isEmpty = false := by
  have e := decide_eq_emptyBytes b
  rw [← e]
  apply decide_eq_false
  rintro rfl
  exact h rfl

theorem law (a b : ByteArray) (n : Int) (w : World) (ha : a.size ≤ 140737488355328) (hb : b.size ≤ 140737488355328) (_ : -9223372036854775808 ≤ n) (_ : n < 9223372036854775808) :
    Calls Try.prog 3 #[.string a, .string b, .int .i64 n] w fun e w' => e = .returned (.bool true) ∧ Below w.heap.size w w' := by
  have C0 : Hid (∀ w, Calls Try.prog 4 #[.string ⟨#[97]⟩, .string ⟨#[97]⟩] w fun e w' => e = .returned (.bool true) ∧ w = w') := fun w => by
    have h := same ⟨#[97]⟩ ⟨#[97]⟩ w (by decide) (by decide)
    rwa [decide_eq_true rfl] at h
  have C1 : Hid (∀ w, Calls Try.prog 4 #[.string a, .string b] w fun e w' => e = .returned (.bool (decide (a = b))) ∧ w = w') := fun w => same a b w (by omega) (by omega)
  have C2 : Hid (∀ w, Calls Try.prog 5 #[.string a, .string b] w fun e w' => e = .returned (.bool (decide (a = b))) ∧ w = w') := fun w => sameRef a b w
  have C3 : Hid (∀ w, Calls Try.prog 4 #[.string a, .string a] w fun e w' => e = .returned (.bool true) ∧ w = w') := fun w => by
    have h := same a a w (by omega) (by omega)
    rwa [decide_eq_true rfl] at h
  have C4 : Hid (∀ w, Calls Try.prog 4 #[.string a, .string (a ++ ⟨#[0]⟩)] w fun e w' => e = .returned (.bool false) ∧ w = w') := fun w => by
    have h := same a (a ++ ⟨#[0]⟩) w (by omega) (by rw [ByteArray.size_append]; show a.size + 1 ≤ _; omega)
    rwa [decide_eq_false (app_other a)] at h
  have C5 : Hid (∀ w, Calls Try.prog 4 #[.string (⟨#[0]⟩ ++ a), .string a] w fun e w' => e = .returned (.bool false) ∧ w = w') := fun w => by
    have h := same (⟨#[0]⟩ ++ a) a w (by rw [ByteArray.size_append]; show 1 + a.size ≤ _; omega) (by omega)
    rwa [decide_eq_false (pre_other a)] at h
  generalize decide (a = b) = t at C1 C2
  have HF : Hid (∀ p, p < a.size → ¬ a = setC a p (UInt8.ofNat (bx a p ^^^ 1))) := fun p hp => flip_other hp
  go_enter Try.func3, Try.ntmps3
  go_wp2_with fail
  refine (C0.out _).mono ?_
  rintro e w1 ⟨rfl, rfl⟩
  go_wp2_with fail
  refine (C1.out _).mono ?_
  rintro e w1 ⟨rfl, rfl⟩
  go_wp2_with fail
  refine (C2.out _).mono ?_
  rintro e w1 ⟨rfl, rfl⟩
  go_wp2_with fail
  refine (C3.out _).mono ?_
  rintro e w1 ⟨rfl, rfl⟩
  go_wp2_with fail
  refine (C4.out _).mono ?_
  rintro e w1 ⟨rfl, rfl⟩
  go_wp2_with fail
  refine (C5.out _).mono ?_
  rintro e w1 ⟨rfl, rfl⟩
  clear C0 C1 C2 C3 C4 C5
  by_cases h0 : a.size = 0
  · have he := none_of h0
    subst he
    clear HF
    go_wp2
    go_ret
    exact ⟨rfl, Below.refl _ _⟩
  · have hne := full_of h0
    obtain ⟨cap, u', hcv, hcell, hfz, hbel, hlt⟩ := bytes_of a w
    have hcs : (0 < n ∧ ∃ p : Nat, n % (a.size : Int) = (p : Int) ∧ p < a.size) ∨ (¬ 0 < n ∧ ∃ p : Nat, p = 0 ∧ p < a.size) := by
      by_cases h : 0 < n
      · exact .inl ⟨h, (n % (a.size : Int)).toNat, by have := Int.emod_nonneg n (show (a.size : Int) ≠ 0 by omega); omega, by have := Int.emod_lt_of_pos n (show (0 : Int) < (a.size : Int) by omega); have := Int.emod_nonneg n (show (a.size : Int) ≠ 0 by omega); omega⟩
      · exact .inr ⟨h, 0, rfl, by omega⟩
    rcases hcs with ⟨hn, p, hp, hpl⟩ | ⟨hn, p, rfl, hpl⟩
    · have hc := hcell p hpl
      have hz := hfz p hpl
      have hv := flip_val (bx_lt a p)
      have hb1 := back_of (u' := u') (U := u'.setCell ⟨w.heap.size, p, none⟩ (.int .u8 ((UInt8.ofNat (bx a p ^^^ 1)).toNat : Int))) (g := w.heap.size) (cap := cap) (p := p) (UInt8.ofNat (bx a p ^^^ 1)) (fun _ => rfl) hcell
      have hne2 := HF.out p hpl
      have hsz := setC_size a p (UInt8.ofNat (bx a p ^^^ 1))
      generalize bx a p = x at hc hv hb1 hne2 hsz
      generalize UInt8.ofNat (x ^^^ 1) = v at hv hb1 hne2 hsz
      have C6 : Hid (∀ w, Calls Try.prog 4 #[.string a, .string (setC a p v)] w fun e w' => e = .returned (.bool false) ∧ w = w') := fun w => by
        have h := same a (setC a p v) w (by omega) (by omega)
        rwa [decide_eq_false hne2] at h
      have C7 : Hid (∀ w, Calls Try.prog 4 #[.string (setC a p v), .string a] w fun e w' => e = .returned (.bool false) ∧ w = w') := fun w => by
        have h := same (setC a p v) a w (by omega) (by omega)
        rwa [decide_eq_false (fun e => hne2 e.symm)] at h
      clear hcell hfz HF hne2
      generalize setC a p v = S at *
      go_wp2_with fail
      refine (C6.out _).mono ?_
      rintro e w1 ⟨rfl, rfl⟩
      go_wp2_with fail
      refine (C7.out _).mono ?_
      rintro e w1 ⟨rfl, rfl⟩
      go_wp2
      go_ret
      exact ⟨rfl, hbel.setCell (p := ⟨_, _, none⟩) (by simp) _⟩
    · have hc := hcell 0 hpl
      have hz := hfz 0 hpl
      have hv := flip_val (bx_lt a 0)
      have hb1 := back_of (u' := u') (U := u'.setCell ⟨w.heap.size, 0, none⟩ (.int .u8 ((UInt8.ofNat (bx a 0 ^^^ 1)).toNat : Int))) (g := w.heap.size) (cap := cap) (p := 0) (UInt8.ofNat (bx a 0 ^^^ 1)) (fun _ => rfl) hcell
      have hne2 := HF.out 0 hpl
      have hsz := setC_size a 0 (UInt8.ofNat (bx a 0 ^^^ 1))
      generalize bx a 0 = x at hc hv hb1 hne2 hsz
      generalize UInt8.ofNat (x ^^^ 1) = v at hv hb1 hne2 hsz
      have C6 : Hid (∀ w, Calls Try.prog 4 #[.string a, .string (setC a 0 v)] w fun e w' => e = .returned (.bool false) ∧ w = w') := fun w => by
        have h := same a (setC a 0 v) w (by omega) (by omega)
        rwa [decide_eq_false hne2] at h
      have C7 : Hid (∀ w, Calls Try.prog 4 #[.string (setC a 0 v), .string a] w fun e w' => e = .returned (.bool false) ∧ w = w') := fun w => by
        have h := same (setC a 0 v) a w (by omega) (by omega)
        rwa [decide_eq_false (fun e => hne2 e.symm)] at h
      clear hcell hfz HF hne2
      generalize setC a 0 v = S at *
      go_wp2_with fail
      refine (C6.out _).mono ?_
      rintro e w1 ⟨rfl, rfl⟩
      go_wp2_with fail
      refine (C7.out _).mono ?_
      rintro e w1 ⟨rfl, rfl⟩
      go_wp2
      go_ret
      exact ⟨rfl, hbel.setCell (p := ⟨_, _, none⟩) (by simp) _⟩

end Go.Proofs.Ytpmmffihibhlhaa.Wm
