/-
  Plain facts on texts laid as bytes: two bytes that tell the length, then the text. Nothing is asked but the bounds that each fact names.
-/
import Derived.WalkKit
import Derived.Test.YtainajjklakaeaaMathG
namespace Go.Proofs.Ytainajjklakaeaa.M

/-- The error of a Text; 0: none. -/
def tE (s : ByteArray) : Int := if 65535 < s.size then 5 else 0
/-- The bytes of a Text. -/
def tB (s : ByteArray) : ByteArray := if 65535 < s.size then ⟨#[]⟩ else beB 2 (s.size : Int) ++ s
theorem t_long {s : ByteArray} (h : 65535 < s.size) : tE s = 5 ∧ tB s = ⟨#[]⟩ := by unfold tE tB; rw [if_pos h, if_pos h]; exact ⟨rfl, rfl⟩
theorem t_ok {s : ByteArray} (h : ¬ 65535 < s.size) : tE s = 0 ∧ tB s = beB 2 (s.size : Int) ++ s := by unfold tE tB; rw [if_neg h, if_neg h]; exact ⟨rfl, rfl⟩

/-- The error of a GetText; 0: none. -/
def xE (s : ByteArray) (at_ : Int) : Int := if gE s at_ 2 ≠ 0 then gE s at_ 2 else if (s.size : Int) - gX s at_ 2 < gN s at_ 2 then 3 else 0
/-- The text of a GetText. -/
def xB (s : ByteArray) (at_ : Int) : ByteArray := if xE s at_ = 0 then s.extract (gX s at_ 2).toNat ((gX s at_ 2).toNat + (gN s at_ 2).toNat) else ⟨#[]⟩
/-- The place behind it. -/
def xX (s : ByteArray) (at_ : Int) : Int := if xE s at_ = 0 then gX s at_ 2 + gN s at_ 2 else 0
theorem x_err {s : ByteArray} {at_ : Int} (h : gE s at_ 2 ≠ 0) : xE s at_ = gE s at_ 2 ∧ xB s at_ = ⟨#[]⟩ ∧ xX s at_ = 0 := by
  have e : xE s at_ = gE s at_ 2 := by unfold xE; rw [if_pos h]
  refine ⟨e, ?_, ?_⟩
  · unfold xB; rw [e, if_neg h]
  · unfold xX; rw [e, if_neg h]
theorem x_short {s : ByteArray} {at_ : Int} (h : gE s at_ 2 = 0) (h2 : (s.size : Int) - gX s at_ 2 < gN s at_ 2) : xE s at_ = 3 ∧ xB s at_ = ⟨#[]⟩ ∧ xX s at_ = 0 := by
  have e : xE s at_ = 3 := by unfold xE; rw [if_neg (by omega), if_pos h2]
  refine ⟨e, ?_, ?_⟩
  · unfold xB; rw [e, if_neg (by decide)]
  · unfold xX; rw [e, if_neg (by decide)]
theorem x_ok {s : ByteArray} {at_ : Int} (h : gE s at_ 2 = 0) (h2 : ¬ (s.size : Int) - gX s at_ 2 < gN s at_ 2) :
    xE s at_ = 0 ∧ xB s at_ = s.extract (gX s at_ 2).toNat ((gX s at_ 2).toNat + (gN s at_ 2).toNat) ∧ xX s at_ = gX s at_ 2 + gN s at_ 2 := by
  have e : xE s at_ = 0 := by unfold xE; rw [if_neg (by omega), if_neg h2]
  refine ⟨e, ?_, ?_⟩
  · unfold xB; rw [e, if_pos rfl]
  · unfold xX; rw [e, if_pos rfl]
/-- What a Get of two bytes that went well says. -/
theorem g_two {s : ByteArray} {at_ : Int} (h : gE s at_ 2 = 0) : 0 ≤ gN s at_ 2 ∧ gN s at_ 2 < 65536 ∧ 0 ≤ gX s at_ 2 ∧ gX s at_ 2 ≤ (s.size : Int) := by
  by_cases c0 : (2 : Int) < 1 ∨ 8 < (2 : Int) ∨ at_ < 0 ∨ (s.size : Int) < at_
  · have := (g_arg c0).1; omega
  · by_cases c1 : (s.size : Int) - at_ < 2
    · have := (g_short c0 c1).1; omega
    · obtain ⟨_, e2, e3⟩ := g_ok c0 c1
      have h1 := num_range s at_.toNat (2 : Int).toNat
      have e : (256 : Int) ^ (2 : Int).toNat = 65536 := by decide
      omega

end Go.Proofs.Ytainajjklakaeaa.M
