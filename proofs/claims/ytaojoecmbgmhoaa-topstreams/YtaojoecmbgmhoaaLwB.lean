/-
  The walks of the laws' wakes, of a nil stream's calls, and of the law StreamNil: it returns true, and nothing that was in memory has turned. Conditions: none but that the arguments fit their kinds.
-/
import Derived.Test.YtaojoecmbgmhoaaSmK
namespace Go.Proofs.Ytaojoecmbgmhoaa.Wst
open Go.ChangeShapes Go.WideShapes Go.ChangeAt Go.RowKit Go.Proofs.Ytaojoecmbgmhoaa.M Go.Proofs.Ytaojoecmbgmhoaa.Wd

theorem open_calm {W w : World} {D : Nat} {d : Dk} {F : Nat → Prop} (o : One W w D d F) {i n : Nat} {L : List ByteArray} {g : Int} (r : M.Rest d i n L g) (hg : g < 281474976710655) (hk : ∀ j, j < d.k → j ≠ i → (d.r j).q = []) (ha : d.ask = none) :
    Calls Try.prog 9 #[.pointer (some ⟨D, 0, none⟩), .int .i64 (i : Int)] w fun e w' => OkO W w D d F i n L g e w' :=
  (open_rest o r hg hk).mono fun _ _ h => h.elim id fun ⟨_, _, _, _, _, q, _⟩ => absurd ha q
/-- An Append that has room, while nothing is asked. -/
def CaO (W w : World) (S D : Nat) (s : Sm) (d : Dk) (F : Nat → Prop) (n : Nat) (b : ByteArray) (e : Ending) (w' : World) : Prop :=
  e = .returned (.int .i64 0) ∧ Kept (Fs F S) w w' ∧ ∃ d', Ss W w' S D { s with L := s.L ++ [b] } d' (Gr F w w') ∧ On d' { s with L := s.L ++ [b] } n ∧ (∀ j, j ≠ s.i → d'.r j = d.r j) ∧ d'.k = d.k ∧ d'.ask = none
theorem append_calm {W w : World} {S D : Nat} {s : Sm} {d : Dk} {F : Nat → Prop} {n : Nat} (h : Ss W w S D s d F) (o : On d s n) (hk : ∀ j, j < d.k → j ≠ s.i → (d.r j).q = []) (b : ByteArray) (hb : b.size ≤ maxLen) (ha : d.ask = none) (hE : s.apE b = 0) :
    Calls Try.prog 12 #[.pointer (some ⟨S, 0, none⟩), .string b] w fun e w' => CaO W w S D s d F n b e w' :=
  (append_on h o hk b hb).mono fun e w' ⟨k, c⟩ => by
    rcases c with ⟨q, _⟩ | ⟨_, q2, d', q3, q4, q5, q6, q7⟩ | ⟨_, _, q, _⟩
    · exact absurd hE q
    · exact ⟨q2, k, d', q3, q4, q5, q6, q7 ha⟩
    · exact absurd ha q
theorem apE_of {d : Dk} {s : Sm} {n : Nat} (o : On d s n) (b : ByteArray) : s.apE b = if frE b = 0 then if s.left < (b.size : Int) + 6 then 12 else 0 else frE b := by
  unfold Sm.apE
  rw [o.br, if_neg (by decide)]
  by_cases c : frE b = 0
  · rw [if_pos c, if_pos c]
    have : ((fr b).size : Int) = (b.size : Int) + 6 := by rw [fr_size]; omega
    rw [this]
  · rw [if_neg c, if_neg c]
theorem On.leftN {d : Dk} {s : Sm} {n : Nat} (o : On d s n) : s.left = 55 * (((n - 1) / 2 : Nat) : Int) - 1 - ((frs s.L).size : Int) := by
  unfold Sm.left
  rw [o.h]

set_option maxRecDepth 100000 in
theorem openN (a : Int) (w : World) : Calls Try.prog 9 #[.pointer none, .int .i64 a] w fun e w' => e = .returned (.tuple #[.pointer none, .slice none 0 0, .int .i64 1]) ∧ w = w' := by
  go_enter Try.func9, Try.ntmps9
  go_wp2
  go_ret3
  exact ⟨rfl, rfl⟩

set_option maxRecDepth 100000 in
theorem appendN (b : ByteArray) (w : World) : Calls Try.prog 12 #[.pointer none, .string b] w fun e w' => e = .returned (.int .i64 1) ∧ w = w' := by
  have C := hid usableN
  go_enter Try.func12, Try.ntmps12
  go_wp2_with fail
  refine (C.out _).mono ?_
  rintro e w1 ⟨rfl, rfl⟩
  go_wp2
  go_ret
  exact ⟨rfl, rfl⟩

set_option maxRecDepth 100000 in
theorem resetN (p : Option Addr) (n cap : Nat) (w : World) : Calls Try.prog 21 #[.pointer none, .slice p n cap] w fun e w' => e = .returned (.int .i64 1) ∧ w = w' := by
  have C := hid usableN
  go_enter Try.func21, Try.ntmps21
  go_wp2_with fail
  refine (C.out _).mono ?_
  rintro e w1 ⟨rfl, rfl⟩
  go_wp2
  go_ret
  exact ⟨rfl, rfl⟩

end Go.Proofs.Ytaojoecmbgmhoaa.Wst
