/-
  The walks of pack.Num, Str and All: a number, a text, a list as a value; a list in new memory, down to its innermost. Nothing that was in memory has turned. Conditions: none but that the values can be read and fit a machine.
-/
import Derived.Test.YtainajjklakaeaaCopied
namespace Go.Proofs.Ytainajjklakaeaa.Wy
open Go.ChangeShapes Go.WideShapes Go.ChangeAt Go.RowKit Go.Proofs.Ytainajjklakaeaa.M Go.Proofs.Ytainajjklakaeaa.We

theorem num (n : Int) (w : World) : Calls Try.prog 34 #[.int .i64 n] w fun e w' => e = .returned (.agg #[.int .i64 0, .int .i64 n, .string ⟨#[]⟩, .slice none 0 0]) ∧ Below w.heap.size w w' := by
  go_enter Try.func34, Try.ntmps34
  go_wp2_with fail
  exact bodyPost_ret (v := .agg #[.int .i64 0, .int .i64 n, .string ⟨#[]⟩, .slice none 0 0]) (by simp [results, Try.results34, go_sem]) rfl ⟨rfl, (Below.refl _ _).alloc (Nat.le_refl _) _⟩

theorem str (s : ByteArray) (w : World) (hs : s.size ≤ 281474976710656) : Calls Try.prog 22 #[.string s] w fun e w' => e = .returned (.agg #[.int .i64 1, .int .i64 0, .string s, .slice none 0 0]) ∧ Below w.heap.size w w' := by
  go_enter Try.func22, Try.ntmps22
  go_wp2_with fail
  refine (Wc.clone _ _ hs).mono ?_
  rintro e w1 ⟨rfl, b1⟩
  obtain ⟨hcc, hff⟩ := bcell b1
  go_wp2_with fail
  exact bodyPost_ret (v := .agg #[.int .i64 1, .int .i64 0, .string s, .slice none 0 0]) (by simp [results, Try.results22, go_sem, hcc]) rfl ⟨rfl, put4_below (((Below.refl _ _).alloc (Nat.le_refl _) _).trans (b1.mono (by simp))) (Nat.le_refl _) _ _ _ _⟩

theorem all (f : F) (L : Value) (w : World) (A : Nat → Prop) (hM : f.nodes ≤ 1000000) (hok : f.ok) (hL : Rd w A L f) :
    Calls Try.prog 21 #[L] w fun e w' => ∃ p' cap', e = .returned (.agg #[.int .i64 2, .int .i64 0, .string ⟨#[]⟩, .slice p' f.len cap']) ∧ Rd w' (fun g => w.heap.size ≤ g) (.slice p' f.len cap') f ∧ Below w.heap.size w w' := by
  go_enter Try.func21, Try.ntmps21
  go_wp2_with fail
  refine (copied _ _ _ _ _ (Nat.lt_succ_self _) hM hok (rd_below hL ((Below.refl _ _).alloc (Nat.le_refl _) _))).mono ?_
  rintro e w1 ⟨p', cap', rfl, hR, b1⟩
  obtain ⟨hcc, hff⟩ := bcell b1
  go_wp2_with fail
  refine bodyPost_ret (v := .agg #[.int .i64 2, .int .i64 0, .string ⟨#[]⟩, .slice p' f.len cap']) (by simp [results, Try.results21, go_sem, hcc]) rfl ⟨p', cap', rfl, ?_, put4_below (((Below.refl _ _).alloc (Nat.le_refl _) _).trans (b1.mono (by simp))) (Nat.le_refl _) _ _ _ _⟩
  exact rd_of (fun g hg => by simp at hg; omega) (fun g hg o h => (put4_other (by simp at hg; omega)).trans h) hR

end Go.Proofs.Ytainajjklakaeaa.Wy
