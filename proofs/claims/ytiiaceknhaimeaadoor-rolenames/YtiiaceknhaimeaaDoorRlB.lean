/-
  The walks of role's calls and of the document's: each returns what 'al', 'mk', 'le', 'nm', 'fnd' say, and nothing that was in memory has turned. Conditions: the numbers fit their kinds; the tables of masks and of names hold what they were laid with.
-/
import Derived.Test.YtiiaceknhaimeaaDoorRows
import Derived.Test.YtiiaceknhaimeaaDoorRlA
import Derived.WalkKit
import Derived.ProofKit
import Derived.OpenShut
import Derived.BigQuiet
namespace Go.Proofs.YtiiaceknhaimeaaDoor.Wrl
open Go.ChangeShapes Go.WideShapes Go.ChangeAt Go.RowKit Go.Proofs.YtiiaceknhaimeaaDoor.M

theorem hid {p : Prop} (h : p) : Hid p := h

/-- The table of masks; of names. -/
def TabM (w : World) : Prop := ∀ i, i < 5 → w.cell? ⟨0, i, none⟩ = some (.int .u32 ((mkN i : Nat) : Int))
def TabN (w : World) : Prop := ∀ i, i < 10 → w.cell? ⟨1, i, none⟩ = some (.string (nm i))

set_option maxRecDepth 100000 in
theorem mask (r : Int) (w : World) (h1 : -9223372036854775808 ≤ r) (h2 : r < 9223372036854775808) (hT : TabM w) :
    Calls Tryd.prog 9 #[.int .i64 r] w fun e w' => e = .returned (.int .u32 (mk r)) ∧ w = w' := by
  by_cases c0 : r < 0
  · have E := hid (mk_neg c0)
    go_enter Tryd.func9, Tryd.ntmps9
    go_wp2
    go_ret
    exact ⟨by rw [E.out] <;> rfl, rfl⟩
  by_cases c5 : 5 ≤ r
  · have E := hid (mk_big c5)
    go_enter Tryd.func9, Tryd.ntmps9
    go_wp2
    go_ret
    exact ⟨by rw [E.out] <;> rfl, rfl⟩
  obtain ⟨i, rfl⟩ : ∃ i : Nat, r = (i : Int) := ⟨r.toNat, by omega⟩
  have hc := hT i (by omega)
  have E := hid (mk_nat i)
  have hi : i < 5 := by omega
  generalize mkN i = m at hc E
  clear c0 c5 h1 h2 hT
  go_enter Tryd.func9, Tryd.ntmps9
  go_wp2
  go_ret
  exact ⟨by rw [E.out] <;> rfl, rfl⟩

/-- Is the number an op's? -/
def knB (o : Int) : Bool := decide (0 ≤ o ∧ o < 10)
set_option maxRecDepth 100000 in
theorem known (o : Int) (w : World) :
    Calls Tryd.prog 17 #[.int .i64 o] w fun e w' => e = .returned (.bool (knB o)) ∧ w = w' := by
  by_cases c0 : 0 ≤ o
  · by_cases c1 : o < 10
    · have E : Hid (knB o = true) := decide_eq_true ⟨c0, c1⟩
      go_enter Tryd.func17, Tryd.ntmps17
      go_wp2
      go_ret
      exact ⟨by rw [E.out] <;> rfl, rfl⟩
    · have E : Hid (knB o = false) := decide_eq_false (by omega)
      go_enter Tryd.func17, Tryd.ntmps17
      go_wp2
      go_ret
      exact ⟨by rw [E.out] <;> rfl, rfl⟩
  · have E : Hid (knB o = false) := decide_eq_false (by omega)
    go_enter Tryd.func17, Tryd.ntmps17
    go_wp2
    go_ret
    exact ⟨by rw [E.out] <;> rfl, rfl⟩

set_option maxRecDepth 100000 in
theorem allows (r o : Int) (w : World) (h1 : -9223372036854775808 ≤ r) (h2 : r < 9223372036854775808) (hT : TabM w) :
    Calls Tryd.prog 7 #[.int .i64 r, .int .i64 o] w fun e w' => e = .returned (.bool (al r o)) ∧ w = w' := by
  have CM := hid (mask r w h1 h2 hT)
  have CK := hid (known o w)
  by_cases c : 0 ≤ o ∧ o < 10
  · rw [show knB o = true from decide_eq_true c] at CK
    obtain ⟨n, rfl⟩ : ∃ n : Nat, o = (n : Int) := ⟨o.toNat, by omega⟩
    rw [al_bt r n (by omega)]
    have hm : mk r = 0 ∨ mk r = 1 ∨ mk r = 7 ∨ mk r = 31 ∨ mk r = 1023 := by
      rcases mk_cases r with ⟨_, e⟩ | ⟨_, e⟩ | ⟨_, e⟩ | ⟨_, e⟩ | ⟨_, e⟩ <;> omega
    have hn : n = 0 ∨ n = 1 ∨ n = 2 ∨ n = 3 ∨ n = 4 ∨ n = 5 ∨ n = 6 ∨ n = 7 ∨ n = 8 ∨ n = 9 := by omega
    generalize mk r = m at CM hm
    clear c hT
    rcases hm with rfl | rfl | rfl | rfl | rfl
    all_goals
      rcases hn with rfl | rfl | rfl | rfl | rfl | rfl | rfl | rfl | rfl | rfl
    all_goals
      go_enter Tryd.func7, Tryd.ntmps7
      go_wp2_with fail
      refine CK.out.mono ?_
      rintro e w1 ⟨rfl, rfl⟩
      go_wp2_with fail
      refine CM.out.mono ?_
      rintro e w1 ⟨rfl, rfl⟩
      go_wp2
      go_ret
      exact ⟨rfl, rfl⟩
  · rw [show knB o = false from decide_eq_false c] at CK
    have E := hid (al_none r (o := o) (by omega))
    clear c hT
    go_enter Tryd.func7, Tryd.ntmps7
    go_wp2_with fail
    refine CK.out.mono ?_
    rintro e w1 ⟨rfl, rfl⟩
    go_wp2
    go_ret
    exact ⟨by rw [E.out] <;> rfl, rfl⟩

theorem eq0 (o : Int) : (o == 0) = decide (o = 0) := by rw [Bool.eq_iff_iff]; simp

set_option maxRecDepth 100000 in
theorem allowsRef (r o : Int) (w : World) :
    Calls Tryd.prog 8 #[.int .i64 r, .int .i64 o] w fun e w' => e = .returned (.bool (al r o)) ∧ w = w' := by
  by_cases c : o < 0
  · have E := hid (al_none r (o := o) (.inl c))
    go_enter Tryd.func8, Tryd.ntmps8
    go_wp2
    go_ret
    exact ⟨by rw [E.out] <;> rfl, rfl⟩
  by_cases c2 : 10 ≤ o
  · have E := hid (al_none r (o := o) (.inr c2))
    go_enter Tryd.func8, Tryd.ntmps8
    go_wp2
    go_ret
    exact ⟨by rw [E.out] <;> rfl, rfl⟩
  have K := al_ref r o c c2
  by_cases r1 : r = 1
  · subst r1
    rw [if_pos rfl] at K
    have E := hid K
    clear K
    go_enter Tryd.func8, Tryd.ntmps8
    go_wp2
    go_ret
    exact ⟨by rw [E.out, eq0] <;> rfl, rfl⟩
  rw [if_neg r1] at K
  by_cases r2 : r = 2
  · subst r2
    rw [if_pos rfl] at K
    have E := hid K
    clear K r1
    go_enter Tryd.func8, Tryd.ntmps8
    go_wp2
    go_ret
    exact ⟨by rw [E.out] <;> rfl, rfl⟩
  rw [if_neg r2] at K
  by_cases r3 : r = 3
  · subst r3
    rw [if_pos rfl] at K
    have E := hid K
    clear K r1 r2
    go_enter Tryd.func8, Tryd.ntmps8
    go_wp2
    go_ret
    exact ⟨by rw [E.out] <;> rfl, rfl⟩
  rw [if_neg r3] at K
  by_cases r4 : r = 4
  · subst r4
    rw [decide_eq_true rfl] at K
    have E := hid K
    clear K r1 r2 r3
    go_enter Tryd.func8, Tryd.ntmps8
    go_wp2
    go_ret
    exact ⟨by rw [E.out] <;> rfl, rfl⟩
  · rw [decide_eq_false r4] at K
    have E := hid K
    clear K
    go_enter Tryd.func8, Tryd.ntmps8
    go_wp2
    go_ret
    exact ⟨by rw [E.out] <;> rfl, rfl⟩

end Go.Proofs.YtiiaceknhaimeaaDoor.Wrl
