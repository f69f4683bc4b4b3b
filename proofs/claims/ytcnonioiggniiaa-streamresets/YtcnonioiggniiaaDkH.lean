/-
  The walks of the disk's calls that look: regionAsked, sectorAsked, Sectors, Read, Off, Image; and of On, Lay, Crash, fails, Write, Flush: each answers, and leaves the disk, as the disk as plain data says.
-/
import Derived.Test.YtcnonioiggniiaaDkG
namespace Go.Proofs.Ytcnonioiggniiaa.Wd
open Go.ChangeShapes Go.WideShapes Go.ChangeAt Go.RowKit Go.Proofs.Ytcnonioiggniiaa.M

def dp (D : Nat) : Value := .pointer (some ⟨D, 0, none⟩)

theorem has_iff {d : Dk} {a : Int} : d.has a = true ↔ 0 ≤ a ∧ a < d.k := by unfold Dk.has; simp
theorem has_nat {d : Dk} {a : Int} (h : d.has a = true) : ∃ i : Nat, a = (i : Int) ∧ i < d.k := by
  obtain ⟨h1, h2⟩ := has_iff.1 h
  obtain ⟨i, rfl⟩ := Int.eq_ofNat_of_zero_le h1
  exact ⟨i, rfl, by omega⟩

set_option maxRecDepth 100000 in
theorem sectorsD {w : World} {D : Nat} {d : Dk} {F : Nat → Prop} {L : Ly} (h : DkL w D d F L) (a : Int) :
    Calls Try.prog 32 #[dp D, .int .i64 a] w fun e w' => e = .returned (.int .i64 (d.secs a : Int)) ∧ w = w' := by
  have CF := hid (find h (a := a))
  unfold dp
  by_cases c : d.has a = true
  · rw [if_pos c] at CF
    obtain ⟨i, rfl, hi⟩ := has_nat c
    have CS := hid (sectorsR h hi)
    have hE : Hid (d.secs (i : Int) = (d.r i).n) := if_pos c
    rw [Int.toNat_natCast] at CF
    unfold rp at CF CS
    clear c
    go_enter Try.func32, Try.ntmps32
    go_wp2_with fail
    refine CF.out.mono ?_
    rintro e w1 ⟨rfl, rfl⟩
    go_wp2_with fail
    refine CS.out.mono ?_
    rintro e w1 ⟨rfl, rfl⟩
    go_wp2
    go_ret
    exact ⟨by rw [hE.out]; rfl, rfl⟩
  · rw [if_neg c] at CF
    have hE : Hid (d.secs a = 0) := if_neg c
    clear c
    go_enter Try.func32, Try.ntmps32
    go_wp2_with fail
    refine CF.out.mono ?_
    rintro e w1 ⟨rfl, rfl⟩
    go_wp2
    go_ret
    exact ⟨by rw [hE.out]; rfl, rfl⟩

set_option maxRecDepth 100000 in
theorem offD {w : World} {D : Nat} {d : Dk} {F : Nat → Prop} {L : Ly} (h : DkL w D d F L) :
    Calls Try.prog 20 #[dp D] w fun e w' => e = .returned (.bool d.off) ∧ w = w' := by
  have c2 := h.cD.2.1
  unfold dp
  go_enter Try.func20, Try.ntmps20
  go_wp2
  go_ret
  exact ⟨rfl, rfl⟩

/-- The region, or nil. -/
def ra (L : Ly) (a : Int) (b : Bool) : Value := if b = true then rp L a.toNat else .pointer none

set_option maxRecDepth 100000 in
theorem regionAsked {w : World} {D : Nat} {d : Dk} {F : Nat → Prop} {L : Ly} (h : DkL w D d F L) (a : Int) :
    Calls Try.prog 77 #[dp D, .int .i64 a] w fun e w' => e = .returned (.tuple #[ra L a (d.preF a == 0), .int .i64 (d.preF a)]) ∧ w = w' := by
  have CF := hid (find h (a := a))
  have c2 := h.cD.2.1
  unfold dp
  by_cases co : d.off = true
  · have hE : Hid (d.preF a = 11) := if_pos co
    rw [co] at c2
    clear co
    go_enter Try.func77, Try.ntmps77
    go_wp2
    go_ret2
    exact ⟨by rw [hE.out]; rfl, rfl⟩
  · rw [(by simpa using co : d.off = false)] at c2
    by_cases c : d.has a = true
    · have hE : Hid (d.preF a = 0) := (if_neg co).trans (if_pos c)
      rw [if_pos c] at CF
      unfold rp at CF
      clear c co
      go_enter Try.func77, Try.ntmps77
      go_wp2_with fail
      refine CF.out.mono ?_
      rintro e w1 ⟨rfl, rfl⟩
      go_wp2
      go_ret2
      exact ⟨by rw [hE.out]; rfl, rfl⟩
    · have hE : Hid (d.preF a = 10) := (if_neg co).trans (if_neg c)
      rw [if_neg c] at CF
      clear c co
      go_enter Try.func77, Try.ntmps77
      go_wp2_with fail
      refine CF.out.mono ?_
      rintro e w1 ⟨rfl, rfl⟩
      go_wp2
      go_ret2
      exact ⟨by rw [hE.out]; rfl, rfl⟩

def raS (L : Ly) (a : Int) (b : Bool) : Value := if b = true then rp L a.toNat else .pointer none

theorem preF_ok {d : Dk} {a : Int} (h : d.preF a = 0) : d.off = false ∧ d.has a = true := by
  unfold Dk.preF at h
  split at h
  · cases h
  · split at h
    · exact ⟨by simpa using ‹¬ d.off = true›, ‹_›⟩
    · cases h
theorem preF_range (d : Dk) (a : Int) : d.preF a = 0 ∨ d.preF a = 10 ∨ d.preF a = 11 := by
  unfold Dk.preF
  split
  · simp
  · split <;> simp
theorem readE_pre {d : Dk} {a b : Int} (h : ¬ d.preF a = 0) : d.readE a b = d.preF a := by
  by_cases ho : d.off = true
  · simp [Dk.preF, Dk.readE, ho]
  · by_cases hh : d.has a = true
    · exact absurd (by simp [Dk.preF, ho, hh]) h
    · simp [Dk.preF, Dk.readE, Dk.hasS, ho, hh]
theorem readE_in {d : Dk} {a b : Int} (h : d.preF a = 0) : d.readE a b = if 0 ≤ b ∧ b < (d.r a.toNat).n then 0 else 10 := by
  obtain ⟨h1, h2⟩ := preF_ok h
  unfold Dk.readE Dk.hasS
  rw [h1, h2]
  simp

set_option maxRecDepth 100000 in
theorem sectorAsked {w : World} {D : Nat} {d : Dk} {F : Nat → Prop} {L : Ly} (h : DkL w D d F L) (a b : Int) :
    Calls Try.prog 64 #[dp D, .int .i64 a, .int .i64 b] w fun e w' => e = .returned (.tuple #[raS L a (d.readE a b == 0), .int .i64 (d.readE a b)]) ∧ w = w' := by
  have CA := hid (regionAsked h a)
  unfold dp at *
  by_cases c : d.preF a = 0
  · obtain ⟨c1, c2⟩ := preF_ok c
    have hE := readE_in (b := b) c
    obtain ⟨i, rfl, hi⟩ := has_nat c2
    rw [c] at CA
    have e1 : ra L (i : Int) ((0 : Int) == 0) = .pointer (some ⟨L.R, i * 2, none⟩) := rfl
    rw [e1] at CA
    have CS := hid (sectorsR h hi)
    rw [Int.toNat_natCast] at hE
    unfold rp at CS
    clear c c1 c2 e1
    by_cases cb : 0 ≤ b ∧ b < (d.r i).n
    · rw [if_pos cb] at hE
      have HE := hid hE
      clear hE
      generalize (d.r i).n = n at *
      go_enter Try.func64, Try.ntmps64
      go_wp2_with fail
      refine CA.out.mono ?_
      rintro e w1 ⟨rfl, rfl⟩
      go_wp2_with fail
      refine CS.out.mono ?_
      rintro e w1 ⟨rfl, rfl⟩
      go_wp2
      go_ret2
      exact ⟨by rw [HE.out]; rfl, rfl⟩
    · rw [if_neg cb] at hE
      have HE := hid hE
      clear hE
      generalize (d.r i).n = n at *
      rcases Int.lt_or_le b 0 with cb0 | cb0
      · go_enter Try.func64, Try.ntmps64
        go_wp2_with fail
        refine CA.out.mono ?_
        rintro e w1 ⟨rfl, rfl⟩
        go_wp2
        go_ret2
        exact ⟨by rw [HE.out]; rfl, rfl⟩
      · have cb1 : (n : Int) ≤ b := by omega
        go_enter Try.func64, Try.ntmps64
        go_wp2_with fail
        refine CA.out.mono ?_
        rintro e w1 ⟨rfl, rfl⟩
        go_wp2_with fail
        refine CS.out.mono ?_
        rintro e w1 ⟨rfl, rfl⟩
        go_wp2
        go_ret2
        exact ⟨by rw [HE.out]; rfl, rfl⟩
  · have hE := hid (readE_pre (b := b) c)
    have hx : (d.preF a == 0) = false := by simpa using c
    have hx2 : ra L a (d.preF a == 0) = .pointer none := by rw [hx]; rfl
    rw [hx2] at CA
    generalize d.preF a = E at *
    clear hx2
    go_enter Try.func64, Try.ntmps64
    go_wp2_with fail
    refine CA.out.mono ?_
    rintro e w1 ⟨rfl, rfl⟩
    go_wp2
    go_ret2
    refine ⟨?_, rfl⟩
    rw [hE.out]
    have : raS L a (E == 0) = .pointer none := by
      unfold raS
      rw [if_neg (by simpa using c)]
    rw [this]
    rfl

set_option maxRecDepth 100000 in
theorem readD {w : World} {D : Nat} {d : Dk} {F : Nat → Prop} {L : Ly} (h : DkL w D d F L) (hq : ∀ j, j < d.k → (d.r j).q.length ≤ 1048576) (a b : Int) :
    Calls Try.prog 47 #[dp D, .int .i64 a, .int .i64 b] w fun e w' => e = .returned (.tuple #[.string (d.readB a b), .int .i64 (d.readE a b)]) ∧ w = w' := by
  have CA := hid (sectorAsked h a b)
  unfold dp at *
  by_cases c : d.readE a b = 0
  · have hB : Hid (d.readB a b = (d.r a.toNat).rd b.toNat) := if_pos c
    have HE := hid c
    rw [c] at CA
    have c1 : d.preF a = 0 := by
      by_cases c1 : d.preF a = 0
      · exact c1
      · rw [readE_pre c1] at c; exact c
    have c3 := c
    rw [readE_in c1] at c3
    obtain ⟨_, c2⟩ := preF_ok c1
    obtain ⟨i, rfl, hi⟩ := has_nat c2
    rw [Int.toNat_natCast] at c3 hB
    have cb : 0 ≤ b ∧ b < (d.r i).n := by
      by_cases cb : 0 ≤ b ∧ b < (d.r i).n
      · exact cb
      · rw [if_neg cb] at c3; cases c3
    obtain ⟨s, rfl⟩ := Int.eq_ofNat_of_zero_le cb.1
    have CR := hid (read h hi (s := s) (by omega) (hq i hi))
    rw [Int.toNat_natCast] at hB
    have e1 : raS L (i : Int) ((0 : Int) == 0) = .pointer (some ⟨L.R, i * 2, none⟩) := rfl
    rw [e1] at CA
    unfold rp at CR
    clear c c1 c2 c3 cb e1
    go_enter Try.func47, Try.ntmps47
    go_wp2_with fail
    refine CA.out.mono ?_
    rintro e w1 ⟨rfl, rfl⟩
    go_wp2_with fail
    refine CR.out.mono ?_
    rintro e w1 ⟨rfl, rfl⟩
    go_wp2
    go_ret2
    exact ⟨by rw [hB.out, HE.out]; rfl, rfl⟩
  · have hB : Hid (d.readB a b = ⟨#[]⟩) := if_neg c
    have hx2 : raS L a (d.readE a b == 0) = .pointer none := by
      unfold raS
      rw [if_neg (by simpa using c)]
    rw [hx2] at CA
    have hx : (d.readE a b == 0) = false := by simpa using c
    generalize d.readE a b = E at *
    go_enter Try.func47, Try.ntmps47
    go_wp2_with fail
    refine CA.out.mono ?_
    rintro e w1 ⟨rfl, rfl⟩
    go_wp2
    go_ret2
    exact ⟨by rw [hB.out]; rfl, rfl⟩

end Go.Proofs.Ytcnonioiggniiaa.Wd
