/-
  Plain facts on what the last cell of a stream holds, and on a head as it is read byte by byte. Nothing is asked but what each fact names.
-/
import Derived.Test.YtcnonioiggniiaaMathSz
namespace Go.Proofs.Ytcnonioiggniiaa.M

/-- What the last cell has of data. -/
def tl (D : ByteArray) : ByteArray := D.extract (55 * (D.size / 55)) D.size
theorem tl_size (D : ByteArray) : (tl D).size = D.size % 55 := by
  unfold tl
  rw [ByteArray.size_extract]
  omega
theorem ext_tl (D m : ByteArray) (a b : Nat) : (tl D ++ m).extract a b = (D ++ m).extract (55 * (D.size / 55) + a) (55 * (D.size / 55) + b) := by
  have hk : 55 * (D.size / 55) ≤ D.size := by omega
  have e : D.extract 0 (55 * (D.size / 55)) ++ tl D = D := by
    have := ext_app D (a := 0) (b := 55 * (D.size / 55)) (c := D.size) (by omega) hk
    unfold tl
    rw [this, ByteArray.extract_zero_size]
  have e2 : D ++ m = D.extract 0 (55 * (D.size / 55)) ++ (tl D ++ m) := by
    rw [← ByteArray.append_assoc, e]
  have hz : (D.extract 0 (55 * (D.size / 55))).size = 55 * (D.size / 55) := by rw [ByteArray.size_extract]; omega
  have := ByteArray.extract_append_size_add (a := D.extract 0 (55 * (D.size / 55))) (b := tl D ++ m) (i := a) (j := b)
  rw [← e2, hz] at this
  exact this.symm
theorem tl_app_size (D m : ByteArray) : (tl D ++ m).size = D.size % 55 + m.size := by rw [size_app, tl_size]
theorem tl_step (D m : ByteArray) : tl (tl D ++ m) = tl (D ++ m) := by
  have h1 := tl_app_size D m
  have h2 := size_app D m
  have e : tl (tl D ++ m) = (tl D ++ m).extract (55 * ((tl D ++ m).size / 55)) (tl D ++ m).size := rfl
  have e' : tl (D ++ m) = (D ++ m).extract (55 * ((D ++ m).size / 55)) (D ++ m).size := rfl
  rw [e, e', ext_tl]
  congr 1 <;> omega
theorem pc_tl (D m : ByteArray) (j : Nat) : pc (tl D ++ m) j = pc (D ++ m) (D.size / 55 + j) := by
  have h1 := tl_app_size D m
  have h2 := size_app D m
  unfold pc
  rw [ext_tl]
  congr 1 <;> omega
theorem sp_tl (g : Int) (D m : ByteArray) (j : Nat) : sp g ((D.size / 55 : Nat) : Int) (tl D ++ m) j = sp g 0 (D ++ m) (D.size / 55 + j) := by
  unfold sp
  rw [pc_tl]
  congr 1
  omega
theorem tl_count (D m : ByteArray) : (tl D ++ m).size / 55 + 1 = (D ++ m).size / 55 + 1 - D.size / 55 := by
  have h1 := tl_app_size D m
  have h2 := size_app D m
  omega
/-- As the code cuts it. -/
theorem tl_cut (D : ByteArray) : D.extract (D.size - D.size % 55) D.size = tl D := by
  unfold tl
  congr 1
  omega

theorem be_one {x : Int} (h0 : 0 ≤ x) (h1 : x < 256) : beB 1 x = oneB x := by
  have h := one_be 0 x
  have e : beB 0 x = ⟨#[]⟩ := rfl
  rw [e, app_nil] at h
  rw [← h]
  have : sh x 0 % 256 = x := by
    show x % 256 = x
    omega
  rw [this]
theorem bt_one {x : Nat} (h : x < 256) : bt (oneB (x : Int)) 0 = (x : Int) := by
  unfold bt
  rw [dif_pos (show 0 < (oneB (x : Int)).size from Nat.zero_lt_one)]
  show ((UInt8.ofNat ((x : Int)).toNat).toNat : Int) = _
  rw [Int.toNat_natCast, UInt8.toNat_ofNat']
  omega

/-- A head as it is read: its generation, its half. -/
theorem hIs_byte {s : ByteArray} {half : Nat} (h : hIs s half = true) (hh : half < 256) : bt s 14 = (half : Int) ∧ 0 < hNum s ∧ hdS (hNum s) half = s := by
  obtain ⟨h1, h2⟩ := of_decide_eq_true h
  refine ⟨?_, h1, h2⟩
  rw [← h2, hdS_byte, bt_one hh]
theorem head_ok {s : ByteArray} {b : Nat} (hb : bt s 14 = (b : Int)) (h1 : 1 ≤ hNum s) (h2 : b ≤ 1) (h3 : hdS (hNum s) b = s) : hG s = hNum s ∧ hH s = b := by
  have y : hIs s b = true := decide_eq_true ⟨by omega, h3⟩
  unfold hG hH
  rcases (by omega : b = 0 ∨ b = 1) with rfl | rfl
  · rw [if_pos (.inl y), if_pos y]
    exact ⟨rfl, rfl⟩
  · have n : hIs s 0 = false := by
      cases c : hIs s 0
      · rfl
      · have := (hIs_byte c (by omega)).1
        omega
    rw [if_pos (.inr y), n]
    exact ⟨rfl, rfl⟩
theorem head_no {s : ByteArray} {b : Nat} (hb : bt s 14 = (b : Int)) (h : ¬ (1 ≤ hNum s ∧ b ≤ 1 ∧ hdS (hNum s) b = s)) : hG s = 0 ∧ hH s = 1 := by
  have n0 : hIs s 0 = false := by
    cases c : hIs s 0
    · rfl
    · obtain ⟨c1, c2, c3⟩ := hIs_byte c (by omega)
      have e : b = 0 := by omega
      exact absurd ⟨by omega, by omega, by rw [e]; exact c3⟩ h
  have n1 : hIs s 1 = false := by
    cases c : hIs s 1
    · rfl
    · obtain ⟨c1, c2, c3⟩ := hIs_byte c (by omega)
      have e : b = 1 := by omega
      exact absurd ⟨by omega, by omega, by rw [e]; exact c3⟩ h
  unfold hG hH
  rw [n0, n1]
  exact ⟨rfl, rfl⟩
theorem num_one (s : ByteArray) (a : Nat) : num s a 1 = bt s a := by
  show num s a 0 * 256 + bt s (a + 0) = bt s a
  show 0 * 256 + bt s (a + 0) = bt s a
  rw [Nat.add_zero]
  omega

end Go.Proofs.Ytcnonioiggniiaa.M
