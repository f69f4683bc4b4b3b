/-
  Several texts in one. A value's bytes, whole, cut off, or with more behind them: what all of them are read as. No Go text is in sight. What is read as a value are just its bytes: written again they are the bytes that were read. No Go text is in sight. Tokens, plainly: the bytes of claims ('cB'), a token ('mint'), what bytes are read as ('tkE' the error, 'tkN' the numbers, 'tkT' the tag), how they are verified ('vfE', 'vfN'); what is minted is read back. No Go text is in sight. Nothing is asked but the bounds that each fact names.
-/
import Derived.Test.YtkelipedpjmmaaaDoorQb
import Derived.Test.YtkelipedpjmmaaaDoorPutV
import Derived.Test.YtkelipedpjmmaaaDoorQa
namespace Go.Proofs.YtkelipedpjmmaaaDoor.M
open Go.Proofs.YtkelipedpjmmaaaDoor.Wu

theorem here_all (s : ByteArray) : Here s 0 s.data.toList := ⟨Nat.zero_le _, rfl⟩
section
variable {k n : Int} {t : ByteArray} {l : F} {b : List UInt8}
theorem enc_read (ho : (F.cons k n t l .nil).ok) (hb : encV k n t l = .ok b) {s : ByteArray} {r : List UInt8} (h : s.data.toList = b ++ r) : valR s 8 0 = .ok (nrm1 k n t (nrm l), (b.length : Int)) := by
  have h0 := here_all s
  rw [h] at h0
  have := val_full (m := 8) (d := 0) ho.2.1 rfl hb (fun m' a bl r hm hx hh => row_full l m' 1 a bl r ho.2.2.2.1 (by omega) hx hh) h0
  simpa using this
theorem all_more (ho : (F.cons k n t l .nil).ok) (hb : encV k n t l = .ok b) (more : ByteArray) : allR (⟨b.toArray⟩ ++ more) = if more.size = 0 then .ok (nrm1 k n t (nrm l)) else .error 4 := by
  have e := enc_read (s := ⟨b.toArray⟩ ++ more) (r := more.data.toList) ho hb (by simp)
  unfold allR
  rw [e]
  have hz : ((⟨b.toArray⟩ : ByteArray) ++ more).size = b.length + more.size := by
    rw [size_app]
    show b.toArray.size + more.size = _
    rw [List.size_toArray]
  simp only [hz]
  by_cases c : more.size = 0
  · rw [if_pos (by omega), if_pos c]
  · rw [if_neg (by omega), if_neg c]
theorem all_same (ho : (F.cons k n t l .nil).ok) (hb : encV k n t l = .ok b) : allR ⟨b.toArray⟩ = .ok (nrm1 k n t (nrm l)) := by
  have e := enc_read (s := ⟨b.toArray⟩) (r := []) ho hb (by simp)
  unfold allR
  rw [e]
  have hz : (⟨b.toArray⟩ : ByteArray).size = b.length := by
    show b.toArray.size = _
    rw [List.size_toArray]
  simp only [hz, if_true]
theorem all_cut (ho : (F.cons k n t l .nil).ok) (hb : encV k n t l = .ok b) {i : Nat} (hi : i < b.length) : allR ((⟨b.toArray⟩ : ByteArray).extract 0 i) = .error 3 := by
  have e0 : ((⟨b.toArray⟩ : ByteArray).extract 0 i).data.toList = b.take i := by
    rw [ByteArray.data_extract]
    simp
  have h0 := here_all ((⟨b.toArray⟩ : ByteArray).extract 0 i)
  rw [e0] at h0
  have := val_cut (m := 8) (d := 0) ho.2.1 rfl hb (fun m' a bl c c' hm hx hh hcc hnn => row_cut l m' 1 a bl c c' ho.2.2.2.1 (by omega) hx hh hcc hnn) h0 (List.take_append_drop i b) (by
    intro h
    have h2 := congrArg List.length h
    rw [List.length_drop] at h2
    simp at h2
    omega)
  have this' : valR ((⟨b.toArray⟩ : ByteArray).extract 0 i) 8 0 = .error 3 := this
  unfold allR
  rw [this']
end

theorem nrm_eq : ∀ f : F, (∃ d b, encF f d = .ok b) → eqF f (nrm f) = true
  | .nil, _ => rfl
  | .cons k n s l r, ⟨d, b, h⟩ => by
    simp only [encF] at h
    obtain ⟨b1, b2, h1, h2, _⟩ := cat_ok h
    have e2 := nrm_eq r ⟨d, b2, h2⟩
    unfold nrm eqF
    rw [e2, Bool.and_true]
    unfold enc1 at h1
    unfold nrm1 eq1
    split at h1
    · rename_i c; subst c; simp
    split at h1
    · rename_i c; subst c; simp
    split at h1
    · rename_i c
      subst c
      split at h1
      · cases h1
      cases hx : encF l (d + 1) with
      | error e => rw [hx] at h1; cases h1
      | ok bl =>
        have e1 := nrm_eq l ⟨d + 1, bl, hx⟩
        simpa using e1
    · cases h1
theorem nrm1_eq {k n : Int} {t : ByteArray} {l : F} {b : List UInt8} (hb : encV k n t l = .ok b) : eq1 k n t (nrm1 k n t (nrm l)).k (nrm1 k n t (nrm l)).n (nrm1 k n t (nrm l)).s (eqF l (nrm1 k n t (nrm l)).l) = true := by
  have h := nrm_eq (.cons k n t l .nil) ⟨0, b ++ [], by
    simp only [encF]
    have : enc1 k n t l.len 0 (encF l (0 + 1)) = .ok b := hb
    rw [this]; rfl⟩
  simp only [nrm, eqF, Bool.and_true] at h
  exact h

end Go.Proofs.YtkelipedpjmmaaaDoor.M

namespace Go.Proofs.YtkelipedpjmmaaaDoor.M
open Go.Proofs.YtkelipedpjmmaaaDoor.Wu

theorem sh_step {y z : Int} (h0 : 0 ≤ z) (h1 : z < 256) : ∀ i, sh (y * 256 + z) (i + 1) = sh y i
  | 0 => by simp only [sh]; omega
  | i + 1 => by
    have e := sh_step (y := y) h0 h1 i
    show sh (y * 256 + z) (i + 1) / 256 = sh y i / 256
    rw [e]
theorem be_snoc {y z : Int} (h0 : 0 ≤ z) (h1 : z < 256) : ∀ k, be (k + 1) (y * 256 + z) = be k y ++ [UInt8.ofNat z.toNat]
  | 0 => by
    have e : (y * 256 + z) % 256 = z := by omega
    simp only [be, sh, e, List.nil_append]
  | k + 1 => by
    have e := be_snoc (y := y) h0 h1 k
    have e2 := sh_step (y := y) h0 h1 k
    show UInt8.ofNat (sh (y * 256 + z) (k + 1) % 256).toNat :: be (k + 1) (y * 256 + z) = UInt8.ofNat (sh y k % 256).toNat :: be k y ++ _
    rw [e2, e]
    rfl
theorem byte_at {s : ByteArray} {a : Nat} (h : a < s.size) : s.data.toList.drop a = UInt8.ofNat (bt s a).toNat :: s.data.toList.drop (a + 1) := by
  have h2 : a < s.data.toList.length := by rw [Array.length_toList]; exact h
  rw [List.drop_eq_getElem_cons h2]
  congr 1
  unfold bt
  rw [dif_pos h]
  have e : s.data.toList[a] = s[a] := by rw [Array.getElem_toList]; rfl
  rw [e]
  simp
theorem bytes_at {s : ByteArray} {a : Nat} : ∀ k, a + k ≤ s.size → s.data.toList.drop a = be k (num s a k) ++ s.data.toList.drop (a + k)
  | 0, _ => by simp [be]
  | k + 1, h => by
    have e := bytes_at (s := s) (a := a) k (by omega)
    have e2 := byte_at (s := s) (a := a + k) (by omega)
    have hb := bt_range s (a + k)
    have e3 : num s a (k + 1) = num s a k * 256 + bt s (a + k) := rfl
    rw [e3, be_snoc hb.1 (by omega), List.append_assoc]
    rw [e2] at e
    exact e
/-- What a Get that goes well has read. -/
theorem got {s : ByteArray} {a : Nat} {w : Int} (h : gE s (a : Int) w = 0) : ∃ k : Nat, w = (k : Int) ∧ 1 ≤ k ∧ k ≤ 8 ∧ a + k ≤ s.size ∧ gX s (a : Int) w = ((a + k : Nat) : Int) ∧ s.data.toList.drop a = be k (gN s (a : Int) w) ++ s.data.toList.drop (a + k) := by
  by_cases c : w < 1 ∨ 8 < w ∨ (a : Int) < 0 ∨ (s.size : Int) < (a : Int)
  · have := (g_arg c).1; omega
  by_cases c1 : (s.size : Int) - (a : Int) < w
  · have := (g_short c c1).1; omega
  obtain ⟨_, e2, e3⟩ := g_ok c c1
  refine ⟨w.toNat, by omega, by omega, by omega, by omega, by omega, ?_⟩
  have h2 := bytes_at (s := s) (a := a) w.toNat (by omega)
  rw [e2, Int.toNat_natCast]
  exact h2

/-- From a place on there are these bytes. -/
def Lies (s : ByteArray) (a : Nat) (b : List UInt8) : Prop := a + b.length ≤ s.size ∧ s.data.toList.drop a = b ++ s.data.toList.drop (a + b.length)
theorem Lies.app {s : ByteArray} {a : Nat} {b c : List UInt8} (h : Lies s a b) (k : Lies s (a + b.length) c) : Lies s a (b ++ c) := by
  refine ⟨by rw [List.length_append]; have := k.1; omega, ?_⟩
  rw [h.2, k.2, List.length_append, List.append_assoc, Nat.add_assoc]
theorem lies_get {s : ByteArray} {a : Nat} {w : Nat} (h : gE s (a : Int) (w : Int) = 0) : Lies s a (be w (gN s (a : Int) (w : Int))) ∧ gX s (a : Int) (w : Int) = ((a + w : Nat) : Int) := by
  obtain ⟨k, e1, _, _, h3, h4, h5⟩ := got h
  have e : k = w := by omega
  subst e
  exact ⟨⟨by rw [be_length]; exact h3, by rw [be_length]; exact h5⟩, h4⟩
theorem be_1 {x : Int} (h0 : 0 ≤ x) (h1 : x < 256) : be 1 x = [UInt8.ofNat x.toNat] := by
  have e : x % 256 = x := by omega
  simp only [be, sh, e]

theorem z0 : -9223372036854775808 ≤ (0 : Int) ∧ (0 : Int) < 9223372036854775808 := by decide
theorem z1 : -9223372036854775808 ≤ (1 : Int) ∧ (1 : Int) < 9223372036854775808 := by decide
theorem z2 : -9223372036854775808 ≤ (2 : Int) ∧ (2 : Int) < 9223372036854775808 := by decide
theorem ze : (⟨#[]⟩ : ByteArray).size ≤ 140737488355328 := by decide
theorem zu : (0 : Int) ≤ 0 ∧ (0 : Int) < 18446744073709551616 := by decide
theorem numR_back {s : ByteArray} {a : Nat} {x : Int × Int} (h : numR s (a : Int) = .ok x) : (0 ≤ x.1 ∧ x.1 < 18446744073709551616) ∧ Lies s a (UInt8.ofNat (wid x.1) :: be (wid x.1) x.1) ∧ x.2 = ((a + (1 + wid x.1) : Nat) : Int) := by
  unfold numR at h
  split at h; · cases h
  rename_i c1
  have c1' : gE s (a : Int) ((1 : Nat) : Int) = 0 := by simpa using c1
  obtain ⟨l1, x1⟩ := lies_get c1'
  have hN := (gN_range s (a : Int) 1).1
  have hN2 := gN_1 s (a : Int)
  rw [show gN s (a : Int) ((1 : Nat) : Int) = gN s (a : Int) 1 from rfl, be_1 hN hN2] at l1
  have x1' : gX s (a : Int) 1 = ((a + 1 : Nat) : Int) := x1
  split at h; · cases h
  split at h
  · rename_i c2 c3
    cases h
    refine ⟨zu, ?_, ?_⟩
    · rw [c3] at l1
      have : (UInt8.ofNat (wid 0) :: be (wid 0) 0) = [UInt8.ofNat (0 : Int).toNat] := by rw [wid_zero]; rfl
      rw [this]; exact l1
    · rw [x1', wid_zero]
  rename_i c2 c3
  split at h; · cases h
  rename_i c4
  split at h; · cases h
  rename_i c5
  cases h
  simp only
  rw [x1'] at c4 c5 ⊢
  have hM := gN_range s ((a + 1 : Nat) : Int) (gN s (a : Int) 1)
  have c5' : (wid (gN s ((a + 1 : Nat) : Int) (gN s (a : Int) 1)) : Int) = gN s (a : Int) 1 := by omega
  have c4' : gE s ((a + 1 : Nat) : Int) ((wid (gN s ((a + 1 : Nat) : Int) (gN s (a : Int) 1)) : Nat) : Int) = 0 := by rw [c5']; omega
  obtain ⟨l2, x2⟩ := lies_get c4'
  rw [c5'] at l2 x2
  refine ⟨hM, ?_, ?_⟩
  · have e : (gN s (a : Int) 1).toNat = wid (gN s ((a + 1 : Nat) : Int) (gN s (a : Int) 1)) := by omega
    rw [e] at l1
    exact l1.app l2
  · rw [x2]
    congr 1
    omega
theorem textR_back {s : ByteArray} {a : Nat} {x : ByteArray × Int} (h : textR s (a : Int) = .ok x) : x.1.size ≤ 4096 ∧ Lies s a (be 2 (x.1.size : Int) ++ x.1.data.toList) ∧ x.2 = ((a + (2 + x.1.size) : Nat) : Int) := by
  unfold textR at h
  split at h; · cases h
  rename_i c1
  split at h; · cases h
  rename_i c2
  cases h
  simp only
  have c1' : xE s (a : Int) = 0 := by omega
  have cg : gE s (a : Int) 2 = 0 := by
    by_cases c : gE s (a : Int) 2 = 0
    · exact c
    · rw [(x_err c).1] at c1'; exact absurd c1' c
  have ck : ¬ (s.size : Int) - gX s (a : Int) 2 < gN s (a : Int) 2 := fun hh => by
    rw [(x_short cg hh).1] at c1'; exact absurd c1' (by decide)
  obtain ⟨_, e2, e3⟩ := x_ok cg ck
  obtain ⟨l1, x1⟩ := lies_get (w := 2) cg
  have x1' : gX s (a : Int) 2 = ((a + 2 : Nat) : Int) := x1
  obtain ⟨n0, n1, _, _⟩ := g_two cg
  obtain ⟨N, hN⟩ : ∃ N : Nat, gN s (a : Int) 2 = (N : Int) := ⟨(gN s (a : Int) 2).toNat, by omega⟩
  rw [x1', hN] at e2 e3 ck
  rw [Int.toNat_natCast, Int.toNat_natCast] at e2
  have hle : a + 2 + N ≤ s.size := by omega
  have hz : (xB s (a : Int)).size = N := by rw [e2, ByteArray.size_extract]; omega
  have hd : (xB s (a : Int)).data.toList = (s.data.toList.drop (a + 2)).take N := by
    rw [e2, ByteArray.data_extract, Array.toList_extract]
    simp [List.take_drop]
  refine ⟨by omega, ?_, ?_⟩
  · have l1' : Lies s a (be 2 (N : Int)) := by rw [← hN]; exact l1
    rw [hz]
    refine l1'.app ?_
    rw [be_length]
    have hl : (xB s (a : Int)).data.toList.length = N := by rw [Array.length_toList]; exact hz
    refine ⟨by rw [hl]; exact hle, ?_⟩
    rw [hl, hd]
    have h9 := (List.take_append_drop N (s.data.toList.drop (a + 2))).symm
    rw [List.drop_drop] at h9
    exact h9
  · rw [e3, hz]
    omega

/-- A value whose bytes were read. -/
def Was (s : ByteArray) (a d : Nat) (x : V × Int) : Prop := ∃ b, enc1 x.1.k x.1.n x.1.s x.1.l.len d (encF x.1.l (d + 1)) = .ok b ∧ Lies s a b ∧ x.2 = ((a + b.length : Nat) : Int) ∧ (F.cons x.1.k x.1.n x.1.s x.1.l .nil).ok

theorem row_back {s : ByteArray} {v : Int → Except Int (V × Int)} {d : Nat} (hv : ∀ (a : Nat) x, v (a : Int) = .ok x → Was s a d x) : ∀ {c a : Nat} {y : F × Int}, a ≤ s.size → rowR v c (a : Int) = .ok y → ∃ b, encF y.1 d = .ok b ∧ Lies s a b ∧ y.2 = ((a + b.length : Nat) : Int) ∧ y.1.ok ∧ y.1.len = c
  | 0, a, y, ha, h => by
    simp only [rowR] at h
    cases h
    exact ⟨[], rfl, ⟨by simpa using ha, by simp⟩, by simp, trivial, rfl⟩
  | c + 1, a, y, ha, h => by
    simp only [rowR] at h
    cases h1 : v (a : Int) with
    | error e => rw [h1] at h; cases h
    | ok x =>
      rw [h1] at h
      simp only at h
      obtain ⟨b1, e1, l1, p1, o1⟩ := hv a x h1
      rw [p1] at h
      cases h2 : rowR v c ((a + b1.length : Nat) : Int) with
      | error e => rw [h2] at h; cases h
      | ok z =>
        rw [h2] at h
        cases h
        obtain ⟨b2, e2, l2, p2, o2, n2⟩ := row_back hv l1.1 h2
        refine ⟨b1 ++ b2, ?_, l1.app l2, ?_, ⟨o1.1, o1.2.1, o1.2.2.1, o1.2.2.2.1, o2⟩, by simp [F.len, n2]⟩
        · simp only [encF, e1, e2, cat]
        · simp only
          rw [p2, List.length_append, Nat.add_assoc]

theorem val_back {s : ByteArray} : ∀ (m d a : Nat) (x : V × Int), m + d = 8 → valR s m (a : Int) = .ok x → Was s a d x := by
  intro m
  induction m with
  | zero =>
    intro d a x hm h
    rw [valR_eq] at h
    split at h; · cases h
    rename_i c1
    obtain ⟨l1, x1⟩ := lies_get (w := 1) (show gE s (a : Int) ((1 : Nat) : Int) = 0 by simpa using c1)
    have x1' : gX s (a : Int) 1 = ((a + 1 : Nat) : Int) := x1
    rw [x1'] at h
    split at h
    · rename_i k1
      rw [show gN s (a : Int) ((1 : Nat) : Int) = gN s (a : Int) 1 from rfl, k1] at l1
      cases hx : numR s ((a + 1 : Nat) : Int) with
      | error e => rw [hx] at h; cases h
      | ok y =>
        rw [hx] at h
        cases h
        obtain ⟨r1, r2, r3⟩ := numR_back hx
        refine ⟨numB (unfoldI y.1), enc_int _ _ _ _ _, ?_, ?_, ⟨z0, unfold_range r1.1 r1.2, ze, trivial, trivial⟩⟩
        · unfold numB; rw [fold_unfold _ r1.1]; exact l1.app r2
        · rw [numB_length, fold_unfold _ r1.1, r3]; congr 1; omega
    split at h
    · rename_i k1
      rw [show gN s (a : Int) ((1 : Nat) : Int) = gN s (a : Int) 1 from rfl, k1] at l1
      cases hx : textR s ((a + 1 : Nat) : Int) with
      | error e => rw [hx] at h; cases h
      | ok y =>
        rw [hx] at h
        cases h
        obtain ⟨r1, r2, r3⟩ := textR_back hx
        refine ⟨_, enc_text (by show ¬ 4096 < y.1.size; omega), l1.app r2, ?_, ⟨z1, z0, by show y.1.size ≤ _; omega, trivial, trivial⟩⟩
        have : y.1.data.toList.length = y.1.size := Array.length_toList
        simp only [List.length_cons, List.length_append, be_length]
        rw [r3]; congr 1; omega
    split at h
    · cases h
    · cases h
  | succ m ih =>
    intro d a x hm h
    rw [valR_eq] at h
    split at h; · cases h
    rename_i c1
    obtain ⟨l1, x1⟩ := lies_get (w := 1) (show gE s (a : Int) ((1 : Nat) : Int) = 0 by simpa using c1)
    have x1' : gX s (a : Int) 1 = ((a + 1 : Nat) : Int) := x1
    rw [x1'] at h
    split at h
    · rename_i k1
      rw [show gN s (a : Int) ((1 : Nat) : Int) = gN s (a : Int) 1 from rfl, k1] at l1
      cases hx : numR s ((a + 1 : Nat) : Int) with
      | error e => rw [hx] at h; cases h
      | ok y =>
        rw [hx] at h
        cases h
        obtain ⟨r1, r2, r3⟩ := numR_back hx
        refine ⟨numB (unfoldI y.1), enc_int _ _ _ _ _, ?_, ?_, ⟨z0, unfold_range r1.1 r1.2, ze, trivial, trivial⟩⟩
        · unfold numB; rw [fold_unfold _ r1.1]; exact l1.app r2
        · rw [numB_length, fold_unfold _ r1.1, r3]; congr 1; omega
    split at h
    · rename_i k1
      rw [show gN s (a : Int) ((1 : Nat) : Int) = gN s (a : Int) 1 from rfl, k1] at l1
      cases hx : textR s ((a + 1 : Nat) : Int) with
      | error e => rw [hx] at h; cases h
      | ok y =>
        rw [hx] at h
        cases h
        obtain ⟨r1, r2, r3⟩ := textR_back hx
        refine ⟨_, enc_text (by show ¬ 4096 < y.1.size; omega), l1.app r2, ?_, ⟨z1, z0, by show y.1.size ≤ _; omega, trivial, trivial⟩⟩
        have : y.1.data.toList.length = y.1.size := Array.length_toList
        simp only [List.length_cons, List.length_append, be_length]
        rw [r3]; congr 1; omega
    split at h
    · rename_i k1
      rw [show gN s (a : Int) ((1 : Nat) : Int) = gN s (a : Int) 1 from rfl, k1] at l1
      simp only [listR] at h
      split at h; · cases h
      rename_i c2
      split at h; · cases h
      rename_i c3
      obtain ⟨l2, x2⟩ := lies_get (w := 2) (show gE s ((a + 1 : Nat) : Int) ((2 : Nat) : Int) = 0 by simpa using c2)
      have x2' : gX s ((a + 1 : Nat) : Int) 2 = ((a + 1 + 2 : Nat) : Int) := x2
      obtain ⟨n0, n1, _, _⟩ := g_two (show gE s ((a + 1 : Nat) : Int) 2 = 0 by simpa using c2)
      obtain ⟨N, hN⟩ : ∃ N : Nat, gN s ((a + 1 : Nat) : Int) 2 = (N : Int) := ⟨(gN s ((a + 1 : Nat) : Int) 2).toNat, by omega⟩
      rw [x2', hN, Int.toNat_natCast] at h
      rw [show gN s ((a + 1 : Nat) : Int) ((2 : Nat) : Int) = gN s ((a + 1 : Nat) : Int) 2 from rfl, hN] at l2
      cases hx : rowR (valR s m) N ((a + 1 + 2 : Nat) : Int) with
      | error e => rw [hx] at h; cases h
      | ok y =>
        rw [hx] at h
        cases h
        have l2' := l2.1
        rw [be_length] at l2'
        obtain ⟨b, r1, r2, r3, r4, r5⟩ := row_back (d := d + 1) (fun a x hh => ih (d + 1) a x (by omega) hh) l2' hx
        refine ⟨3 :: be 2 (y.1.len : Int) ++ b, ?_, ?_, ?_, ⟨z2, z0, ze, r4, trivial⟩⟩
        · show enc1 2 0 ⟨#[]⟩ y.1.len d (encF y.1 (d + 1)) = _
          rw [enc_list (by omega), r1]; rfl
        · rw [r5]
          have l3 : Lies s a ([3] ++ (be 2 (N : Int) ++ b)) := l1.app (l2.app (by rw [be_length]; exact r2))
          exact l3
        · rw [r3, r5]
          simp only [List.length_cons, List.length_append, be_length]
          congr 1
          omega
    · cases h

/-- All bytes that are read are a value's. -/
theorem all_back {s : ByteArray} {v : V} (h : allR s = .ok v) : encV v.k v.n v.s v.l = .ok s.data.toList ∧ (F.cons v.k v.n v.s v.l .nil).ok := by
  unfold allR at h
  cases hx : valR s 8 0 with
  | error e => rw [hx] at h; cases h
  | ok x =>
    rw [hx] at h
    simp only at h
    split at h
    · rename_i c
      cases h
      obtain ⟨b, e1, e2, e3, e4⟩ := val_back 8 0 0 x rfl hx
      refine ⟨?_, e4⟩
      have hl : b.length = s.size := by omega
      have h2 := e2.2
      have h3 : s.data.toList.length = s.size := Array.length_toList
      rw [Nat.zero_add, hl, ← h3, List.drop_length, List.append_nil, List.drop_zero] at h2
      rw [h2]
      exact e1
    · cases h

end Go.Proofs.YtkelipedpjmmaaaDoor.M

namespace Go.Proofs.YtkelipedpjmmaaaDoor.M

/-- The list of four numbers. -/
def cF (a b c d : Int) : F := .cons 0 a ⟨#[]⟩ .nil (.cons 0 b ⟨#[]⟩ .nil (.cons 0 c ⟨#[]⟩ .nil (.cons 0 d ⟨#[]⟩ .nil .nil)))
/-- A number of 64 bits. -/
def I6 (n : Int) : Prop := -9223372036854775808 ≤ n ∧ n < 9223372036854775808
theorem cF_ok {a b c d : Int} (ha : I6 a) (hb : I6 b) (hc : I6 c) (hd : I6 d) : (cF a b c d).ok :=
  ⟨by decide, ha, by decide, trivial, by decide, hb, by decide, trivial, by decide, hc, by decide, trivial, by decide, hd, by decide, trivial, trivial⟩
theorem cV_ok {a b c d : Int} (ha : I6 a) (hb : I6 b) (hc : I6 c) (hd : I6 d) : (F.cons 2 0 ⟨#[]⟩ (cF a b c d) .nil).ok :=
  ⟨by decide, by decide, by decide, cF_ok ha hb hc hd, trivial⟩
theorem cF_wt {a b c d : Int} (ha : I6 a) (hb : I6 b) (hc : I6 c) (hd : I6 d) : wt1 2 0 ⟨#[]⟩ (cF a b c d).wt ≤ 20000 := by
  have h := wt_nodes (cF_ok ha hb hc hd)
  have e : (cF a b c d).nodes = 4 := rfl
  unfold wt1
  simp
  omega
theorem cE (a b c d : Int) : ∃ l, Wu.encV 2 0 ⟨#[]⟩ (cF a b c d) = .ok l := by
  simp [Wu.encV, cF, encF, enc1, cat, F.len]
/-- The bytes of claims. -/
def cB (a b c d : Int) : ByteArray := Wu.bytesB (Wu.encV 2 0 ⟨#[]⟩ (cF a b c d))
theorem cB_eq {a b c d : Int} {l : List UInt8} (h : Wu.encV 2 0 ⟨#[]⟩ (cF a b c d) = .ok l) : cB a b c d = ⟨l.toArray⟩ := by
  unfold cB
  rw [h]
  rfl
theorem cB_size {a b c d : Int} (ha : I6 a) (hb : I6 b) (hc : I6 c) (hd : I6 d) : (cB a b c d).size ≤ 20000 := by
  obtain ⟨l, h⟩ := cE a b c d
  have e := enc1_size (fun b hb => encF_size hb) (show enc1 2 0 ⟨#[]⟩ (cF a b c d).len 0 (encF (cF a b c d) 1) = .ok l from h)
  have h3 := cF_wt ha hb hc hd
  rw [cB_eq h]
  show l.toArray.size ≤ 20000
  simp
  omega
theorem cB_zero : cB 0 0 0 0 = ⟨#[3, 0, 4, 1, 0, 1, 0, 1, 0, 1, 0]⟩ := by decide +kernel
theorem cF_nrm (a b c d : Int) : nrm (cF a b c d) = cF a b c d := by simp [cF, nrm, nrm1]
theorem cB_read {a b c d : Int} (ha : I6 a) (hb : I6 b) (hc : I6 c) (hd : I6 d) : allR (cB a b c d) = .ok ⟨2, 0, ⟨#[]⟩, cF a b c d⟩ := by
  obtain ⟨l, h⟩ := cE a b c d
  rw [cB_eq h, all_same (cV_ok ha hb hc hd) h, cF_nrm]
  rfl

/-- The token of claims. -/
def mint (K : ByteArray) (a b c d : Int) : ByteArray := cB a b c d ++ tag K (cB a b c d)
theorem mint_size (K : ByteArray) (a b c d : Int) : (mint K a b c d).size = (cB a b c d).size + 32 := by
  unfold mint
  rw [ByteArray.size_append, tag_size]

/-- All but the last 32 bytes; these. -/
def hd32 (s : ByteArray) : ByteArray := s.extract 0 (s.size - 32)
def tl32 (s : ByteArray) : ByteArray := s.extract (s.size - 32) s.size
theorem hd32_size (s : ByteArray) : (hd32 s).size = s.size - 32 := by
  unfold hd32
  rw [ByteArray.size_extract]
  omega
theorem tl32_size {s : ByteArray} (h : ¬ s.size < 32) : (tl32 s).size = 32 := by
  unfold tl32
  rw [ByteArray.size_extract]
  omega
theorem hd32_app {a b : ByteArray} (h : b.size = 32) : hd32 (a ++ b) = a := by
  unfold hd32
  rw [ByteArray.size_append, h, show a.size + 32 - 32 = a.size by omega]
  apply ByteArray.ext
  rw [ByteArray.data_extract, ByteArray.data_append]
  have e : a.data.toList.length = a.size := Array.length_toList
  apply Array.toList_inj.1
  simp
  rw [← e, List.take_length]
theorem tl32_app {a b : ByteArray} (h : b.size = 32) : tl32 (a ++ b) = b := by
  unfold tl32
  rw [ByteArray.size_append, h, show a.size + 32 - 32 = a.size by omega]
  apply ByteArray.ext
  rw [ByteArray.data_extract, ByteArray.data_append]
  have e : a.data.toList.length = a.size := Array.length_toList
  have e2 : b.data.toList.length = 32 := Array.length_toList.trans h
  apply Array.toList_inj.1
  rw [← e, Array.toList_extract, Array.toList_append, List.extract_eq_take_drop, show a.data.toList.length + 32 - a.data.toList.length = 32 by omega, List.drop_left, ← e2, List.take_length]
theorem hd32_mint (K : ByteArray) (a b c d : Int) : hd32 (mint K a b c d) = cB a b c d := hd32_app (tag_size _ _)
theorem tl32_mint (K : ByteArray) (a b c d : Int) : tl32 (mint K a b c d) = tag K (cB a b c d) := tl32_app (tag_size _ _)

/-- The kind, and the number, of a value in a list. -/
def F.kd : F → Nat → Int
  | .nil, _ => 0
  | .cons k _ _ _ _, 0 => k
  | .cons _ _ _ _ r, i + 1 => r.kd i
def F.nb : F → Nat → Int
  | .nil, _ => 0
  | .cons _ n _ _ _, 0 => n
  | .cons _ _ _ _ r, i + 1 => r.nb i
/-- A value that is a list of four numbers, the first two not too great. -/
def okV (v : V) : Prop := v.k = 2 ∧ v.l.len = 4 ∧ (v.l.kd 0 = 0 ∧ 0 ≤ v.l.nb 0 ∧ v.l.nb 0 ≤ 2147483647) ∧ (v.l.kd 1 = 0 ∧ 0 ≤ v.l.nb 1 ∧ v.l.nb 1 ≤ 2147483647) ∧ v.l.kd 2 = 0 ∧ v.l.kd 3 = 0

open Classical in
/-- Which error a text has. -/
noncomputable def tkE (s : ByteArray) : Int := if s.size < 32 then 3 else match allR (hd32 s) with
  | .error e => e
  | .ok v => if okV v then 0 else 4
/-- The list that it holds. -/
def tkV (s : ByteArray) : F := match allR (hd32 s) with
  | .error _ => .nil
  | .ok v => v.l
/-- The numbers that are told of it; the tag. -/
noncomputable def tkN (s : ByteArray) (i : Nat) : Int := if tkE s = 0 then (tkV s).nb i else 0
noncomputable def tkT (s : ByteArray) : ByteArray := if tkE s = 0 then tl32 s else ⟨#[]⟩
theorem tk_none {s : ByteArray} (h : ¬ tkE s = 0) : tkT s = ⟨#[]⟩ ∧ ∀ i, tkN s i = 0 := ⟨if_neg h, fun _ => if_neg h⟩
theorem tk_short {s : ByteArray} (h : s.size < 32) : tkE s = 3 := if_pos h
theorem tk_err {s : ByteArray} {e : Int} (h : ¬ s.size < 32) (he : allR (hd32 s) = .error e) : tkE s = e := by
  unfold tkE
  rw [if_neg h, he]
theorem tk_form {s : ByteArray} {v : V} (h : ¬ s.size < 32) (he : allR (hd32 s) = .ok v) (hv : ¬ okV v) : tkE s = 4 := by
  unfold tkE
  rw [if_neg h, he]
  exact if_neg hv
theorem tk_ok {s : ByteArray} {v : V} (h : ¬ s.size < 32) (he : allR (hd32 s) = .ok v) (hv : okV v) : tkE s = 0 ∧ tkT s = tl32 s ∧ ∀ i, tkN s i = v.l.nb i := by
  have h0 : tkE s = 0 := by
    unfold tkE
    rw [if_neg h, he]
    exact if_pos hv
  refine ⟨h0, if_pos h0, fun i => ?_⟩
  unfold tkN tkV
  rw [if_pos h0, he]
theorem tk_long {s : ByteArray} (h : tkE s = 0) : ¬ s.size < 32 := fun c => by rw [tk_short c] at h; cases h
theorem tkT_size (s : ByteArray) : (tkT s).size ≤ 32 := by
  unfold tkT
  split
  · rename_i h
    rw [tl32_size (tk_long h)]
    exact Nat.le_refl _
  · exact Nat.zero_le _
theorem allR_code {s : ByteArray} {e : Int} (h : allR s = .error e) : e ≠ 0 := by
  unfold allR at h
  split at h
  · rename_i e2 h2
    cases h
    exact valR_code h2
  · split at h
    · cases h
    · cases h
      decide

/-- How a text is verified: the error; the numbers that are told. -/
noncomputable def vfE (K s : ByteArray) (now ep : Int) : Int := if ¬ tkE s = 0 then tkE s else if ¬ tkT s = tag K (hd32 s) then 20 else if tkN s 3 < now then 21 else if ¬ tkN s 2 = ep then 22 else 0
noncomputable def vfN (K s : ByteArray) (now ep : Int) (i : Nat) : Int := if vfE K s now ep = 0 then tkN s i else 0

section
variable {K s : ByteArray} {now ep : Int}
theorem vf_none (h : ¬ vfE K s now ep = 0) (i : Nat) : vfN K s now ep i = 0 := if_neg h
theorem vf_err (h : ¬ tkE s = 0) : vfE K s now ep = tkE s := if_pos h
theorem vf_tag (h : tkE s = 0) (h2 : ¬ tkT s = tag K (hd32 s)) : vfE K s now ep = 20 := by
  unfold vfE
  rw [if_neg (fun c => c h), if_pos h2]
theorem vf_late (h : tkE s = 0) (h2 : tkT s = tag K (hd32 s)) (h3 : tkN s 3 < now) : vfE K s now ep = 21 := by
  unfold vfE
  rw [if_neg (fun c => c h), if_neg (fun c => c h2), if_pos h3]
theorem vf_epoch (h : tkE s = 0) (h2 : tkT s = tag K (hd32 s)) (h3 : ¬ tkN s 3 < now) (h4 : ¬ tkN s 2 = ep) : vfE K s now ep = 22 := by
  unfold vfE
  rw [if_neg (fun c => c h), if_neg (fun c => c h2), if_neg h3, if_pos h4]
theorem vf_ok (h : tkE s = 0) (h2 : tkT s = tag K (hd32 s)) (h3 : ¬ tkN s 3 < now) (h4 : tkN s 2 = ep) : vfE K s now ep = 0 ∧ ∀ i, vfN K s now ep i = tkN s i := by
  have h0 : vfE K s now ep = 0 := by
    unfold vfE
    rw [if_neg (fun c => c h), if_neg (fun c => c h2), if_neg h3, if_neg (fun c => c h4)]
  exact ⟨h0, fun i => if_pos h0⟩
theorem vf_short (h : s.size < 32) : vfE K s now ep = 3 := by
  have e := tk_short h
  rw [vf_err (by rw [e]; decide), e]
end

section
variable {K : ByteArray} {a b c d : Int}
/-- Numbers that a token may have. -/
def Mt (a b c d : Int) : Prop := (0 ≤ a ∧ a ≤ 2147483647) ∧ (0 ≤ b ∧ b ≤ 2147483647) ∧ I6 c ∧ I6 d
theorem Mt.a6 (h : Mt a b c d) : I6 a := by obtain ⟨⟨h1, h2⟩, _⟩ := h; constructor <;> omega
theorem Mt.b6 (h : Mt a b c d) : I6 b := by obtain ⟨_, ⟨h1, h2⟩, _⟩ := h; constructor <;> omega
theorem Mt.read (h : Mt a b c d) : allR (cB a b c d) = .ok ⟨2, 0, ⟨#[]⟩, cF a b c d⟩ := cB_read h.a6 h.b6 h.2.2.1 h.2.2.2
theorem Mt.okV (h : Mt a b c d) : okV ⟨2, 0, ⟨#[]⟩, cF a b c d⟩ := ⟨rfl, rfl, ⟨rfl, h.1.1, h.1.2⟩, ⟨rfl, h.2.1.1, h.2.1.2⟩, rfl, rfl⟩
/-- What has the bytes of claims ahead of its last 32 is read as these. -/
theorem tk_claims (h : Mt a b c d) {s : ByteArray} (hs : ¬ s.size < 32) (hh : hd32 s = cB a b c d) : tkE s = 0 ∧ tkT s = tl32 s ∧ tkN s 0 = a ∧ tkN s 1 = b ∧ tkN s 2 = c ∧ tkN s 3 = d := by
  obtain ⟨e, t, n⟩ := tk_ok hs (by rw [hh]; exact h.read) h.okV
  exact ⟨e, t, n 0, n 1, n 2, n 3⟩
theorem tk_mint (h : Mt a b c d) : tkE (mint K a b c d) = 0 ∧ tkT (mint K a b c d) = tag K (cB a b c d) ∧ tkN (mint K a b c d) 0 = a ∧ tkN (mint K a b c d) 1 = b ∧ tkN (mint K a b c d) 2 = c ∧ tkN (mint K a b c d) 3 = d := by
  have h1 := tk_claims h (s := mint K a b c d) (by rw [mint_size]; omega) (hd32_mint K a b c d)
  rw [tl32_mint] at h1
  exact h1
theorem vf_mint (h : Mt a b c d) {now ep : Int} (h3 : ¬ d < now) (h4 : c = ep) : vfE K (mint K a b c d) now ep = 0 ∧ vfN K (mint K a b c d) now ep 0 = a ∧ vfN K (mint K a b c d) now ep 1 = b ∧ vfN K (mint K a b c d) now ep 2 = c ∧ vfN K (mint K a b c d) now ep 3 = d := by
  obtain ⟨e, t, n0, n1, n2, n3⟩ := tk_mint (K := K) h
  obtain ⟨x, y⟩ := vf_ok (K := K) (now := now) (ep := ep) e (by rw [t, hd32_mint]) (by rw [n3]; exact h3) (by rw [n2]; exact h4)
  exact ⟨x, by rw [y, n0], by rw [y, n1], by rw [y, n2], by rw [y, n3]⟩
theorem vf_mint_late (h : Mt a b c d) {now ep : Int} (h3 : d < now) : vfE K (mint K a b c d) now ep = 21 := by
  obtain ⟨e, t, n0, n1, n2, n3⟩ := tk_mint (K := K) h
  exact vf_late e (by rw [t, hd32_mint]) (by rw [n3]; exact h3)
theorem vf_mint_epoch (h : Mt a b c d) {now ep : Int} (h3 : ¬ d < now) (h4 : ¬ c = ep) : vfE K (mint K a b c d) now ep = 22 := by
  obtain ⟨e, t, n0, n1, n2, n3⟩ := tk_mint (K := K) h
  exact vf_epoch e (by rw [t, hd32_mint]) (by rw [n3]; exact h3) (by rw [n2]; exact h4)
/-- A token with another tag. -/
theorem vf_wrong (h : Mt a b c d) {now ep : Int} {t : ByteArray} (ht : t.size = 32) (hn : ¬ t = tag K (cB a b c d)) : vfE K (cB a b c d ++ t) now ep = 20 := by
  obtain ⟨e, t', _⟩ := tk_claims h (s := cB a b c d ++ t) (by rw [ByteArray.size_append, ht]; omega) (hd32_app ht)
  refine vf_tag e ?_
  rw [t', tl32_app ht, hd32_app ht]
  exact hn
end

end Go.Proofs.YtkelipedpjmmaaaDoor.M
