/-
  What is read as a value are just its bytes: written again they are the bytes that were read. No Go text is in sight.
-/
import Derived.Test.YtkelipedpjmmaaaDoorMathI
namespace Go.Proofs.YtkelipedpjmmaaaDoor.M
open Go.Proofs.YtkelipedpjmmaaaDoor.Wu

theorem sh_step {y z : Int} (h0 : 0 ≤ z) (h1 : z < 256) : ∀ i, sh (y * 256 + z) (i + 1) = sh y i
  | 0 => by simp only [sh]; omega
  | i + 1 => by
    have e := sh_step (y := y) h0 h1 i
    show sh (y * 256 + z) (i + 1) / 256 = sh y i / 256
    rw [e]
theorem be_snoc {y z : Int} (h0 : 0 ≤ z) (h1 : z < 256) : ∀ k, be (k + 1) (y * 256 + z) = be k y ++ [UInt8.ofNat z.toNat]
  | 0 => by
    have e : (y * 256 + z) % 256 = z := by omega
    simp only [be, sh, e, List.nil_append]
  | k + 1 => by
    have e := be_snoc (y := y) h0 h1 k
    have e2 := sh_step (y := y) h0 h1 k
    show UInt8.ofNat (sh (y * 256 + z) (k + 1) % 256).toNat :: be (k + 1) (y * 256 + z) = UInt8.ofNat (sh y k % 256).toNat :: be k y ++ _
    rw [e2, e]
    rfl
theorem byte_at {s : ByteArray} {a : Nat} (h : a < s.size) : s.data.toList.drop a = UInt8.ofNat (bt s a).toNat :: s.data.toList.drop (a + 1) := by
  have h2 : a < s.data.toList.length := by rw [Array.length_toList]; exact h
  rw [List.drop_eq_getElem_cons h2]
  congr 1
  unfold bt
  rw [dif_pos h]
  have e : s.data.toList[a] = s[a] := by rw [Array.getElem_toList]; rfl
  rw [e]
  simp
theorem bytes_at {s : ByteArray} {a : Nat} : ∀ k, a + k ≤ s.size → s.data.toList.drop a = be k (num s a k) ++ s.data.toList.drop (a + k)
  | 0, _ => by simp [be]
  | k + 1, h => by
    have e := bytes_at (s := s) (a := a) k (by omega)
    have e2 := byte_at (s := s) (a := a + k) (by omega)
    have hb := bt_range s (a + k)
    have e3 : num s a (k + 1) = num s a k * 256 + bt s (a + k) := rfl
    rw [e3, be_snoc hb.1 (by omega), List.append_assoc]
    rw [e2] at e
    exact e
/-- What a Get that goes well has read. -/
theorem got {s : ByteArray} {a : Nat} {w : Int} (h : gE s (a : Int) w = 0) : ∃ k : Nat, w = (k : Int) ∧ 1 ≤ k ∧ k ≤ 8 ∧ a + k ≤ s.size ∧ gX s (a : Int) w = ((a + k : Nat) : Int) ∧ s.data.toList.drop a = be k (gN s (a : Int) w) ++ s.data.toList.drop (a + k) := by
  by_cases c : w < 1 ∨ 8 < w ∨ (a : Int) < 0 ∨ (s.size : Int) < (a : Int)
  · have := (g_arg c).1; omega
  by_cases c1 : (s.size : Int) - (a : Int) < w
  · have := (g_short c c1).1; omega
  obtain ⟨_, e2, e3⟩ := g_ok c c1
  refine ⟨w.toNat, by omega, by omega, by omega, by omega, by omega, ?_⟩
  have h2 := bytes_at (s := s) (a := a) w.toNat (by omega)
  rw [e2, Int.toNat_natCast]
  exact h2

/-- From a place on there are these bytes. -/
def Lies (s : ByteArray) (a : Nat) (b : List UInt8) : Prop := a + b.length ≤ s.size ∧ s.data.toList.drop a = b ++ s.data.toList.drop (a + b.length)
theorem Lies.app {s : ByteArray} {a : Nat} {b c : List UInt8} (h : Lies s a b) (k : Lies s (a + b.length) c) : Lies s a (b ++ c) := by
  refine ⟨by rw [List.length_append]; have := k.1; omega, ?_⟩
  rw [h.2, k.2, List.length_append, List.append_assoc, Nat.add_assoc]
theorem lies_get {s : ByteArray} {a : Nat} {w : Nat} (h : gE s (a : Int) (w : Int) = 0) : Lies s a (be w (gN s (a : Int) (w : Int))) ∧ gX s (a : Int) (w : Int) = ((a + w : Nat) : Int) := by
  obtain ⟨k, e1, _, _, h3, h4, h5⟩ := got h
  have e : k = w := by omega
  subst e
  exact ⟨⟨by rw [be_length]; exact h3, by rw [be_length]; exact h5⟩, h4⟩
theorem be_1 {x : Int} (h0 : 0 ≤ x) (h1 : x < 256) : be 1 x = [UInt8.ofNat x.toNat] := by
  have e : x % 256 = x := by omega
  simp only [be, sh, e]

theorem z0 : -9223372036854775808 ≤ (0 : Int) ∧ (0 : Int) < 9223372036854775808 := by decide
theorem z1 : -9223372036854775808 ≤ (1 : Int) ∧ (1 : Int) < 9223372036854775808 := by decide
theorem z2 : -9223372036854775808 ≤ (2 : Int) ∧ (2 : Int) < 9223372036854775808 := by decide
theorem ze : (⟨#[]⟩ : ByteArray).size ≤ 140737488355328 := by decide
theorem zu : (0 : Int) ≤ 0 ∧ (0 : Int) < 18446744073709551616 := by decide
theorem numR_back {s : ByteArray} {a : Nat} {x : Int × Int} (h : numR s (a : Int) = .ok x) : (0 ≤ x.1 ∧ x.1 < 18446744073709551616) ∧ Lies s a (UInt8.ofNat (wid x.1) :: be (wid x.1) x.1) ∧ x.2 = ((a + (1 + wid x.1) : Nat) : Int) := by
  unfold numR at h
  split at h; · cases h
  rename_i c1
  have c1' : gE s (a : Int) ((1 : Nat) : Int) = 0 := by simpa using c1
  obtain ⟨l1, x1⟩ := lies_get c1'
  have hN := (gN_range s (a : Int) 1).1
  have hN2 := gN_1 s (a : Int)
  rw [show gN s (a : Int) ((1 : Nat) : Int) = gN s (a : Int) 1 from rfl, be_1 hN hN2] at l1
  have x1' : gX s (a : Int) 1 = ((a + 1 : Nat) : Int) := x1
  split at h; · cases h
  split at h
  · rename_i c2 c3
    cases h
    refine ⟨zu, ?_, ?_⟩
    · rw [c3] at l1
      have : (UInt8.ofNat (wid 0) :: be (wid 0) 0) = [UInt8.ofNat (0 : Int).toNat] := by rw [wid_zero]; rfl
      rw [this]; exact l1
    · rw [x1', wid_zero]
  rename_i c2 c3
  split at h; · cases h
  rename_i c4
  split at h; · cases h
  rename_i c5
  cases h
  simp only
  rw [x1'] at c4 c5 ⊢
  have hM := gN_range s ((a + 1 : Nat) : Int) (gN s (a : Int) 1)
  have c5' : (wid (gN s ((a + 1 : Nat) : Int) (gN s (a : Int) 1)) : Int) = gN s (a : Int) 1 := by omega
  have c4' : gE s ((a + 1 : Nat) : Int) ((wid (gN s ((a + 1 : Nat) : Int) (gN s (a : Int) 1)) : Nat) : Int) = 0 := by rw [c5']; omega
  obtain ⟨l2, x2⟩ := lies_get c4'
  rw [c5'] at l2 x2
  refine ⟨hM, ?_, ?_⟩
  · have e : (gN s (a : Int) 1).toNat = wid (gN s ((a + 1 : Nat) : Int) (gN s (a : Int) 1)) := by omega
    rw [e] at l1
    exact l1.app l2
  · rw [x2]
    congr 1
    omega
theorem textR_back {s : ByteArray} {a : Nat} {x : ByteArray × Int} (h : textR s (a : Int) = .ok x) : x.1.size ≤ 4096 ∧ Lies s a (be 2 (x.1.size : Int) ++ x.1.data.toList) ∧ x.2 = ((a + (2 + x.1.size) : Nat) : Int) := by
  unfold textR at h
  split at h; · cases h
  rename_i c1
  split at h; · cases h
  rename_i c2
  cases h
  simp only
  have c1' : xE s (a : Int) = 0 := by omega
  have cg : gE s (a : Int) 2 = 0 := by
    by_cases c : gE s (a : Int) 2 = 0
    · exact c
    · rw [(x_err c).1] at c1'; exact absurd c1' c
  have ck : ¬ (s.size : Int) - gX s (a : Int) 2 < gN s (a : Int) 2 := fun hh => by
    rw [(x_short cg hh).1] at c1'; exact absurd c1' (by decide)
  obtain ⟨_, e2, e3⟩ := x_ok cg ck
  obtain ⟨l1, x1⟩ := lies_get (w := 2) cg
  have x1' : gX s (a : Int) 2 = ((a + 2 : Nat) : Int) := x1
  obtain ⟨n0, n1, _, _⟩ := g_two cg
  obtain ⟨N, hN⟩ : ∃ N : Nat, gN s (a : Int) 2 = (N : Int) := ⟨(gN s (a : Int) 2).toNat, by omega⟩
  rw [x1', hN] at e2 e3 ck
  rw [Int.toNat_natCast, Int.toNat_natCast] at e2
  have hle : a + 2 + N ≤ s.size := by omega
  have hz : (xB s (a : Int)).size = N := by rw [e2, ByteArray.size_extract]; omega
  have hd : (xB s (a : Int)).data.toList = (s.data.toList.drop (a + 2)).take N := by
    rw [e2, ByteArray.data_extract, Array.toList_extract]
    simp [List.take_drop]
  refine ⟨by omega, ?_, ?_⟩
  · have l1' : Lies s a (be 2 (N : Int)) := by rw [← hN]; exact l1
    rw [hz]
    refine l1'.app ?_
    rw [be_length]
    have hl : (xB s (a : Int)).data.toList.length = N := by rw [Array.length_toList]; exact hz
    refine ⟨by rw [hl]; exact hle, ?_⟩
    rw [hl, hd]
    have h9 := (List.take_append_drop N (s.data.toList.drop (a + 2))).symm
    rw [List.drop_drop] at h9
    exact h9
  · rw [e3, hz]
    omega

/-- A value whose bytes were read. -/
def Was (s : ByteArray) (a d : Nat) (x : V × Int) : Prop := ∃ b, enc1 x.1.k x.1.n x.1.s x.1.l.len d (encF x.1.l (d + 1)) = .ok b ∧ Lies s a b ∧ x.2 = ((a + b.length : Nat) : Int) ∧ (F.cons x.1.k x.1.n x.1.s x.1.l .nil).ok

theorem row_back {s : ByteArray} {v : Int → Except Int (V × Int)} {d : Nat} (hv : ∀ (a : Nat) x, v (a : Int) = .ok x → Was s a d x) : ∀ {c a : Nat} {y : F × Int}, a ≤ s.size → rowR v c (a : Int) = .ok y → ∃ b, encF y.1 d = .ok b ∧ Lies s a b ∧ y.2 = ((a + b.length : Nat) : Int) ∧ y.1.ok ∧ y.1.len = c
  | 0, a, y, ha, h => by
    simp only [rowR] at h
    cases h
    exact ⟨[], rfl, ⟨by simpa using ha, by simp⟩, by simp, trivial, rfl⟩
  | c + 1, a, y, ha, h => by
    simp only [rowR] at h
    cases h1 : v (a : Int) with
    | error e => rw [h1] at h; cases h
    | ok x =>
      rw [h1] at h
      simp only at h
      obtain ⟨b1, e1, l1, p1, o1⟩ := hv a x h1
      rw [p1] at h
      cases h2 : rowR v c ((a + b1.length : Nat) : Int) with
      | error e => rw [h2] at h; cases h
      | ok z =>
        rw [h2] at h
        cases h
        obtain ⟨b2, e2, l2, p2, o2, n2⟩ := row_back hv l1.1 h2
        refine ⟨b1 ++ b2, ?_, l1.app l2, ?_, ⟨o1.1, o1.2.1, o1.2.2.1, o1.2.2.2.1, o2⟩, by simp [F.len, n2]⟩
        · simp only [encF, e1, e2, cat]
        · simp only
          rw [p2, List.length_append, Nat.add_assoc]

theorem val_back {s : ByteArray} : ∀ (m d a : Nat) (x : V × Int), m + d = 8 → valR s m (a : Int) = .ok x → Was s a d x := by
  intro m
  induction m with
  | zero =>
    intro d a x hm h
    rw [valR_eq] at h
    split at h; · cases h
    rename_i c1
    obtain ⟨l1, x1⟩ := lies_get (w := 1) (show gE s (a : Int) ((1 : Nat) : Int) = 0 by simpa using c1)
    have x1' : gX s (a : Int) 1 = ((a + 1 : Nat) : Int) := x1
    rw [x1'] at h
    split at h
    · rename_i k1
      rw [show gN s (a : Int) ((1 : Nat) : Int) = gN s (a : Int) 1 from rfl, k1] at l1
      cases hx : numR s ((a + 1 : Nat) : Int) with
      | error e => rw [hx] at h; cases h
      | ok y =>
        rw [hx] at h
        cases h
        obtain ⟨r1, r2, r3⟩ := numR_back hx
        refine ⟨numB (unfoldI y.1), enc_int _ _ _ _ _, ?_, ?_, ⟨z0, unfold_range r1.1 r1.2, ze, trivial, trivial⟩⟩
        · unfold numB; rw [fold_unfold _ r1.1]; exact l1.app r2
        · rw [numB_length, fold_unfold _ r1.1, r3]; congr 1; omega
    split at h
    · rename_i k1
      rw [show gN s (a : Int) ((1 : Nat) : Int) = gN s (a : Int) 1 from rfl, k1] at l1
      cases hx : textR s ((a + 1 : Nat) : Int) with
      | error e => rw [hx] at h; cases h
      | ok y =>
        rw [hx] at h
        cases h
        obtain ⟨r1, r2, r3⟩ := textR_back hx
        refine ⟨_, enc_text (by show ¬ 4096 < y.1.size; omega), l1.app r2, ?_, ⟨z1, z0, by show y.1.size ≤ _; omega, trivial, trivial⟩⟩
        have : y.1.data.toList.length = y.1.size := Array.length_toList
        simp only [List.length_cons, List.length_append, be_length]
        rw [r3]; congr 1; omega
    split at h
    · cases h
    · cases h
  | succ m ih =>
    intro d a x hm h
    rw [valR_eq] at h
    split at h; · cases h
    rename_i c1
    obtain ⟨l1, x1⟩ := lies_get (w := 1) (show gE s (a : Int) ((1 : Nat) : Int) = 0 by simpa using c1)
    have x1' : gX s (a : Int) 1 = ((a + 1 : Nat) : Int) := x1
    rw [x1'] at h
    split at h
    · rename_i k1
      rw [show gN s (a : Int) ((1 : Nat) : Int) = gN s (a : Int) 1 from rfl, k1] at l1
      cases hx : numR s ((a + 1 : Nat) : Int) with
      | error e => rw [hx] at h; cases h
      | ok y =>
        rw [hx] at h
        cases h
        obtain ⟨r1, r2, r3⟩ := numR_back hx
        refine ⟨numB (unfoldI y.1), enc_int _ _ _ _ _, ?_, ?_, ⟨z0, unfold_range r1.1 r1.2, ze, trivial, trivial⟩⟩
        · unfold numB; rw [fold_unfold _ r1.1]; exact l1.app r2
        · rw [numB_length, fold_unfold _ r1.1, r3]; congr 1; omega
    split at h
    · rename_i k1
      rw [show gN s (a : Int) ((1 : Nat) : Int) = gN s (a : Int) 1 from rfl, k1] at l1
      cases hx : textR s ((a + 1 : Nat) : Int) with
      | error e => rw [hx] at h; cases h
      | ok y =>
        rw [hx] at h
        cases h
        obtain ⟨r1, r2, r3⟩ := textR_back hx
        refine ⟨_, enc_text (by show ¬ 4096 < y.1.size; omega), l1.app r2, ?_, ⟨z1, z0, by show y.1.size ≤ _; omega, trivial, trivial⟩⟩
        have : y.1.data.toList.length = y.1.size := Array.length_toList
        simp only [List.length_cons, List.length_append, be_length]
        rw [r3]; congr 1; omega
    split at h
    · rename_i k1
      rw [show gN s (a : Int) ((1 : Nat) : Int) = gN s (a : Int) 1 from rfl, k1] at l1
      simp only [listR] at h
      split at h; · cases h
      rename_i c2
      split at h; · cases h
      rename_i c3
      obtain ⟨l2, x2⟩ := lies_get (w := 2) (show gE s ((a + 1 : Nat) : Int) ((2 : Nat) : Int) = 0 by simpa using c2)
      have x2' : gX s ((a + 1 : Nat) : Int) 2 = ((a + 1 + 2 : Nat) : Int) := x2
      obtain ⟨n0, n1, _, _⟩ := g_two (show gE s ((a + 1 : Nat) : Int) 2 = 0 by simpa using c2)
      obtain ⟨N, hN⟩ : ∃ N : Nat, gN s ((a + 1 : Nat) : Int) 2 = (N : Int) := ⟨(gN s ((a + 1 : Nat) : Int) 2).toNat, by omega⟩
      rw [x2', hN, Int.toNat_natCast] at h
      rw [show gN s ((a + 1 : Nat) : Int) ((2 : Nat) : Int) = gN s ((a + 1 : Nat) : Int) 2 from rfl, hN] at l2
      cases hx : rowR (valR s m) N ((a + 1 + 2 : Nat) : Int) with
      | error e => rw [hx] at h; cases h
      | ok y =>
        rw [hx] at h
        cases h
        have l2' := l2.1
        rw [be_length] at l2'
        obtain ⟨b, r1, r2, r3, r4, r5⟩ := row_back (d := d + 1) (fun a x hh => ih (d + 1) a x (by omega) hh) l2' hx
        refine ⟨3 :: be 2 (y.1.len : Int) ++ b, ?_, ?_, ?_, ⟨z2, z0, ze, r4, trivial⟩⟩
        · show enc1 2 0 ⟨#[]⟩ y.1.len d (encF y.1 (d + 1)) = _
          rw [enc_list (by omega), r1]; rfl
        · rw [r5]
          have l3 : Lies s a ([3] ++ (be 2 (N : Int) ++ b)) := l1.app (l2.app (by rw [be_length]; exact r2))
          exact l3
        · rw [r3, r5]
          simp only [List.length_cons, List.length_append, be_length]
          congr 1
          omega
    · cases h

/-- All bytes that are read are a value's. -/
theorem all_back {s : ByteArray} {v : V} (h : allR s = .ok v) : encV v.k v.n v.s v.l = .ok s.data.toList ∧ (F.cons v.k v.n v.s v.l .nil).ok := by
  unfold allR at h
  cases hx : valR s 8 0 with
  | error e => rw [hx] at h; cases h
  | ok x =>
    rw [hx] at h
    simp only at h
    split at h
    · rename_i c
      cases h
      obtain ⟨b, e1, e2, e3, e4⟩ := val_back 8 0 0 x rfl hx
      refine ⟨?_, e4⟩
      have hl : b.length = s.size := by omega
      have h2 := e2.2
      have h3 : s.data.toList.length = s.size := Array.length_toList
      rw [Nat.zero_add, hl, ← h3, List.drop_length, List.append_nil, List.drop_zero] at h2
      rw [h2]
      exact e1
    · cases h

end Go.Proofs.YtkelipedpjmmaaaDoor.M
