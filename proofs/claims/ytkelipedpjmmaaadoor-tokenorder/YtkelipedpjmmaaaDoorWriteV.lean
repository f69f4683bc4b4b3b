/-
  The walks of pack's writer, over values and lists: see the text ahead of this one; each lays the bytes that 'enc1', 'encF' say, or leaves by a fault with the first error.
-/
import Derived.Test.YtkelipedpjmmaaaDoorWrite
namespace Go.Proofs.YtkelipedpjmmaaaDoor.Ww
open Go.ChangeShapes Go.WideShapes Go.ChangeAt Go.RowKit Go.Proofs.YtkelipedpjmmaaaDoor.M Go.Proofs.YtkelipedpjmmaaaDoor.Wf Go.Proofs.YtkelipedpjmmaaaDoor.We

theorem valueInt (b : Nat) (l : List UInt8) (n : Int) (s : ByteArray) (p : Option Addr) (len cap d : Nat) (w : World) (h1 : -9223372036854775808 ≤ n) (h2 : n < 9223372036854775808) (hd : Bd w b l) (hl : l.length + (2 + wid (foldI n)) ≤ 140737488355328) :
    Calls Tryd.prog 53 #[.pointer (some ⟨b, 0, none⟩), .agg #[.int .i64 0, .int .i64 n, .string s, .slice p len cap], .int .i64 (d : Int)] w fun e w' => e = .returned (.tuple #[]) ∧ Bd w' b (l ++ numB n) ∧ Below b w w' := by
  obtain ⟨f1, f2⟩ := fold_range h1 h2
  have w8 := wid_8 f2
  have hlt := hd.lt
  have CF : Hid (∀ W, Calls Tryd.prog 68 #[.int .i64 n] W fun e w' => e = .returned (.int .u64 (foldI n)) ∧ W = w') := fun W => (Wk.fold n W h1 h2).mono (fun _ _ h => ⟨h.1, h.2.symm⟩)
  have CZ : Hid (∀ W, Calls Tryd.prog 69 #[.int .u64 (foldI n)] W fun e w' => e = .returned (.int .i64 (wid (foldI n))) ∧ W = w') := fun W => Wz.width (foldI n) W f1 f2
  have hn : numB n = 1 :: UInt8.ofNat (wid (foldI n)) :: be (wid (foldI n)) (foldI n) := rfl
  rw [hn]
  clear hn
  generalize foldI n = m at *
  generalize wid m = k at *
  have HD : Hid (Bd w b l) := hd
  clear hd
  go_enter Tryd.func53, Tryd.ntmps53
  go_wp2_with fail
  refine (CF.out _).mono ?_
  rintro e w1 ⟨rfl, rfl⟩
  go_wp2_with fail
  refine (CZ.out _).mono ?_
  rintro e w1 ⟨rfl, rfl⟩
  go_wp2_with fail
  refine (number b l 1 1 1 _ (by omega) rfl (by decide) (by decide) (HD.out.below ((Below.refl _ _).alloc (Nat.le_refl _) _)) (by omega)).mono ?_
  rintro e w1 ⟨rfl, d1, b1⟩
  have D1 : Hid _ := d1
  clear d1
  go_wp2_with fail
  refine (number b _ 1 k 1 _ (by omega) rfl (by omega) (by omega) D1.out (by simp [be_length]; omega)).mono ?_
  rintro e w2 ⟨rfl, d2, b2⟩
  have D2 : Hid _ := d2
  clear d2
  go_wp2_with fail
  refine (number b _ k m k _ w8 rfl f1 f2 D2.out (by simp [be_length]; omega)).mono ?_
  rintro e w3 ⟨rfl, d3, b3⟩
  go_wp2_with fail
  go_end0
  refine ⟨rfl, ?_, (((Below.refl _ _).alloc (Nat.le_refl _) _).mono (Nat.le_of_lt hlt)).trans (b1.trans (b2.trans b3))⟩
  have e1 : UInt8.ofNat ((k : Int) % 256).toNat = UInt8.ofNat k := by congr 1; omega
  have e2 : UInt8.ofNat ((1 : Int) % 256).toNat = 1 := rfl
  rw [be_one, be_one, e1, e2] at d3
  simpa using d3

theorem valueNone (b : Nat) (k n : Int) (s : ByteArray) (p : Option Addr) (len cap d : Nat) (w : World) (h0 : k ≠ 0) (h1 : k ≠ 1) (h2 : k ≠ 2) (hb : b ≤ w.heap.size) :
    Calls Tryd.prog 53 #[.pointer (some ⟨b, 0, none⟩), .agg #[.int .i64 k, .int .i64 n, .string s, .slice p len cap], .int .i64 (d : Int)] w fun e w' => e = .panicked (flt 2) ∧ Below b w w' := by
  have g0 : (k == 0) = false := by simpa using h0
  have g1 : (k == 1) = false := by simpa using h1
  have g2 : (k == 2) = false := by simpa using h2
  clear h0 h1 h2
  go_enter Tryd.func53, Tryd.ntmps53
  go_wp2_with fail
  refine (fail _ _).mono ?_
  rintro x w1 ⟨rfl, rfl⟩
  go_wp2_with fail
  exact ⟨rfl, rfl, ((Below.refl _ _).alloc (Nat.le_refl _) _).mono hb⟩

theorem valueText (r : Except Int (List UInt8)) (b : Nat) (l : List UInt8) (n : Int) (s : ByteArray) (p : Option Addr) (len cap d : Nat) (w : World)
    (C : ∀ W, Below w.heap.size w W → Calls Tryd.prog 71 #[.pointer (some ⟨b, 0, none⟩), .string s] W fun e w' => Wrote r b l W e w') (hb : b ≤ w.heap.size) :
    Calls Tryd.prog 53 #[.pointer (some ⟨b, 0, none⟩), .agg #[.int .i64 1, .int .i64 n, .string s, .slice p len cap], .int .i64 (d : Int)] w fun e w' => Wrote r b l w e w' := by
  have H : Hid _ := C
  clear C
  go_enter Tryd.func53, Tryd.ntmps53
  go_wp2_with fail
  refine (H.out _ ((Below.refl _ _).alloc (Nat.le_refl _) _)).mono ?_
  rintro e w1 ⟨b1, h1⟩
  cases r with
  | ok a =>
    obtain ⟨rfl, d1⟩ := h1
    have D1 : Hid _ := d1
    clear d1
    go_wp2_with fail
    go_end0
    exact ⟨(((Below.refl _ _).alloc (Nat.le_refl _) _).mono hb).trans b1, rfl, D1.out⟩
  | error c =>
    simp only at h1
    subst h1
    go_wp2_with fail
    exact ⟨rfl, (((Below.refl _ _).alloc (Nat.le_refl _) _).mono hb).trans b1, rfl⟩

theorem valueList (r : Except Int (List UInt8)) (b : Nat) (l : List UInt8) (n : Int) (s : ByteArray) (p : Option Addr) (len cap d : Nat) (w : World)
    (C : ∀ W, Below w.heap.size w W → Calls Tryd.prog 72 #[.pointer (some ⟨b, 0, none⟩), .slice p len cap, .int .i64 (d : Int)] W fun e w' => Wrote r b l W e w') (hb : b ≤ w.heap.size) :
    Calls Tryd.prog 53 #[.pointer (some ⟨b, 0, none⟩), .agg #[.int .i64 2, .int .i64 n, .string s, .slice p len cap], .int .i64 (d : Int)] w fun e w' => Wrote r b l w e w' := by
  have H : Hid _ := C
  clear C
  go_enter Tryd.func53, Tryd.ntmps53
  go_wp2_with fail
  refine (H.out _ ((Below.refl _ _).alloc (Nat.le_refl _) _)).mono ?_
  rintro e w1 ⟨b1, h1⟩
  cases r with
  | ok a =>
    obtain ⟨rfl, d1⟩ := h1
    have D1 : Hid _ := d1
    clear d1
    go_wp2_with fail
    go_end0
    exact ⟨(((Below.refl _ _).alloc (Nat.le_refl _) _).mono hb).trans b1, rfl, D1.out⟩
  | error c =>
    simp only at h1
    subst h1
    go_wp2_with fail
    exact ⟨rfl, (((Below.refl _ _).alloc (Nat.le_refl _) _).mono hb).trans b1, rfl⟩

/-- A value, out of what its list comes to. -/
theorem value0 (b : Nat) (l : List UInt8) (k n : Int) (s : ByteArray) (f : F) (p : Option Addr) (cap d : Nat) (w : World) (hok : (F.cons k n s f .nil).ok) (hd : Bd w b l) (hl : l.length + wt1 k n s f.wt ≤ 140737488355328)
    (C : k = 2 → ∀ W, Below w.heap.size w W → Calls Tryd.prog 72 #[.pointer (some ⟨b, 0, none⟩), .slice p f.len cap, .int .i64 (d : Int)] W fun e w' => Wrote (enc1 2 n s f.len d (encF f (d + 1))) b l W e w') :
    Calls Tryd.prog 53 #[.pointer (some ⟨b, 0, none⟩), .agg #[.int .i64 k, .int .i64 n, .string s, .slice p f.len cap], .int .i64 (d : Int)] w fun e w' => Wrote (enc1 k n s f.len d (encF f (d + 1))) b l w e w' := by
  by_cases c0 : k = 0
  · subst c0
    rw [enc_int]
    refine (valueInt b l n s p f.len cap d w hok.2.1.1 hok.2.1.2 hd ?_).mono (fun e w' h => ⟨h.2.2, h.1, h.2.1⟩)
    simpa [wt1] using hl
  · by_cases c1 : k = 1
    · subst c1
      refine valueText _ b l n s p f.len cap d w (fun W hW => ?_) (Nat.le_of_lt hd.lt)
      by_cases c2 : 4096 < s.size
      · rw [enc_long c2]
        exact (textLong b s W hok.2.2.1 c2).mono (fun e w' h => ⟨h.2 ▸ Below.refl _ _, h.1⟩)
      · rw [enc_text c2]
        refine (textOk b l s W (hd.below hW) c2 ?_).mono (fun e w' h => ⟨h.2.2, h.1, h.2.1⟩)
        simpa [wt1, c2] using hl
    · by_cases c2 : k = 2
      · have C2 := C c2
        subst c2
        exact valueList _ b l n s p f.len cap d w C2 (Nat.le_of_lt hd.lt)
      · rw [enc_none c0 c1 c2]
        exact (valueNone b k n s p f.len cap d w c0 c1 c2 (Nat.le_of_lt hd.lt)).mono (fun e w' h => ⟨h.2, h.1⟩)

end Go.Proofs.YtkelipedpjmmaaaDoor.Ww
