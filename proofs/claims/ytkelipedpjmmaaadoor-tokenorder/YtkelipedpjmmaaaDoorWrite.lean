/-
  The walks of pack's writer: number, text, list, value: each lays the bytes that 'encF' says behind what stands in its builder, or leaves by a fault with the first error. Nothing below the builder's block has turned. Conditions: the values can be read, lie below the builder's block, and all bytes are at most 2^47.
-/
import Derived.Test.YtkelipedpjmmaaaDoorBld
import Derived.Test.YtkelipedpjmmaaaDoorFail
import Derived.Test.YtkelipedpjmmaaaDoorWid
import Derived.Test.YtkelipedpjmmaaaDoorFold
import Derived.Test.YtkelipedpjmmaaaDoorText
import Derived.Test.YtkelipedpjmmaaaDoorEqual
import Derived.WalkSmall
namespace Go.Proofs.YtkelipedpjmmaaaDoor.Ww
open Go.ChangeShapes Go.WideShapes Go.ChangeAt Go.RowKit Go.Proofs.YtkelipedpjmmaaaDoor.M Go.Proofs.YtkelipedpjmmaaaDoor.Wf

/-- A builder, the field of a writer in block b, with these bytes. -/
def Bd (w : World) (b : Nat) (l : List UInt8) : Prop := Lib.IsBuilder 107 5 b b (Lib.byteCells l) w

theorem at_of {T e : TypeId} {B b : Nat} {p : Value} {bs : List Value} {w w' : World} (h : Lib.BuilderAt T e B b p bs w) (hb : Below w.heap.size w w') : Lib.BuilderAt T e B b p bs w' := by
  obtain ⟨hB, v, hbk, ⟨ho1, ho2⟩, hne⟩ := h
  refine ⟨hB, v, (hb.block b (lt_of_heap hbk)).trans hbk, ⟨ho1, ?_⟩, hne⟩
  rcases ho2 with ho2 | ⟨g, cap, cur, h1, h2, h3, h4⟩
  · exact .inl ho2
  · exact .inr ⟨g, cap, cur, h1, h2, (hb.block g (lt_of_heap h3)).trans h3, h4⟩
theorem Bd.below {w w' : World} {b : Nat} {l : List UInt8} (h : Bd w b l) (hb : Below w.heap.size w w') : Bd w' b l := by
  rcases h with h | h
  · exact .inl (at_of h hb)
  · exact .inr (at_of h hb)
theorem Bd.lt {w : World} {b : Nat} {l : List UInt8} (h : Bd w b l) : b < w.heap.size := by
  rcases h with h | h
  · exact h.lt
  · exact h.lt

theorem write (b : Nat) (l : List UInt8) (s : ByteArray) (w : World) (h : Bd w b l) (hl : l.length + s.size ≤ 140737488355328) :
    Calls Tryd.prog 63 #[.pointer (some ⟨b, 0, none⟩), .string s] w fun e w' => e = .returned (.tuple #[.int .i64 s.size, .nilIface]) ∧ Bd w' b (l ++ s.data.toList) ∧ Below b w w' :=
  (Wd.write b b (Lib.byteCells l) s w h (by rw [Lib.byteCells_length]; exact hl) (Nat.le_of_lt h.lt)).mono (fun e w' hh => ⟨hh.1, by unfold Bd; rw [Lib.byteCells_append]; exact hh.2.1, hh.2.2⟩)

set_option maxHeartbeats 1000000 in
theorem number (b : Nat) (l : List UInt8) (width n : Int) (k : Nat) (w : World) (hk : k ≤ 8) (hw : width = k) (h0 : 0 ≤ n) (h1 : n < 18446744073709551616) (h : Bd w b l) (hl : l.length + k ≤ 140737488355328) :
    Calls Tryd.prog 70 #[.pointer (some ⟨b, 0, none⟩), .int .i64 width, .int .u64 n] w fun e w' => e = .returned (.tuple #[]) ∧ Bd w' b (l ++ be k n) ∧ Below b w w' := by
  subst hw
  have CP : Hid (∀ W, Below w.heap.size w W → Calls Tryd.prog 62 #[.int .i64 (k : Int), .int .u64 n] W fun e w' => e = .returned (.string (beB k n)) ∧ Below w.heap.size w w') :=
    fun W hW => (Wp.put (k : Int) n k W hk (by omega) h0 h1).mono (fun e w' hh => ⟨hh.1, hW.trans (hh.2.mono hW.size)⟩)
  have CW : Hid (∀ W, Below w.heap.size w W → Calls Tryd.prog 63 #[.pointer (some ⟨b, 0, none⟩), .string (beB k n)] W fun e w' => e = .returned (.tuple #[.int .i64 (beB k n).size, .nilIface]) ∧ Hid (Bd w' b (l ++ be k n)) ∧ Below b w w') :=
    fun W hW => (write b l (beB k n) W (h.below hW) (by rw [beB_size]; exact hl)).mono (fun e w' hh => ⟨hh.1, hh.2.1, (hW.mono (Nat.le_of_lt h.lt)).trans hh.2.2⟩)
  clear hk h0 h1 h hl
  go_enter Tryd.func70, Tryd.ntmps70
  go_wp2_with fail
  go_region_held3 (fun _ => True) (trivial)
    (first
      | (go_at_call 62; refine (CP.out _ (Below.refl _ _).drew).mono ?_; rintro e w1 ⟨rfl, b1⟩)
      | (go_at_call 63; refine (CW.out _ b1).mono ?_; rintro e w2 ⟨rfl, d2, b2⟩))
  go_wp2_with fail
  go_end0
  exact ⟨rfl, d2.out, b2⟩

/-- What a writer has done: the bytes stand there, or it left by the fault. -/
def Wrote (r : Except Int (List UInt8)) (b : Nat) (l : List UInt8) (w : World) (e : Ending) (w' : World) : Prop :=
  Below b w w' ∧ match r with
    | .ok a => e = .returned (.tuple #[]) ∧ Bd w' b (l ++ a)
    | .error c => e = .panicked (flt c)

theorem textLong (b : Nat) (s : ByteArray) (w : World) (hs : s.size ≤ 140737488355328) (h : 4096 < s.size) :
    Calls Tryd.prog 71 #[.pointer (some ⟨b, 0, none⟩), .string s] w fun e w' => e = .panicked (flt 5) ∧ w = w' := by
  go_enter Tryd.func71, Tryd.ntmps71
  go_wp2_with fail
  refine (fail _ _).mono ?_
  rintro x w1 ⟨rfl, rfl⟩
  go_wp2_with fail
  exact ⟨rfl, rfl, rfl⟩

theorem be_one (n : Int) : be 1 n = [UInt8.ofNat (n % 256).toNat] := rfl

theorem textOk (b : Nat) (l : List UInt8) (s : ByteArray) (w : World) (hd : Bd w b l) (h : ¬ 4096 < s.size) (hl : l.length + (3 + s.size) ≤ 140737488355328) :
    Calls Tryd.prog 71 #[.pointer (some ⟨b, 0, none⟩), .string s] w fun e w' => e = .returned (.tuple #[]) ∧ Bd w' b (l ++ (2 :: (be 2 s.size ++ s.data.toList))) ∧ Below b w w' := by
  obtain ⟨e1, e2⟩ := t_ok (s := s) (by omega)
  have hz : (tB s).size = 2 + s.size := by rw [e2, size_app, beB_size]
  have ht : (tB s).data.toList = be 2 s.size ++ s.data.toList := by rw [e2]; simp [beB]
  have CT : Hid (∀ W, Calls Tryd.prog 88 #[.string s] W fun e w' => e = .returned (.tuple #[.string (tB s), .int .i64 0]) ∧ Below W.heap.size W w') := fun W => (Wt.text s W (by unfold maxLen; omega)).mono (fun e w' hh => by rw [e1] at hh; exact hh)
  have C2 : Hid (∀ W W', Below w.heap.size w W → Bd W' b (l ++ [2]) → Below b W W' → Calls Tryd.prog 63 #[.pointer (some ⟨b, 0, none⟩), .string (tB s)] W' fun e w' => e = .returned (.tuple #[.int .i64 (tB s).size, .nilIface]) ∧ Hid (Bd w' b (l ++ (2 :: (be 2 s.size ++ s.data.toList)))) ∧ Below b W' w') :=
    fun W W' _ hd' _ => (write b (l ++ [2]) (tB s) W' hd' (by rw [hz]; simp; omega)).mono (fun e w' hh => ⟨hh.1, by have := hh.2.1; rw [ht] at this; show Bd w' b _; simpa using this, hh.2.2⟩)
  have HD : Hid (Bd w b l) := hd
  clear e1 e2 hz ht hd
  generalize tB s = t at CT C2
  go_enter Tryd.func71, Tryd.ntmps71
  go_wp2_with fail
  refine (CT.out _).mono ?_
  rintro e w1 ⟨rfl, b1⟩
  go_wp2_with fail
  refine (checkOk _).mono ?_
  rintro e w2 ⟨rfl, rfl⟩
  go_wp2_with fail
  refine (number b l 1 2 1 _ (by omega) rfl (by decide) (by decide) (HD.out.below b1) (by omega)).mono ?_
  rintro e w3 ⟨rfl, d3, b3⟩
  rw [be_one] at d3
  have D3 : Hid _ := d3
  clear d3
  go_wp2_with fail
  refine (C2.out _ _ b1 D3.out b3).mono ?_
  rintro e w4 ⟨rfl, d4, b4⟩
  go_wp2_with fail
  go_end0
  exact ⟨rfl, d4.out, (b1.mono (Nat.le_of_lt HD.out.lt)).trans (b3.trans b4)⟩

theorem listDeep (b : Nat) (len : Nat) (p : Option Addr) (cap d : Nat) (w : World) (hd : d ≤ 8) (h : 256 < len ∨ 8 ≤ d) :
    Calls Tryd.prog 72 #[.pointer (some ⟨b, 0, none⟩), .slice p len cap, .int .i64 (d : Int)] w fun e w' => e = .panicked (flt 5) ∧ w = w' := by
  by_cases c : 256 < len
  · have c' : (256 : Int) < (len : Int) := by omega
    clear h
    go_enter Tryd.func72, Tryd.ntmps72
    go_wp2_with fail
    refine (fail _ _).mono ?_
    rintro x w1 ⟨rfl, rfl⟩
    go_wp2_with fail
    exact ⟨rfl, rfl, rfl⟩
  · have hd8 : d = 8 := by omega
    subst hd8
    have c' : ¬ (256 : Int) < (len : Int) := by omega
    clear h
    go_enter Tryd.func72, Tryd.ntmps72
    go_wp2_with fail
    refine (fail _ _).mono ?_
    rintro x w1 ⟨rfl, rfl⟩
    go_wp2_with fail
    exact ⟨rfl, rfl, rfl⟩

end Go.Proofs.YtkelipedpjmmaaaDoor.Ww
