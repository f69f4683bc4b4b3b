/-
  The walks of area.Join and of the document's Join: each returns what 'jn' says, and nothing that was in memory has turned. Conditions: the texts lie in memory, their lengths are ints, and there are at most 1048576 of them.
-/
import Derived.Test.YtcnonioiggniiaaArI
import Derived.Test.YtcnonioiggniiaaBldT
namespace Go.Proofs.Ytcnonioiggniiaa.War
open Go.ChangeShapes Go.WideShapes Go.ChangeAt Go.RowKit Go.Proofs.Ytcnonioiggniiaa.M

/-- What is gathered, and what is still to come. -/
theorem jn_step {y : Nat → ByteArray} {g : Int} {n i : Nat} {a J : ByteArray} (hi : i < n) (h : a ++ jn y g i (n - i) = J) (c : jOk y g i = true) (hs : ¬ (pD (y i)).size < 55) : (a ++ pD (y i)) ++ jn y g (i + 1) (n - (i + 1)) = J := by
  rw [← h, show n - i = (n - (i + 1)) + 1 by omega, jn_on c hs, ByteArray.append_assoc]
theorem jn_last {y : Nat → ByteArray} {g : Int} {n i : Nat} {a J : ByteArray} (hi : i < n) (h : a ++ jn y g i (n - i) = J) (c : jOk y g i = true) (hs : (pD (y i)).size < 55) : a ++ pD (y i) = J := by
  rw [← h, show n - i = (n - (i + 1)) + 1 by omega, jn_end c hs]
theorem jn_stop {y : Nat → ByteArray} {g : Int} {n i : Nat} {a J : ByteArray} (h : a ++ jn y g i (n - i) = J) (c : jOk y g i = false) : a = J := by
  rw [← h, jn_no c, app_nil]
theorem j_no1 {y : Nat → ByteArray} {g : Int} {k : Nat} (h : pOk (y k) = false) : jOk y g k = false := by unfold jOk; rw [h]; rfl
theorem j_no2 {y : Nat → ByteArray} {g : Int} {k : Nat} (h : ¬ pG (y k) = g) : jOk y g k = false := by
  rw [Bool.eq_false_iff]
  exact fun c => h (j_of c).2.1
theorem j_no3 {y : Nat → ByteArray} {g : Int} {k : Nat} (h : ¬ pI (y k) = (k : Int)) : jOk y g k = false := by
  rw [Bool.eq_false_iff]
  exact fun c => h (j_of c).2.2

set_option maxRecDepth 100000 in
set_option maxHeartbeats 2000000 in
theorem join (p : Option Addr) (n cap : Nat) (y : Nat → ByteArray) (g : Int) (w : World) (hy : ∀ i, i < n → (y i).size ≤ maxLen) (hn : n ≤ 1048576) (hL : Lies w p n y) :
    Calls Try.prog 52 #[.slice p n cap, .int .i64 g] w fun e w' => e = .returned (.string (jn y g 0 n)) ∧ Below w.heap.size w w' := by
  have HL := hid hL
  clear hL
  have HY := hid hy
  clear hy
  obtain ⟨J, hJ⟩ : ∃ J, jn y g 0 n = J := ⟨_, rfl⟩
  have J0 : Hid ((⟨#[]⟩ : ByteArray) ++ jn y g 0 (n - 0) = J) := by
    show (⟨#[]⟩ : ByteArray) ++ jn y g 0 (n - 0) = J
    rw [nil_app, Nat.sub_zero, hJ]
  rw [hJ]
  clear hJ
  go_enter Try.func52, Try.ntmps52
  go_wp2
  go_loopw [12] (fun iv wr => ∃ (i : Nat) (a : ByteArray), i ≤ n ∧ iv = .int .i64 (i : Int) ∧ a.size ≤ 55 * i ∧ a ++ jn y g i (n - i) = J ∧ Lib.IsBuilder 108 5 w.heap.size w.heap.size (Lib.byteCells a.data.toList) wr ∧ Below w.heap.size w wr) (fun i _ => n - (intOf i).toNat)
  case atStart => exact ⟨0, ⟨#[]⟩, Nat.zero_le _, rfl, Nat.le_refl _, J0.out, .inl ⟨Nat.le_refl _, _, heap_alloc_new w _, ⟨rfl, .inl ⟨rfl, rfl⟩⟩, by simp [Value.ownBlock]⟩, (Below.refl _ _).alloc (Nat.le_refl _) _⟩
  case round =>
    obtain ⟨i, a, hi, rfl, hsz, hj, hb', hbel⟩ := hrel
    have hz := hbel.size
    have hbw : w.heap.size < wr.heap.size := by
      rcases hb' with ⟨_, _, h, _⟩ | ⟨_, _, h, _⟩
      · exact Wx.lt_of_heap h
      · exact Wx.lt_of_heap h
    have HJJ := hid hj
    clear hj J0
    by_cases hlt : i < n
    · rcases HL.out with h | ⟨b, off, ha, hb, hcell⟩
      · exfalso; omega
      · have hci : wr.cell? ⟨b, off + i, none⟩ = some (.string (y i)) := by rw [← hcell i hlt]; exact hbel.cell (by exact hb)
        have C := hid fun w => parse (y i) w (HY.out i hlt)
        clear hcell
        subst ha
        cases hp : pOk (y i) with
        | false =>
          have E := hid (jn_stop HJJ.out (j_no1 hp))
          rw [hp] at C
          generalize cG (y i) = G at C
          generalize M.cI (y i) = I at C
          generalize cD (y i) = D at C
          generalize y i = Y at hci C hp
          unfold cv at C
          clear hp HJJ
          go_wp2_with fail
          refine (C.out _).mono ?_
          rintro e w1 ⟨rfl, b1⟩
          have B1 := hbel.trans (b1.mono hz)
          have HB1 := Wx.builder_below hb' b1
          have HB := hid (Wx.builder_below HB1 ((Below.refl _ _).alloc (Nat.le_refl _) (.cells #[.int .i64 G, .int .i64 I, .string D] 122)))
          have B := hid (B1.alloc B1.size (.cells #[.int .i64 G, .int .i64 I, .string D] 122))
          clear HB1 B1
          go_wp2_with fail
          refine (Wxs.string_of w.heap.size w.heap.size a _ HB.out ?_).mono ?_
          · exact B.out.size
          rintro e w5 ⟨rfl, b5⟩
          have BB := hid (B.out.trans b5)
          go_wp2
          go_ret
          exact ⟨by rw [← E.out]; rfl, BB.out⟩
        | true =>
          obtain ⟨e1, e2, e3⟩ := p_yes hp
          obtain ⟨_, _, _, _, hD5⟩ := p_of hp
          rw [hp, e1, e2, e3] at C
          clear e1 e2 e3
          by_cases c1 : pG (y i) = g
          · by_cases c2 : pI (y i) = (i : Int)
            · have hk := j_mk hp c1 c2
              rw [c1, c2] at C
              by_cases c3 : (pD (y i)).size < 55
              · have E := hid (jn_last hlt HJJ.out hk c3)
                generalize pD (y i) = D at *
                generalize y i = Y at hci C
                have c3' : (D.size : Int) < 55 := by omega
                unfold cv at C
                clear hp HJJ hk
                go_wp2_with fail
                refine (C.out _).mono ?_
                rintro e w1 ⟨rfl, b1⟩
                have B1 := hbel.trans (b1.mono hz)
                have HB1 := Wx.builder_below hb' b1
                have HB := hid (Wx.builder_below HB1 ((Below.refl _ _).alloc (Nat.le_refl _) (.cells #[.int .i64 g, .int .i64 (i : Int), .string D] 122)))
                have B := hid (B1.alloc B1.size (.cells #[.int .i64 g, .int .i64 (i : Int), .string D] 122))
                have hb1 : w.heap.size < w1.heap.size := Nat.lt_of_lt_of_le hbw b1.size
                have R1 := hid (heap_alloc_new w1 (.cells #[.int .i64 g, .int .i64 (i : Int), .string D] 122))
                clear HB1 B1
                go_wp2_with fail
                refine (Wxs.write_of w.heap.size w.heap.size a D _ HB.out ?_ ?_).mono ?_
                · omega
                · exact B.out.size
                rintro e w6 ⟨rfl, hb6, b6, k6⟩
                obtain ⟨r0, r1, r2, _⟩ := at3 (k6 _ _ _ _ (by omega) (by decide) R1.out)
                have HB := hid hb6
                have B := hid (B.out.trans b6)
                clear hb6 b6 k6 R1
                go_wp2_with fail
                refine (Wxs.string_of w.heap.size w.heap.size (a ++ D) _ HB.out ?_).mono ?_
                · exact B.out.size
                rintro e w5 ⟨rfl, b5⟩
                have BB := hid (B.out.trans b5)
                go_wp2
                go_ret
                exact ⟨by rw [← E.out]; rfl, BB.out⟩
              · have E := hid (jn_step hlt HJJ.out hk c3)
                generalize pD (y i) = D at *
                generalize y i = Y at hci C
                have c3' : ¬ (D.size : Int) < 55 := by omega
                have hsz2 : Hid ((a ++ D).size ≤ 55 * (i + 1)) := by show (a ++ D).size ≤ _; rw [size_app]; omega
                unfold cv at C
                clear hp HJJ hk
                go_wp2_with fail
                refine (C.out _).mono ?_
                rintro e w1 ⟨rfl, b1⟩
                have B1 := hbel.trans (b1.mono hz)
                have HB1 := Wx.builder_below hb' b1
                have HB := hid (Wx.builder_below HB1 ((Below.refl _ _).alloc (Nat.le_refl _) (.cells #[.int .i64 g, .int .i64 (i : Int), .string D] 122)))
                have B := hid (B1.alloc B1.size (.cells #[.int .i64 g, .int .i64 (i : Int), .string D] 122))
                have hb1 : w.heap.size < w1.heap.size := Nat.lt_of_lt_of_le hbw b1.size
                have R1 := hid (heap_alloc_new w1 (.cells #[.int .i64 g, .int .i64 (i : Int), .string D] 122))
                clear HB1 B1
                go_wp2_with fail
                refine (Wxs.write_of w.heap.size w.heap.size a D _ HB.out ?_ ?_).mono ?_
                · omega
                · exact B.out.size
                rintro e w6 ⟨rfl, hb6, b6, k6⟩
                obtain ⟨r0, r1, r2, _⟩ := at3 (k6 _ _ _ _ (by omega) (by decide) R1.out)
                have HB := hid hb6
                have B := hid (B.out.trans b6)
                clear hb6 b6 k6 R1
                go_wp2
                go_roundw
                case rel => exact ⟨i + 1, _, by omega, by go_num, hsz2.out, E.out, HB.out, B.out⟩
                case measure => simp [intOf] <;> omega
            · have E := hid (jn_stop HJJ.out (j_no3 c2))
              have hne : (pI (y i) == (i : Int)) = false := by simpa using c2
              rw [c1] at C
              generalize pI (y i) = I at *
              generalize pD (y i) = D at *
              generalize y i = Y at hci C
              unfold cv at C
              clear hp HJJ
              go_wp2_with fail
              refine (C.out _).mono ?_
              rintro e w1 ⟨rfl, b1⟩
              have B1 := hbel.trans (b1.mono hz)
              have HB1 := Wx.builder_below hb' b1
              have HB := hid (Wx.builder_below HB1 ((Below.refl _ _).alloc (Nat.le_refl _) (.cells #[.int .i64 g, .int .i64 I, .string D] 122)))
              have B := hid (B1.alloc B1.size (.cells #[.int .i64 g, .int .i64 I, .string D] 122))
              clear HB1 B1
              go_wp2_with fail
              refine (Wxs.string_of w.heap.size w.heap.size a _ HB.out ?_).mono ?_
              · exact B.out.size
              rintro e w5 ⟨rfl, b5⟩
              have BB := hid (B.out.trans b5)
              go_wp2
              go_ret
              exact ⟨by rw [← E.out]; rfl, BB.out⟩
          · have E := hid (jn_stop HJJ.out (j_no2 c1))
            have hne : (pG (y i) == g) = false := by simpa using c1
            generalize pG (y i) = G at *
            generalize pI (y i) = I at *
            generalize pD (y i) = D at *
            generalize y i = Y at hci C
            unfold cv at C
            clear hp HJJ
            go_wp2_with fail
            refine (C.out _).mono ?_
            rintro e w1 ⟨rfl, b1⟩
            have B1 := hbel.trans (b1.mono hz)
            have HB1 := Wx.builder_below hb' b1
            have HB := hid (Wx.builder_below HB1 ((Below.refl _ _).alloc (Nat.le_refl _) (.cells #[.int .i64 G, .int .i64 I, .string D] 122)))
            have B := hid (B1.alloc B1.size (.cells #[.int .i64 G, .int .i64 I, .string D] 122))
            clear HB1 B1
            go_wp2_with fail
            refine (Wxs.string_of w.heap.size w.heap.size a _ HB.out ?_).mono ?_
            · exact B.out.size
            rintro e w5 ⟨rfl, b5⟩
            have BB := hid (B.out.trans b5)
            go_wp2
            go_ret
            exact ⟨by rw [← E.out]; rfl, BB.out⟩
    · obtain rfl : i = n := by omega
      have E : Hid (a = J) := by
        show a = J
        rw [← HJJ.out, Nat.sub_self]
        exact (app_nil a).symm
      clear HJJ
      have HB := hid hb'
      have B := hid hbel
      go_wp2_with fail
      refine (Wxs.string_of w.heap.size w.heap.size a _ HB.out ?_).mono ?_
      · exact B.out.size
      rintro e w5 ⟨rfl, b5⟩
      have BB := hid (B.out.trans b5)
      go_wp2
      go_ret
      exact ⟨by rw [← E.out]; rfl, BB.out⟩


end Go.Proofs.Ytcnonioiggniiaa.War
