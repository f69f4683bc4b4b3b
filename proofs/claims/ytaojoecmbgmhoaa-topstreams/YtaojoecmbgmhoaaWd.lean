/-
  Several texts in one. The walks of area.Split and of the document's Split: each returns the sectors of data, in a slice of its own, and the error, as 'sp', 'sN', 'sE' say; nothing that was in memory has turned. Conditions: the data has at most 1048576 bytes, each number fits its kind. The walk of the law AreaSplits: it returns true, and nothing that was in memory has turned. Conditions: none but that each number fits its kind and that the text's length is an int. The walks of area.Newest, area.Join and of the document's Newest and Join: each returns what 'nw', 'jn' say, and nothing that was in memory has turned. Conditions: the texts lie in memory, their lengths are ints, and there are at most 1048576 of them. The walks of area.Join and of the document's Join: each returns what 'jn' says, and nothing that was in memory has turned. Conditions: the texts lie in memory, their lengths are ints, and there are at most 1048576 of them.
-/
import Derived.Test.YtaojoecmbgmhoaaWc
import Derived.Test.YtaojoecmbgmhoaaArL
import Derived.Lib.MinMax
import Derived.WalkSpells
import Derived.Deep.QuietTactic
import Derived.BigQuiet
import Derived.WalkSmall
import Derived.Test.YtaojoecmbgmhoaaWb
namespace Go.Proofs.Ytaojoecmbgmhoaa.War
open Go.ChangeShapes Go.WideShapes Go.ChangeAt Go.RowKit Go.Proofs.Ytaojoecmbgmhoaa.M

theorem hid {p : Prop} (h : p) : Hid p := h

theorem info9 : (Try.prog.info? 9).map (fun i => (i.zero, i.size, i.bytes)) = some (some (.string ⟨#[]⟩), 1, 16) := by kernel_rfl

theorem s_arg {g f : Int} {d : ByteArray} (h : ¬ Wt g f) : sE g f d = 2 ∧ sN g f d = 0 := by
  have e : sE g f d = 2 := if_neg h
  unfold sN
  rw [e]
  exact ⟨rfl, rfl⟩
theorem s_long {g f : Int} {d : ByteArray} (h : Wt g f) (h2 : 65535 - f < ((d.size / 55 : Nat) : Int)) : sE g f d = 5 ∧ sN g f d = 0 := by
  have e : sE g f d = 5 := by unfold sE; rw [if_pos h, if_pos h2]
  unfold sN
  rw [e]
  exact ⟨rfl, rfl⟩
theorem s_ok {g f : Int} {d : ByteArray} (h : Wt g f) (h2 : ¬ 65535 - f < ((d.size / 55 : Nat) : Int)) : sE g f d = 0 ∧ sN g f d = d.size / 55 + 1 := by
  have e : sE g f d = 0 := by unfold sE; rw [if_pos h, if_neg h2]
  unfold sN
  rw [e]
  exact ⟨rfl, rfl⟩

/-- An empty slice with room. -/
theorem made_room (n : Nat) (hn : n ≤ 1048576) (u : World) : (Instr.makeSlice 29 (.int .i64 0) (.int .i64 ((n : Int) + 1))).run Try.prog u = .ok (.slice (some ⟨u.heap.size, 0, none⟩) 0 (n + 1)) (u.alloc (.cells (madeCells #[.string ⟨#[]⟩] (n + 1)) 9)) := by
  obtain ⟨i0, hi, hz0, hz1, hz2⟩ := info_parts info9
  have h := run_make (P := Try.prog) u 29 9 i0 (.string ⟨#[]⟩) Try.underlying29 hi hz0 .i64 .i64 0 ((n : Int) + 1) (by omega) (by omega) (by rw [hz2]; omega) (by omega)
  have e : ((n : Int) + 1).toNat = n + 1 := by omega
  rw [e] at h
  simpa [hz1, Value.cells] using h
theorem own_room (n : Nat) (hn : n ≤ 1048576) (w : World) : (w.alloc (.cells (madeCells #[.string ⟨#[]⟩] (n + 1)) 9)).ownsRow w.heap.size 9 1 (.slice (some ⟨w.heap.size, 0, none⟩) 0 (n + 1)) 0 [] :=
  ⟨rfl, .inr ⟨w.heap.size, n + 1, _, rfl, Nat.le_refl _, heap_alloc_new w _, Nat.zero_le _, by unfold maxLen; omega, by simp [size_madeCells], rfl⟩⟩

set_option maxRecDepth 100000 in
set_option maxHeartbeats 2000000 in
theorem split (g f : Int) (d : ByteArray) (w : World) (hd : d.size ≤ 1048576) :
    Calls Try.prog 42 #[.int .i64 g, .int .i64 f, .string d] w fun e w' => ∃ v, e = .returned (.tuple #[v, .int .i64 (sE g f d)]) ∧ w'.ownsRow w.heap.size 9 1 v (sN g f d) (spv g f d (sN g f d)) ∧ Below w.heap.size w w' := by
  have C : Hid _ := fun w => within g f w
  by_cases c0 : Wt g f
  · rw [decide_eq_true c0] at C
    obtain ⟨c1, c2, c3, c4⟩ := c0
    have hq : ((d.size : Int) / 55) = ((d.size / 55 : Nat) : Int) := by omega
    have hq2 : (d.size : Int).tdiv 55 = ((d.size / 55 : Nat) : Int) := by rw [Int.tdiv_eq_ediv_of_nonneg (by omega)]; omega
    by_cases c5 : 65535 - f < ((d.size / 55 : Nat) : Int)
    · obtain ⟨e1, e2⟩ := s_long (d := d) ⟨c1, c2, c3, c4⟩ c5
      rw [e1, e2]
      clear e1 e2
      generalize d.size / 55 = m at *
      go_enter Try.func42, Try.ntmps42
      go_wp2_with fail
      refine (C.out _).mono ?_
      rintro e w1 ⟨rfl, rfl⟩
      go_wp2
      go_ret2
      exact ⟨_, rfl, World.ownsRow_nil _ _ _ _, Below.refl _ _⟩
    · obtain ⟨e1, e2⟩ := s_ok (d := d) ⟨c1, c2, c3, c4⟩ c5
      rw [e1, e2]
      clear e1 e2
      obtain ⟨i0, hi, hz0, hz1, hz2⟩ := info_parts info9
      have hm1 : d.size / 55 ≤ 65535 := by omega
      have hm2 : Hid (55 * (d.size / 55) ≤ d.size ∧ d.size < 55 * (d.size / 55) + 55) := ⟨by omega, by omega⟩
      generalize d.size / 55 = m at *
      have hmk := made_room m (by omega)
      have HO := hid (own_room m (by omega) w)
      go_enter Try.func42, Try.ntmps42
      go_wp2_with fail
      refine (C.out _).mono ?_
      rintro e w1 ⟨rfl, rfl⟩
      go_wp2
      go_loopw [9, 28] (fun sv iv wr => ∃ i : Nat, i ≤ m + 1 ∧ iv = .int .i64 (i : Int) ∧ wr.ownsRow w.heap.size 9 1 sv i (spv g f d i) ∧ Below w.heap.size w wr) (fun _ i _ => m + 1 - (intOf i).toNat)
      case atStart => exact ⟨0, Nat.zero_le _, rfl, HO.out, (Below.refl _ _).alloc (Nat.le_refl _) _⟩
      case round =>
        obtain ⟨i, hi1, rfl, hown, hbel⟩ := hrel
        have hz := hbel.size
        clear hmk HO
        by_cases hlt : i < m + 1
        · have hlt2 : (i : Int) < (m : Int) + 1 := by omega
          have hm := hm2.out
          have hmin : min ((i : Int) * 55 + 55) (d.size : Int) = ((min (55 * i + 55) d.size : Nat) : Int) := by omega
          have hsl := cut d (pc d i) ((i : Int) * 55) ((min (55 * i + 55) d.size : Nat) : Int) (55 * i) (min (55 * i + 55) d.size) (by omega) rfl (by omega) (by omega) rfl
          have S : Hid _ := fun w => sectorOf g (f + (i : Int)) (pc d i) w ⟨c1, c2, by omega, by omega⟩ (pc_le d i)
          have HB : Hid (spv g f d (i + 1) = spv g f d i ++ [.string (sec g (f + (i : Int)) (pc d i))]) := spv_succ g f d i
          generalize sec g (f + (i : Int)) (pc d i) = x at S HB
          generalize pc d i = y at S hsl
          generalize min (55 * i + 55) d.size = b at hmin hsl
          unfold cv at S
          clear hm hq hq2
          go_wp2_with fail
          refine (S.out _).mono ?_
          rintro e w1 ⟨rfl, b1⟩
          have hown1 := own_below hown b1
          have hz1' := b1.size
          clear hown hsl hmin
          go_wp2_with (at_builtin; refine wpList_append_own _ rfl _ _ 29 rfl w.heap.size 9 i0 (.string ⟨#[]⟩) 1 16 Try.underlying29 hi hz0 hz1 hz2 rfl (by decide) _ _ _ rfl (hown1.alloc _) ⟨w1.heap.size, 0, none⟩ 1 1 [.string x] rfl rfl ?c1 ?c2 ?c3 ?c4 ?c5 ?_)
          case c1 =>
            intro j u hj
            match j, hj with
            | 0, hj => simp at hj; subst hj; simp [Addr.add]
          case c2 => intro u hu; simp at hu; subst hu; rfl
          case c3 => unfold maxLen; omega
          case c4 => omega
          case c5 => simp; omega
          · intro v' w2 hown2 hgrow _
            have hlt3 := hown1.lt
            have B2 : Hid (Below w.heap.size w w2) := ((hbel.trans (b1.mono hz)).alloc (by omega) _).grown hgrow (by simp; omega) fun k hk => (hlt3 k hk).1
            clear hown1 hgrow hlt3
            go_wp2
            go_roundw
            case rel => exact ⟨i + 1, by omega, by go_num, by rw [HB.out]; exact hown2, B2.out⟩
            case measure => simp [intOf] <;> omega
        · obtain rfl : i = m + 1 := by omega
          have hlt2 : ¬ ((m + 1 : Nat) : Int) < (m : Int) + 1 := by omega
          go_wp2
          go_ret2
          exact ⟨_, rfl, hown, hbel⟩
  · rw [decide_eq_false c0] at C
    obtain ⟨e1, e2⟩ := s_arg (d := d) c0
    rw [e1, e2]
    clear e1 e2
    go_enter Try.func42, Try.ntmps42
    go_wp2_with fail
    refine (C.out _).mono ?_
    rintro e w1 ⟨rfl, rfl⟩
    go_wp2
    go_ret2
    exact ⟨_, rfl, World.ownsRow_nil _ _ _ _, Below.refl _ _⟩

end Go.Proofs.Ytaojoecmbgmhoaa.War

namespace Go.Proofs.Ytaojoecmbgmhoaa.War
open Go.ChangeShapes Go.WideShapes Go.ChangeAt Go.RowKit Go.Proofs.Ytaojoecmbgmhoaa.M

/-- The first bytes of a text. -/
theorem cutL (s D : ByteArray) (j : Int) (b : Nat) (hj : j = (b : Int)) (h2 : b ≤ s.size) (hD : s.extract 0 b = D) (u : World) :
    (Instr.slice 9 (.string s) none (some (.int .i64 j)) none).run Try.prog u = .ok (.string D) u := by
  subst hj hD
  simp [Instr.slice, Instr.sliceBounds, Instr.sliceBound, asIntOf, run_underlying Try.underlying9, h2]

end Go.Proofs.Ytaojoecmbgmhoaa.War

namespace Go.Proofs.Ytaojoecmbgmhoaa.War
open Go.ChangeShapes Go.WideShapes Go.ChangeAt Go.RowKit Go.Proofs.Ytaojoecmbgmhoaa.M

set_option maxRecDepth 100000 in
set_option maxHeartbeats 2000000 in
theorem newest (p : Option Addr) (n cap : Nat) (y : Nat → ByteArray) (w : World) (hy : ∀ i, i < n → (y i).size ≤ maxLen) (hn : n ≤ 1048576) (hL : Lies w p n y) :
    Calls Try.prog 31 #[.slice p n cap] w fun e w' => e = .returned (.int .i64 (nw y n)) ∧ Below w.heap.size w w' := by
  have HL := hid hL
  clear hL
  have HY := hid hy
  clear hy
  go_enter Try.func31, Try.ntmps31
  go_wp2
  go_loopw [3, 10] (fun gv iv wr => ∃ i : Nat, i ≤ n ∧ iv = .int .i64 (i : Int) ∧ gv = .int .i64 (nw y i) ∧ Below w.heap.size w wr) (fun _ i _ => n - (intOf i).toNat)
  case atStart => exact ⟨0, Nat.zero_le _, rfl, rfl, Below.refl _ _⟩
  case round =>
    obtain ⟨i, hi, rfl, rfl, hbel⟩ := hrel
    have hz := hbel.size
    by_cases hlt : i < n
    · rcases HL.out with h | ⟨b, off, ha, hb, hcell⟩
      · exfalso; omega
      · have hci : wr.cell? ⟨b, off + i, none⟩ = some (.string (y i)) := by rw [← hcell i hlt]; exact hbel.cell (by exact hb)
        have C := hid fun w => parse (y i) w (HY.out i hlt)
        have hG := cG_range (y i)
        have hN := nw_range y i
        clear hcell
        subst ha
        cases hp : pOk (y i) with
        | false =>
          have E := hid (nw_no hp)
          rw [hp] at C
          generalize cG (y i) = G at *
          generalize M.cI (y i) = I at *
          generalize cD (y i) = D at *
          generalize y i = Y at hci C hp
          generalize nw y i = N at *
          unfold cv at C
          clear hp
          go_wp2_with fail
          refine (C.out _).mono ?_
          rintro e w1 ⟨rfl, b1⟩
          have B1 := hid (hbel.trans (b1.mono hz))
          go_wp2
          go_roundw
          case rel => exact ⟨i + 1, by omega, by go_num, by rw [E.out], B1.out.alloc B1.out.size _⟩
          case measure => simp [intOf] <;> omega
        | true =>
          have E := hid (nw_yes hp)
          rw [← (p_yes hp).1] at E
          rw [hp] at C
          generalize cG (y i) = G at *
          generalize M.cI (y i) = I at *
          generalize cD (y i) = D at *
          generalize y i = Y at hci C hp
          generalize nw y i = N at *
          unfold cv at C
          clear hp
          go_wp2_with fail
          refine (C.out _).mono ?_
          rintro e w1 ⟨rfl, b1⟩
          have B1 := hid (hbel.trans (b1.mono hz))
          go_wp2
          go_roundw
          case rel => exact ⟨i + 1, by omega, by go_num, by rw [E.out], B1.out.alloc B1.out.size _⟩
          case measure => simp [intOf] <;> omega
    · obtain rfl : i = n := by omega
      go_wp2
      go_ret
      exact ⟨rfl, hbel⟩

end Go.Proofs.Ytaojoecmbgmhoaa.War

namespace Go.Proofs.Ytaojoecmbgmhoaa.War
open Go.ChangeShapes Go.WideShapes Go.ChangeAt Go.RowKit Go.Proofs.Ytaojoecmbgmhoaa.M

/-- What is gathered, and what is still to come. -/
theorem jn_step {y : Nat → ByteArray} {g : Int} {n i : Nat} {a J : ByteArray} (hi : i < n) (h : a ++ jn y g i (n - i) = J) (c : jOk y g i = true) (hs : ¬ (pD (y i)).size < 55) : (a ++ pD (y i)) ++ jn y g (i + 1) (n - (i + 1)) = J := by
  rw [← h, show n - i = (n - (i + 1)) + 1 by omega, jn_on c hs, ByteArray.append_assoc]
theorem jn_last {y : Nat → ByteArray} {g : Int} {n i : Nat} {a J : ByteArray} (hi : i < n) (h : a ++ jn y g i (n - i) = J) (c : jOk y g i = true) (hs : (pD (y i)).size < 55) : a ++ pD (y i) = J := by
  rw [← h, show n - i = (n - (i + 1)) + 1 by omega, jn_end c hs]
theorem jn_stop {y : Nat → ByteArray} {g : Int} {n i : Nat} {a J : ByteArray} (h : a ++ jn y g i (n - i) = J) (c : jOk y g i = false) : a = J := by
  rw [← h, jn_no c, app_nil]
theorem j_no1 {y : Nat → ByteArray} {g : Int} {k : Nat} (h : pOk (y k) = false) : jOk y g k = false := by unfold jOk; rw [h]; rfl
theorem j_no2 {y : Nat → ByteArray} {g : Int} {k : Nat} (h : ¬ pG (y k) = g) : jOk y g k = false := by
  rw [Bool.eq_false_iff]
  exact fun c => h (j_of c).2.1
theorem j_no3 {y : Nat → ByteArray} {g : Int} {k : Nat} (h : ¬ pI (y k) = (k : Int)) : jOk y g k = false := by
  rw [Bool.eq_false_iff]
  exact fun c => h (j_of c).2.2

set_option maxRecDepth 100000 in
set_option maxHeartbeats 2000000 in
theorem join (p : Option Addr) (n cap : Nat) (y : Nat → ByteArray) (g : Int) (w : World) (hy : ∀ i, i < n → (y i).size ≤ maxLen) (hn : n ≤ 1048576) (hL : Lies w p n y) :
    Calls Try.prog 35 #[.slice p n cap, .int .i64 g] w fun e w' => e = .returned (.string (jn y g 0 n)) ∧ Below w.heap.size w w' := by
  have HL := hid hL
  clear hL
  have HY := hid hy
  clear hy
  obtain ⟨J, hJ⟩ : ∃ J, jn y g 0 n = J := ⟨_, rfl⟩
  have J0 : Hid ((⟨#[]⟩ : ByteArray) ++ jn y g 0 (n - 0) = J) := by
    show (⟨#[]⟩ : ByteArray) ++ jn y g 0 (n - 0) = J
    rw [nil_app, Nat.sub_zero, hJ]
  rw [hJ]
  clear hJ
  go_enter Try.func35, Try.ntmps35
  go_wp2
  go_loopw [12] (fun iv wr => ∃ (i : Nat) (a : ByteArray), i ≤ n ∧ iv = .int .i64 (i : Int) ∧ a.size ≤ 55 * i ∧ a ++ jn y g i (n - i) = J ∧ Lib.IsBuilder 108 5 w.heap.size w.heap.size (Lib.byteCells a.data.toList) wr ∧ Below w.heap.size w wr) (fun i _ => n - (intOf i).toNat)
  case atStart => exact ⟨0, ⟨#[]⟩, Nat.zero_le _, rfl, Nat.le_refl _, J0.out, .inl ⟨Nat.le_refl _, _, heap_alloc_new w _, ⟨rfl, .inl ⟨rfl, rfl⟩⟩, by simp [Value.ownBlock]⟩, (Below.refl _ _).alloc (Nat.le_refl _) _⟩
  case round =>
    obtain ⟨i, a, hi, rfl, hsz, hj, hb', hbel⟩ := hrel
    have hz := hbel.size
    have hbw : w.heap.size < wr.heap.size := by
      rcases hb' with ⟨_, _, h, _⟩ | ⟨_, _, h, _⟩
      · exact Wx.lt_of_heap h
      · exact Wx.lt_of_heap h
    have HJJ := hid hj
    clear hj J0
    by_cases hlt : i < n
    · rcases HL.out with h | ⟨b, off, ha, hb, hcell⟩
      · exfalso; omega
      · have hci : wr.cell? ⟨b, off + i, none⟩ = some (.string (y i)) := by rw [← hcell i hlt]; exact hbel.cell (by exact hb)
        have C := hid fun w => parse (y i) w (HY.out i hlt)
        clear hcell
        subst ha
        cases hp : pOk (y i) with
        | false =>
          have E := hid (jn_stop HJJ.out (j_no1 hp))
          rw [hp] at C
          generalize cG (y i) = G at C
          generalize M.cI (y i) = I at C
          generalize cD (y i) = D at C
          generalize y i = Y at hci C hp
          unfold cv at C
          clear hp HJJ
          go_wp2_with fail
          refine (C.out _).mono ?_
          rintro e w1 ⟨rfl, b1⟩
          have B1 := hbel.trans (b1.mono hz)
          have HB1 := Wx.builder_below hb' b1
          have HB := hid (Wx.builder_below HB1 ((Below.refl _ _).alloc (Nat.le_refl _) (.cells #[.int .i64 G, .int .i64 I, .string D] 99)))
          have B := hid (B1.alloc B1.size (.cells #[.int .i64 G, .int .i64 I, .string D] 99))
          clear HB1 B1
          go_wp2_with fail
          refine (Wxs.string_of w.heap.size w.heap.size a _ HB.out ?_).mono ?_
          · exact B.out.size
          rintro e w5 ⟨rfl, b5⟩
          have BB := hid (B.out.trans b5)
          go_wp2
          go_ret
          exact ⟨by rw [← E.out]; rfl, BB.out⟩
        | true =>
          obtain ⟨e1, e2, e3⟩ := p_yes hp
          obtain ⟨_, _, _, _, hD5⟩ := p_of hp
          rw [hp, e1, e2, e3] at C
          clear e1 e2 e3
          by_cases c1 : pG (y i) = g
          · by_cases c2 : pI (y i) = (i : Int)
            · have hk := j_mk hp c1 c2
              rw [c1, c2] at C
              by_cases c3 : (pD (y i)).size < 55
              · have E := hid (jn_last hlt HJJ.out hk c3)
                generalize pD (y i) = D at *
                generalize y i = Y at hci C
                have c3' : (D.size : Int) < 55 := by omega
                unfold cv at C
                clear hp HJJ hk
                go_wp2_with fail
                refine (C.out _).mono ?_
                rintro e w1 ⟨rfl, b1⟩
                have B1 := hbel.trans (b1.mono hz)
                have HB1 := Wx.builder_below hb' b1
                have HB := hid (Wx.builder_below HB1 ((Below.refl _ _).alloc (Nat.le_refl _) (.cells #[.int .i64 g, .int .i64 (i : Int), .string D] 99)))
                have B := hid (B1.alloc B1.size (.cells #[.int .i64 g, .int .i64 (i : Int), .string D] 99))
                have hb1 : w.heap.size < w1.heap.size := Nat.lt_of_lt_of_le hbw b1.size
                have R1 := hid (heap_alloc_new w1 (.cells #[.int .i64 g, .int .i64 (i : Int), .string D] 99))
                clear HB1 B1
                go_wp2_with fail
                refine (Wxs.write_of w.heap.size w.heap.size a D _ HB.out ?_ ?_).mono ?_
                · omega
                · exact B.out.size
                rintro e w6 ⟨rfl, hb6, b6, k6⟩
                obtain ⟨r0, r1, r2, _⟩ := at3 (k6 _ _ _ _ (by omega) (by decide) R1.out)
                have HB := hid hb6
                have B := hid (B.out.trans b6)
                clear hb6 b6 k6 R1
                go_wp2_with fail
                refine (Wxs.string_of w.heap.size w.heap.size (a ++ D) _ HB.out ?_).mono ?_
                · exact B.out.size
                rintro e w5 ⟨rfl, b5⟩
                have BB := hid (B.out.trans b5)
                go_wp2
                go_ret
                exact ⟨by rw [← E.out]; rfl, BB.out⟩
              · have E := hid (jn_step hlt HJJ.out hk c3)
                generalize pD (y i) = D at *
                generalize y i = Y at hci C
                have c3' : ¬ (D.size : Int) < 55 := by omega
                have hsz2 : Hid ((a ++ D).size ≤ 55 * (i + 1)) := by show (a ++ D).size ≤ _; rw [size_app]; omega
                unfold cv at C
                clear hp HJJ hk
                go_wp2_with fail
                refine (C.out _).mono ?_
                rintro e w1 ⟨rfl, b1⟩
                have B1 := hbel.trans (b1.mono hz)
                have HB1 := Wx.builder_below hb' b1
                have HB := hid (Wx.builder_below HB1 ((Below.refl _ _).alloc (Nat.le_refl _) (.cells #[.int .i64 g, .int .i64 (i : Int), .string D] 99)))
                have B := hid (B1.alloc B1.size (.cells #[.int .i64 g, .int .i64 (i : Int), .string D] 99))
                have hb1 : w.heap.size < w1.heap.size := Nat.lt_of_lt_of_le hbw b1.size
                have R1 := hid (heap_alloc_new w1 (.cells #[.int .i64 g, .int .i64 (i : Int), .string D] 99))
                clear HB1 B1
                go_wp2_with fail
                refine (Wxs.write_of w.heap.size w.heap.size a D _ HB.out ?_ ?_).mono ?_
                · omega
                · exact B.out.size
                rintro e w6 ⟨rfl, hb6, b6, k6⟩
                obtain ⟨r0, r1, r2, _⟩ := at3 (k6 _ _ _ _ (by omega) (by decide) R1.out)
                have HB := hid hb6
                have B := hid (B.out.trans b6)
                clear hb6 b6 k6 R1
                go_wp2
                go_roundw
                case rel => exact ⟨i + 1, _, by omega, by go_num, hsz2.out, E.out, HB.out, B.out⟩
                case measure => simp [intOf] <;> omega
            · have E := hid (jn_stop HJJ.out (j_no3 c2))
              have hne : (pI (y i) == (i : Int)) = false := by simpa using c2
              rw [c1] at C
              generalize pI (y i) = I at *
              generalize pD (y i) = D at *
              generalize y i = Y at hci C
              unfold cv at C
              clear hp HJJ
              go_wp2_with fail
              refine (C.out _).mono ?_
              rintro e w1 ⟨rfl, b1⟩
              have B1 := hbel.trans (b1.mono hz)
              have HB1 := Wx.builder_below hb' b1
              have HB := hid (Wx.builder_below HB1 ((Below.refl _ _).alloc (Nat.le_refl _) (.cells #[.int .i64 g, .int .i64 I, .string D] 99)))
              have B := hid (B1.alloc B1.size (.cells #[.int .i64 g, .int .i64 I, .string D] 99))
              clear HB1 B1
              go_wp2_with fail
              refine (Wxs.string_of w.heap.size w.heap.size a _ HB.out ?_).mono ?_
              · exact B.out.size
              rintro e w5 ⟨rfl, b5⟩
              have BB := hid (B.out.trans b5)
              go_wp2
              go_ret
              exact ⟨by rw [← E.out]; rfl, BB.out⟩
          · have E := hid (jn_stop HJJ.out (j_no2 c1))
            have hne : (pG (y i) == g) = false := by simpa using c1
            generalize pG (y i) = G at *
            generalize pI (y i) = I at *
            generalize pD (y i) = D at *
            generalize y i = Y at hci C
            unfold cv at C
            clear hp HJJ
            go_wp2_with fail
            refine (C.out _).mono ?_
            rintro e w1 ⟨rfl, b1⟩
            have B1 := hbel.trans (b1.mono hz)
            have HB1 := Wx.builder_below hb' b1
            have HB := hid (Wx.builder_below HB1 ((Below.refl _ _).alloc (Nat.le_refl _) (.cells #[.int .i64 G, .int .i64 I, .string D] 99)))
            have B := hid (B1.alloc B1.size (.cells #[.int .i64 G, .int .i64 I, .string D] 99))
            clear HB1 B1
            go_wp2_with fail
            refine (Wxs.string_of w.heap.size w.heap.size a _ HB.out ?_).mono ?_
            · exact B.out.size
            rintro e w5 ⟨rfl, b5⟩
            have BB := hid (B.out.trans b5)
            go_wp2
            go_ret
            exact ⟨by rw [← E.out]; rfl, BB.out⟩
    · obtain rfl : i = n := by omega
      have E : Hid (a = J) := by
        show a = J
        rw [← HJJ.out, Nat.sub_self]
        exact (app_nil a).symm
      clear HJJ
      have HB := hid hb'
      have B := hid hbel
      go_wp2_with fail
      refine (Wxs.string_of w.heap.size w.heap.size a _ HB.out ?_).mono ?_
      · exact B.out.size
      rintro e w5 ⟨rfl, b5⟩
      have BB := hid (B.out.trans b5)
      go_wp2
      go_ret
      exact ⟨by rw [← E.out]; rfl, BB.out⟩


end Go.Proofs.Ytaojoecmbgmhoaa.War
