/-
  The walks of area.Split and of the document's Split: each returns the sectors of data, in a slice of its own, and the error, as 'sp', 'sN', 'sE' say; nothing that was in memory has turned. Conditions: the data has at most 1048576 bytes, each number fits its kind.
-/
import Derived.Test.YtcnonioiggniiaaArF
import Derived.Test.YtcnonioiggniiaaArL
import Derived.Lib.MinMax
import Derived.WalkSpells
namespace Go.Proofs.Ytcnonioiggniiaa.War
open Go.ChangeShapes Go.WideShapes Go.ChangeAt Go.RowKit Go.Proofs.Ytcnonioiggniiaa.M

theorem hid {p : Prop} (h : p) : Hid p := h

theorem info9 : (Try.prog.info? 9).map (fun i => (i.zero, i.size, i.bytes)) = some (some (.string ⟨#[]⟩), 1, 16) := by kernel_rfl

theorem s_arg {g f : Int} {d : ByteArray} (h : ¬ Wt g f) : sE g f d = 2 ∧ sN g f d = 0 := by
  have e : sE g f d = 2 := if_neg h
  unfold sN
  rw [e]
  exact ⟨rfl, rfl⟩
theorem s_long {g f : Int} {d : ByteArray} (h : Wt g f) (h2 : 65535 - f < ((d.size / 55 : Nat) : Int)) : sE g f d = 5 ∧ sN g f d = 0 := by
  have e : sE g f d = 5 := by unfold sE; rw [if_pos h, if_pos h2]
  unfold sN
  rw [e]
  exact ⟨rfl, rfl⟩
theorem s_ok {g f : Int} {d : ByteArray} (h : Wt g f) (h2 : ¬ 65535 - f < ((d.size / 55 : Nat) : Int)) : sE g f d = 0 ∧ sN g f d = d.size / 55 + 1 := by
  have e : sE g f d = 0 := by unfold sE; rw [if_pos h, if_neg h2]
  unfold sN
  rw [e]
  exact ⟨rfl, rfl⟩

/-- An empty slice with room. -/
theorem made_room (n : Nat) (hn : n ≤ 1048576) (u : World) : (Instr.makeSlice 24 (.int .i64 0) (.int .i64 ((n : Int) + 1))).run Try.prog u = .ok (.slice (some ⟨u.heap.size, 0, none⟩) 0 (n + 1)) (u.alloc (.cells (madeCells #[.string ⟨#[]⟩] (n + 1)) 9)) := by
  obtain ⟨i0, hi, hz0, hz1, hz2⟩ := info_parts info9
  have h := run_make (P := Try.prog) u 24 9 i0 (.string ⟨#[]⟩) Try.underlying24 hi hz0 .i64 .i64 0 ((n : Int) + 1) (by omega) (by omega) (by rw [hz2]; omega) (by omega)
  have e : ((n : Int) + 1).toNat = n + 1 := by omega
  rw [e] at h
  simpa [hz1, Value.cells] using h
theorem own_room (n : Nat) (hn : n ≤ 1048576) (w : World) : (w.alloc (.cells (madeCells #[.string ⟨#[]⟩] (n + 1)) 9)).ownsRow w.heap.size 9 1 (.slice (some ⟨w.heap.size, 0, none⟩) 0 (n + 1)) 0 [] :=
  ⟨rfl, .inr ⟨w.heap.size, n + 1, _, rfl, Nat.le_refl _, heap_alloc_new w _, Nat.zero_le _, by unfold maxLen; omega, by simp [size_madeCells], rfl⟩⟩

set_option maxRecDepth 100000 in
set_option maxHeartbeats 2000000 in
theorem split (g f : Int) (d : ByteArray) (w : World) (hd : d.size ≤ 1048576) :
    Calls Try.prog 55 #[.int .i64 g, .int .i64 f, .string d] w fun e w' => ∃ v, e = .returned (.tuple #[v, .int .i64 (sE g f d)]) ∧ w'.ownsRow w.heap.size 9 1 v (sN g f d) (spv g f d (sN g f d)) ∧ Below w.heap.size w w' := by
  have C : Hid _ := fun w => within g f w
  by_cases c0 : Wt g f
  · rw [decide_eq_true c0] at C
    obtain ⟨c1, c2, c3, c4⟩ := c0
    have hq : ((d.size : Int) / 55) = ((d.size / 55 : Nat) : Int) := by omega
    have hq2 : (d.size : Int).tdiv 55 = ((d.size / 55 : Nat) : Int) := by rw [Int.tdiv_eq_ediv_of_nonneg (by omega)]; omega
    by_cases c5 : 65535 - f < ((d.size / 55 : Nat) : Int)
    · obtain ⟨e1, e2⟩ := s_long (d := d) ⟨c1, c2, c3, c4⟩ c5
      rw [e1, e2]
      clear e1 e2
      generalize d.size / 55 = m at *
      go_enter Try.func55, Try.ntmps55
      go_wp2_with fail
      refine (C.out _).mono ?_
      rintro e w1 ⟨rfl, rfl⟩
      go_wp2
      go_ret2
      exact ⟨_, rfl, World.ownsRow_nil _ _ _ _, Below.refl _ _⟩
    · obtain ⟨e1, e2⟩ := s_ok (d := d) ⟨c1, c2, c3, c4⟩ c5
      rw [e1, e2]
      clear e1 e2
      obtain ⟨i0, hi, hz0, hz1, hz2⟩ := info_parts info9
      have hm1 : d.size / 55 ≤ 65535 := by omega
      have hm2 : Hid (55 * (d.size / 55) ≤ d.size ∧ d.size < 55 * (d.size / 55) + 55) := ⟨by omega, by omega⟩
      generalize d.size / 55 = m at *
      have hmk := made_room m (by omega)
      have HO := hid (own_room m (by omega) w)
      go_enter Try.func55, Try.ntmps55
      go_wp2_with fail
      refine (C.out _).mono ?_
      rintro e w1 ⟨rfl, rfl⟩
      go_wp2
      go_loopw [9, 28] (fun sv iv wr => ∃ i : Nat, i ≤ m + 1 ∧ iv = .int .i64 (i : Int) ∧ wr.ownsRow w.heap.size 9 1 sv i (spv g f d i) ∧ Below w.heap.size w wr) (fun _ i _ => m + 1 - (intOf i).toNat)
      case atStart => exact ⟨0, Nat.zero_le _, rfl, HO.out, (Below.refl _ _).alloc (Nat.le_refl _) _⟩
      case round =>
        obtain ⟨i, hi1, rfl, hown, hbel⟩ := hrel
        have hz := hbel.size
        clear hmk HO
        by_cases hlt : i < m + 1
        · have hlt2 : (i : Int) < (m : Int) + 1 := by omega
          have hm := hm2.out
          have hmin : min ((i : Int) * 55 + 55) (d.size : Int) = ((min (55 * i + 55) d.size : Nat) : Int) := by omega
          have hsl := cut d (pc d i) ((i : Int) * 55) ((min (55 * i + 55) d.size : Nat) : Int) (55 * i) (min (55 * i + 55) d.size) (by omega) rfl (by omega) (by omega) rfl
          have S : Hid _ := fun w => sectorOf g (f + (i : Int)) (pc d i) w ⟨c1, c2, by omega, by omega⟩ (pc_le d i)
          have HB : Hid (spv g f d (i + 1) = spv g f d i ++ [.string (sec g (f + (i : Int)) (pc d i))]) := spv_succ g f d i
          generalize sec g (f + (i : Int)) (pc d i) = x at S HB
          generalize pc d i = y at S hsl
          generalize min (55 * i + 55) d.size = b at hmin hsl
          unfold cv at S
          clear hm hq hq2
          go_wp2_with fail
          refine (S.out _).mono ?_
          rintro e w1 ⟨rfl, b1⟩
          have hown1 := own_below hown b1
          have hz1' := b1.size
          clear hown hsl hmin
          go_wp2_with (at_builtin; refine wpList_append_own _ rfl _ _ 24 rfl w.heap.size 9 i0 (.string ⟨#[]⟩) 1 16 Try.underlying24 hi hz0 hz1 hz2 rfl (by decide) _ _ _ rfl (hown1.alloc _) ⟨w1.heap.size, 0, none⟩ 1 1 [.string x] rfl rfl ?c1 ?c2 ?c3 ?c4 ?c5 ?_)
          case c1 =>
            intro j u hj
            match j, hj with
            | 0, hj => simp at hj; subst hj; simp [Addr.add]
          case c2 => intro u hu; simp at hu; subst hu; rfl
          case c3 => unfold maxLen; omega
          case c4 => omega
          case c5 => simp; omega
          · intro v' w2 hown2 hgrow _
            have hlt3 := hown1.lt
            have B2 : Hid (Below w.heap.size w w2) := ((hbel.trans (b1.mono hz)).alloc (by omega) _).grown hgrow (by simp; omega) fun k hk => (hlt3 k hk).1
            clear hown1 hgrow hlt3
            go_wp2
            go_roundw
            case rel => exact ⟨i + 1, by omega, by go_num, by rw [HB.out]; exact hown2, B2.out⟩
            case measure => simp [intOf] <;> omega
        · obtain rfl : i = m + 1 := by omega
          have hlt2 : ¬ ((m + 1 : Nat) : Int) < (m : Int) + 1 := by omega
          go_wp2
          go_ret2
          exact ⟨_, rfl, hown, hbel⟩
  · rw [decide_eq_false c0] at C
    obtain ⟨e1, e2⟩ := s_arg (d := d) c0
    rw [e1, e2]
    clear e1 e2
    go_enter Try.func55, Try.ntmps55
    go_wp2_with fail
    refine (C.out _).mono ?_
    rintro e w1 ⟨rfl, rfl⟩
    go_wp2
    go_ret2
    exact ⟨_, rfl, World.ownsRow_nil _ _ _ _, Below.refl _ _⟩

end Go.Proofs.Ytcnonioiggniiaa.War
