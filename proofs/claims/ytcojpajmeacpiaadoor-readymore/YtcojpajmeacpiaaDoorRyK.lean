/-
  The contracts of bits.Mul at 1 and a small number, and of slices.Repeat at a slice of one number and a small count. Conditions: those named.
-/
import Derived.Test.YtcojpajmeacpiaaDoorRyB
import Derived.Laws.CopyOwn
import Derived.Laws.CopyRow
import Derived.Deep.OwnRows
import Derived.Deep.RegionWith
namespace Go.Proofs.YtcojpajmeacpiaaDoor.Wry
open Go.ChangeShapes Go.WideShapes Go.ChangeAt Go.RowKit Go.Shelf Go.Proofs.YtcojpajmeacpiaaDoor.M

theorem ofInt_u64 (a : Nat) (h : a < 18446744073709551616) : (BitVec.ofInt 64 (a : Int)).toNat = a := by
  rw [BitVec.toNat_ofInt]
  omega
theorem u64_low (n : Nat) (h : n ≤ 64) : bits .and .u64 (n : Int) 4294967295 = (n : Int) := by
  have e : n &&& 4294967295 = n := by
    have : (4294967295 : Nat) = 2 ^ 32 - 1 := by decide
    rw [this, Nat.and_two_pow_sub_one_eq_mod]
    exact Nat.mod_eq_of_lt (by omega)
  show IntKind.u64.wrap ((BitVec.ofInt 64 (n : Int) &&& BitVec.ofInt 64 ((4294967295 : Nat) : Int)).toNat : Int) = _
  rw [BitVec.toNat_and, ofInt_u64 n (by omega), ofInt_u64 4294967295 (by omega), e, IntKind.wrap_u64]
  omega

set_option maxRecDepth 100000 in
set_option maxHeartbeats 4000000 in
theorem mul (n : Nat) (hn : n ≤ 32) (w : World) : Calls Tryd.prog 31 #[.int .u64 1, .int .u64 (n : Int)] w fun e w' => e = .returned (.tuple #[.int .u64 0, .int .u64 (n : Int)]) ∧ w = w' := by
  have l0 : bits .and .u64 0 4294967295 = 0 := u64_low 0 (by omega)
  have l1 : bits .and .u64 1 4294967295 = 1 := u64_low 1 (by omega)
  have ln := u64_low n (by omega)
  have dn : (n : Int) / 4294967296 = 0 := by omega
  have wn : (n : Int) % 18446744073709551616 = (n : Int) := by omega
  have wn' : IntKind.u64.wrap (n : Int) = (n : Int) := by rw [IntKind.wrap_u64]; omega
  have C : Hid (Calls Tryd.prog 37 #[.int .u64 1, .int .u64 (n : Int)] w fun e w' => e = .returned (.tuple #[.int .u64 0, .int .u64 (n : Int)]) ∧ w = w') := hid (by
    go_enter Tryd.func37, Tryd.ntmps37
    go_wp2_with fail
    go_ret2
    exact ⟨rfl, rfl⟩)
  go_enter Tryd.func31, Tryd.ntmps31
  go_wp2_with fail
  refine C.out.mono ?_
  rintro e w1 ⟨rfl, rfl⟩
  go_wp2_with fail
  go_ret2
  exact ⟨rfl, rfl⟩

/-- A row whose first m cells are set. -/
def rp (m n : Nat) : List Value := List.replicate m (.int .i64 (-1)) ++ List.replicate (n - m) (.int .i64 0)
theorem rp_len {m n : Nat} (h : m ≤ n) : (rp m n).length = n := by simp [rp]; omega
theorem rp_at {m n j : Nat} (h : j < m) : (rp m n)[j]? = some (.int .i64 (-1)) := by
  unfold rp
  rw [List.getElem?_append_left (by simpa using h), List.getElem?_replicate, if_pos h]
theorem rp_step {m c n : Nat} (_ : m + c ≤ n) : (rp m n).take m ++ List.replicate c (.int .i64 (-1)) ++ (rp m n).drop (m + c) = rp (m + c) n := by
  unfold rp
  rw [List.take_append_of_le_length (by simp), List.take_of_length_le (by simp), List.drop_append]
  simp only [List.length_replicate, List.drop_replicate]
  rw [show m - (m + c) = 0 by omega, List.replicate_zero, List.nil_append, show m + c - m = c by omega, show n - m - c = n - (m + c) by omega, List.replicate_append_replicate]

theorem sizeI : (Tryd.prog.info? 3).map (·.size) = some 1 := by kernel_rfl
theorem madeI (n : Nat) (hn : n ≤ 1048576) (u : World) : (Instr.makeSlice 25 (.int .i64 (n : Int)) (.int .i64 (n : Int))).run Tryd.prog u = .ok (.slice (some ⟨u.heap.size, 0, none⟩) n n) (u.alloc (.cells (madeCells #[.int .i64 0] n) 3)) := by
  obtain ⟨i0, hi, hz0, hz1, hz2⟩ := info_parts (show (Tryd.prog.info? 3).map (fun i => (i.zero, i.size, i.bytes)) = some (some (.int .i64 0), 1, 8) by kernel_rfl)
  have h := run_make (P := Tryd.prog) u 25 3 i0 (.int .i64 0) Tryd.underlying25 hi hz0 .i64 .i64 (n : Int) (n : Int) (by omega) (by omega) (by rw [hz2]; omega) (by omega)
  simpa [hz1, Value.cells] using h
theorem made_rp (n : Nat) : madeCells #[Value.int .i64 0] n = (rp 0 n).toArray := by
  apply Array.ext'
  rw [toList_madeCells_one]
  simp [rp]

/-- The first copy, and each copy of what there is. -/
theorem cp_first {W : World} {g H n ty : Nat} (hn : 1 ≤ n) (hg : W.cell? ⟨g, 0, none⟩ = some (.int .i64 (-1))) (h : W.heap[H]? = some (.cells (rp 0 n).toArray 3 (0, 0))) :
    (Builtin.copy_ #[25, 25] ty #[.slice (some ⟨H, 0, none⟩) n n, .slice (some ⟨g, 0, none⟩) 1 1]).run Tryd.prog W = .ok (goInt 1) (W.setRow H (rp 1 n).toArray) := by
  have e := run_copy_row (P := Tryd.prog) W 25 25 ty 3 H 0 n n ⟨g, 0, none⟩ 1 1 (rp 0 n).toArray 3 [.int .i64 (-1)] Tryd.underlying25 sizeI h (by show 1 = Nat.min 1 n; exact (Nat.min_eq_left hn).symm) (fun j v hj => by
    match j, hj with
    | 0, hj => simp at hj; subst hj; simpa [Addr.add] using hg) (by simp [rp_len (Nat.zero_le n)]; omega) (by simp [Value.oneCell'])
  have e2 := rp_step (m := 0) (c := 1) (n := n) (by omega)
  simp only [Nat.zero_add, List.replicate_one] at e2
  rw [e]
  simp only [List.length_singleton, Nat.zero_add, e2]
  rfl
theorem cp_more {W : World} {H m n ty : Nat} (hm : m < n) (h : W.heap[H]? = some (.cells (rp m n).toArray 3 (0, 0))) :
    (Builtin.copy_ #[25, 25] ty #[.slice (some ⟨H, m, none⟩) (n - m) (n - m), .slice (some ⟨H, 0, none⟩) m n]).run Tryd.prog W = .ok (goInt (min m (n - m) : Nat)) (W.setRow H (rp (m + min m (n - m)) n).toArray) := by
  have e := run_copy_row (P := Tryd.prog) W 25 25 ty 3 H m (n - m) (n - m) ⟨H, 0, none⟩ m n (rp m n).toArray 3 (List.replicate (min m (n - m)) (.int .i64 (-1))) Tryd.underlying25 sizeI h (by simp) (fun j v hj => by
    have hj' : j < min m (n - m) := by
      have := (List.getElem?_eq_some_iff.1 hj).1
      simpa using this
    rw [List.getElem?_replicate, if_pos hj'] at hj
    cases hj
    have ha : (⟨H, 0, none⟩ : Addr).add j = ⟨H, j, none⟩ := by unfold Addr.add; split <;> simp_all
    rw [ha, World.cell?, h]
    have := rp_at (n := n) (show j < m by omega)
    simpa using this) (by simp [rp_len (Nat.le_of_lt hm)]; omega) (fun v hv => by rw [List.eq_of_mem_replicate hv]; simp [Value.oneCell'])
  have e2 := rp_step (m := m) (c := min m (n - m)) (n := n) (by omega)
  rw [e]
  simp only [List.length_replicate]
  rw [e2]

set_option maxRecDepth 100000 in
set_option maxHeartbeats 8000000 in
theorem repeat_ {w : World} {g n : Nat} (hn : n ≤ 32) (hg : w.cell? ⟨g, 0, none⟩ = some (.int .i64 (-1))) :
    Calls Tryd.prog 24 #[.slice (some ⟨g, 0, none⟩) 1 1, .int .i64 (n : Int)] w fun e w' => e = .returned (.slice (some ⟨w.heap.size, 0, none⟩) n n) ∧ w'.heap[w.heap.size]? = some (.cells (rp n n).toArray 3 (0, 0)) ∧ Below w.heap.size w w' := by
  have hgl := World.block_lt_of_cell? w ⟨g, 0, none⟩ hg
  have C := hid (fun (W : World) => mul n hn W)
  have hmk := hid (madeI n (by omega))
  have w1 : IntKind.u64.wrap (n : Int) = (n : Int) := by rw [IntKind.wrap_u64]; omega
  have w2 : IntKind.i64.wrap (n : Int) = (n : Int) := by rw [IntKind.wrap_i64]; omega
  have d1 : decide ((9223372036854775807 : Int) < (n : Int)) = false := decide_eq_false (by omega)
  have A0 := hid (al w (.cells (rp 0 n).toArray 3))
  have G0 : (w.alloc (.cells (rp 0 n).toArray 3)).cell? ⟨g, 0, none⟩ = some (.int .i64 (-1)) := (A0.out.cell (p := ⟨g, 0, none⟩) hgl).trans hg
  have H0 : Hid ((w.alloc (.cells (rp 0 n).toArray 3)).heap[w.heap.size]? = some (.cells (rp 0 n).toArray 3 (0, 0))) := hid (World.alloc_heap_new w _)
  rw [made_rp] at hmk
  go_enter Tryd.func24, Tryd.ntmps24
  go_wp2_with fail
  refine (C.out _).mono ?_
  rintro e w3 ⟨rfl, rfl⟩
  have hmk' := hmk.out
  by_cases h0 : n = 0
  · subst h0
    have hmk0 : ∀ u : World, (Instr.makeSlice 25 (.int .i64 0) (.int .i64 0)).run Tryd.prog u = .ok (.slice (some ⟨u.heap.size, 0, none⟩) 0 0) (u.alloc (.cells (rp 0 0).toArray 3)) := hmk'
    clear hmk'
    have hc0 := hid (fun (W : World) => run_copy_none (P := Tryd.prog) W 25 25 3 3 (some ⟨w.heap.size, 0, none⟩) (some ⟨g, 0, none⟩) 0 0 1 1 Tryd.underlying25 sizeI rfl)
    have hc := hc0.out
    go_wp2_with fail
    clear hc
    go_loop [8] (fun iv => iv = .int .i64 0) (fun _ => 0)
    case atStart => rfl
    case round =>
      subst hrel
      go_wp2_with fail
      go_ret
      exact ⟨rfl, H0.out, A0.out⟩
  · have hn1 : 1 ≤ n := by omega
    have hc := cp_first (ty := 3) hn1 G0 H0.out
    have B1 : Below w.heap.size w ((w.alloc (.cells (rp 0 n).toArray 3)).setRow w.heap.size (rp 1 n).toArray) := below_setRow A0.out (Nat.le_refl _) _
    have H1 : ((w.alloc (.cells (rp 0 n).toArray 3)).setRow w.heap.size (rp 1 n).toArray).heap[w.heap.size]? = some (.cells (rp 1 n).toArray 3 (0, 0)) := setRow_heap _ _ _ _ _ _ H0.out
    have t0 : ((n : Int) == 0) = false := by rw [beq_eq_false_iff_ne]; omega
    go_wp2_with fail
    clear hc hmk' t0
    go_loopw [8] (fun iv wr => ∃ m : Nat, 1 ≤ m ∧ m ≤ n ∧ iv = .int .i64 (m : Int) ∧ wr.heap[w.heap.size]? = some (.cells (rp m n).toArray 3 (0, 0)) ∧ Below w.heap.size w wr) (fun iv _ => n - (intOf iv).toNat)
    case atStart => exact ⟨1, Nat.le_refl _, hn1, rfl, H1, B1⟩
    case round =>
      obtain ⟨m, h1, hm, rfl, hr, hb⟩ := hrel
      by_cases c : m < n
      · have hc := cp_more (ty := 3) c hr
        have hcd := cp_more (W := wr.drew) (ty := 3) c hr
        go_wp2_with fail
        obtain ⟨q, hq⟩ : ∃ q, q = min m (n - m) := ⟨_, rfl⟩
        rw [← hq] at hc hcd
        have hq1 : q ≤ n - m := by omega
        have hq2 : 1 ≤ q := by omega
        have hr2 := setRow_heap _ _ _ (rp (m + q) n).toArray _ _ hr
        have hb2 := below_setRow hb (Nat.le_refl w.heap.size) (rp (m + q) n).toArray
        have wq : IntKind.i64.wrap ((m : Int) + (q : Int)) = ((m + q : Nat) : Int) := by rw [IntKind.wrap_i64]; omega
        have wq2 : wrap64 ((m : Int) + (q : Int)) = ((m + q : Nat) : Int) := by unfold wrap64; omega
        clear hq
        go_region_with (fail)
        simp only [Act.put, List.getElem_toArray, List.getElem_cons_zero, List.getElem_cons_succ, List.setIfInBounds_toArray, List.set_cons_zero, List.set_cons_succ]
        go_wp2_with fail
        go_roundw
        case rel => exact ⟨m + q, by omega, by omega, rfl, hr2, hb2.drew⟩
        case measure => simp [intOf]; omega
      · obtain rfl : m = n := by omega
        go_wp2_with fail
        go_ret
        exact ⟨rfl, hr, hb⟩

end Go.Proofs.YtcojpajmeacpiaaDoor.Wry
