/-
  The walk of a stream's readAll: the sectors of a region, in a slice of its own; nothing that was in memory turns.
-/
import Derived.Test.YtaojoecmbgmhoaaSmA
import Derived.Test.YtaojoecmbgmhoaaDc
import Derived.Test.YtaojoecmbgmhoaaArL
import Derived.Deep.WholeRow
namespace Go.Proofs.Ytaojoecmbgmhoaa.Wst
open Go.ChangeShapes Go.WideShapes Go.ChangeAt Go.RowKit Go.Proofs.Ytaojoecmbgmhoaa.M Go.Proofs.Ytaojoecmbgmhoaa.Wd

theorem infoS : (Try.prog.info? 9).map (fun i => (i.zero, i.size, i.bytes)) = some (some (.string ⟨#[]⟩), 1, 16) := by kernel_rfl
theorem madeS (n : Nat) (hn : n ≤ 4096) (u : World) : (Instr.makeSlice 29 (.int .i64 (n : Int)) (.int .i64 (n : Int))).run Try.prog u = .ok (.slice (some ⟨u.heap.size, 0, none⟩) n n) (u.alloc (.cells (madeCells #[.string ⟨#[]⟩] n) 9)) := by
  obtain ⟨i0, hi, hz0, hz1, hz2⟩ := info_parts infoS
  have h := run_make (P := Try.prog) u 29 9 i0 (.string ⟨#[]⟩) Try.underlying29 hi hz0 .i64 .i64 n n (by omega) (by omega) (by rw [hz2]; omega) (by omega)
  simpa [hz1, Value.cells] using h
/-- The cells of a row of texts, the first j of which are laid. -/
def rw_ (y : Nat → ByteArray) (n j : Nat) : List Value := (List.range n).map fun k => .string (if k < j then y k else ⟨#[]⟩)
theorem rw_length (y : Nat → ByteArray) (n j : Nat) : (rw_ y n j).length = n := by simp [rw_]
theorem rw_get (y : Nat → ByteArray) {n k : Nat} (j : Nat) (h : k < n) : (rw_ y n j)[k]? = some (.string (if k < j then y k else ⟨#[]⟩)) := by
  unfold rw_
  rw [List.getElem?_map, List.getElem?_range h]
  rfl
theorem rw_zero (y : Nat → ByteArray) (n : Nat) : madeCells #[.string ⟨#[]⟩] n = (rw_ y n 0).toArray := by
  apply Array.toList_inj.1
  apply List.ext_getElem
  · simp [madeCells, rw_]
  · intro i h1 h2
    simp [madeCells, rw_, Nat.mod_one]
theorem rw_set (y : Nat → ByteArray) {n j : Nat} (h : j < n) : (rw_ y n j).set j (.string (y j)) = rw_ y n (j + 1) := by
  apply List.ext_getElem?
  intro k
  by_cases hk : k < n
  · rw [rw_get _ _ hk]
    by_cases c : k = j
    · subst c
      rw [List.getElem?_set_self (by rw [rw_length]; exact hk), if_pos (by omega)]
    · rw [List.getElem?_set_ne (fun e => c e.symm), rw_get _ _ hk]
      by_cases c2 : k < j
      · rw [if_pos c2, if_pos (by omega)]
      · rw [if_neg c2, if_neg (by omega)]
  · rw [List.getElem?_eq_none (by rw [List.length_set, rw_length]; omega), List.getElem?_eq_none (by rw [rw_length]; omega)]

theorem read_on {d : Dk} {i : Nat} (hi : i < d.k) (off : d.off = false) {j : Nat} (hj : j < (d.r i).n) : d.readE (i : Int) (j : Int) = 0 ∧ d.readB (i : Int) (j : Int) = opY d i j := by
  have e := Live.readE (d := d) (i := i) (n := (d.r i).n) ⟨off, hi, rfl⟩ hj
  refine ⟨e, ?_⟩
  unfold Dk.readB
  rw [if_pos e]
  rfl

set_option maxRecDepth 100000 in
theorem readAll {w : World} {D : Nat} {d : Dk} {F : Nat → Prop} {L : Ly} (h : DkL w D d F L) (hq : ∀ j, j < d.k → (d.r j).q.length ≤ 1048576) {i : Nat} (hi : i < d.k) (off : d.off = false) :
    Calls Try.prog 19 #[.pointer (some ⟨D, 0, none⟩), .int .i64 (i : Int)] w fun e w' => ∃ a, e = .returned (.tuple #[.slice a (d.r i).n (d.r i).n, .int .i64 0]) ∧ War.Lies w' a (d.r i).n (opY d i) ∧ Below w.heap.size w w' := by
  have C1 := hid (sectorsD h (i : Int))
  have e1 : d.secs (i : Int) = (d.r i).n := by
    unfold Dk.secs Dk.has
    rw [if_pos (decide_eq_true ⟨by omega, by omega⟩), Int.toNat_natCast]
  rw [e1] at C1
  unfold dp at C1
  have hn := (h.ok.r i hi).n
  have RD := hid fun (W : World) (hW : Below w.heap.size w W) j (hj : j < (d.r i).n) => by
    have C := readD (h.below hW) hq (i : Int) (j : Int)
    obtain ⟨q1, q2⟩ := read_on hi off hj
    rw [q1, q2] at C
    unfold dp at C
    exact C
  have MK := madeS (d.r i).n hn
  rw [rw_zero (opY d i)] at MK
  generalize opY d i = y at *
  generalize (d.r i).n = n at *
  clear e1 hq off
  go_enter Try.func19, Try.ntmps19
  go_wp2_with fail
  refine C1.out.mono ?_
  rintro e w1 ⟨rfl, rfl⟩
  go_wp2
  go_loopw [16] (fun jv wr => ∃ j : Nat, j ≤ n ∧ jv = .int .i64 (j : Int) ∧ wr.heap[w.heap.size]? = some (.cells (rw_ y n j).toArray 9 (0, 0)) ∧ Below w.heap.size w wr) (fun jv _ => n - (intOf jv).toNat)
  case atStart => exact ⟨0, Nat.zero_le _, rfl, heap_alloc_last w _, (Below.refl _ _).alloc (Nat.le_refl _) _⟩
  case round =>
    obtain ⟨j, hj, rfl, hb, hbel⟩ := hrel
    by_cases hlt : j < n
    · have C := hid (RD.out wr hbel j hlt)
      have cb := blk_cell hb (rw_get y j hlt)
      have fb := blk_free hb j
      have ST := hid (blk_set hb j (.string (y j)))
      rw [rw_set y hlt] at ST
      have BE := hid (hbel.setCell (p := ⟨w.heap.size, j, none⟩) (Nat.le_refl _) (.string (y j)))
      clear hb hbel
      generalize y j = x at *
      go_wp2_with fail
      refine C.out.mono ?_
      rintro e w1 ⟨rfl, rfl⟩
      go_wp2
      go_roundw
      case rel => exact ⟨j + 1, by omega, by go_num, ST.out, BE.out⟩
      case measure => simp [intOf] <;> omega
    · obtain rfl : j = n := by omega
      have HB := hid (And.intro hb hbel)
      clear hb hbel
      go_wp2
      go_ret2
      refine ⟨_, rfl, .inr ⟨w.heap.size, 0, rfl, blk_lt HB.out.1, fun k hk => ?_⟩, HB.out.2⟩
      have := blk_cell HB.out.1 (rw_get y j hk)
      rw [if_pos hk] at this
      rw [Nat.zero_add]
      exact this

set_option maxRecDepth 100000 in
theorem readAllOff {w : World} {D : Nat} {d : Dk} {F : Nat → Prop} {L : Ly} (h : DkL w D d F L) (hq : ∀ j, j < d.k → (d.r j).q.length ≤ 1048576) {i : Nat} (hi : i < d.k) (h3 : 3 ≤ (d.r i).n) (off : d.off = true) :
    Calls Try.prog 19 #[.pointer (some ⟨D, 0, none⟩), .int .i64 (i : Int)] w fun e w' => e = .returned (.tuple #[.slice none 0 0, .int .i64 11]) ∧ Below w.heap.size w w' := by
  have C1 := hid (sectorsD h (i : Int))
  have e1 : d.secs (i : Int) = (d.r i).n := by
    unfold Dk.secs Dk.has
    rw [if_pos (decide_eq_true ⟨by omega, by omega⟩), Int.toNat_natCast]
  rw [e1] at C1
  unfold dp at C1
  have hn := (h.ok.r i hi).n
  have RD := hid fun (W : World) (hW : Below w.heap.size w W) => by
    have C := readD (h.below hW) hq (i : Int) 0
    have q1 : d.readE (i : Int) 0 = 11 := by unfold Dk.readE; rw [if_pos off]
    rw [q1] at C
    unfold dp at C
    exact C
  have MK := madeS (d.r i).n hn
  rw [rw_zero (opY d i)] at MK
  generalize d.readB (i : Int) 0 = x at *
  generalize opY d i = y at *
  generalize (d.r i).n = n at *
  clear e1 hq off
  go_enter Try.func19, Try.ntmps19
  go_wp2_with fail
  refine C1.out.mono ?_
  rintro e w1 ⟨rfl, rfl⟩
  go_wp2
  go_loopw [16] (fun jv wr => jv = .int .i64 0 ∧ Below w.heap.size w wr) (fun jv _ => n - (intOf jv).toNat)
  case atStart => exact ⟨rfl, (Below.refl _ _).alloc (Nat.le_refl _) _⟩
  case round =>
    obtain ⟨rfl, hbel⟩ := hrel
    have C := hid (RD.out wr hbel)
    have hlt : (0 : Int) < (n : Int) := by omega
    go_wp2_with fail
    refine C.out.mono ?_
    rintro e w1 ⟨rfl, rfl⟩
    go_wp2
    go_ret2
    exact ⟨rfl, hbel⟩

end Go.Proofs.Ytaojoecmbgmhoaa.Wst
