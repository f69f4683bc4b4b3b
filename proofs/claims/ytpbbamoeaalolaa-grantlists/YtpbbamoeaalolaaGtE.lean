/-
  Two grants held against one another, and the contracts of the document's Has and Drop. Nothing is asked but what each fact names.
-/
import Derived.Test.YtpbbamoeaalolaaGtP
import Derived.Test.YtpbbamoeaalolaaGtS
import Derived.Laws.StructEq
import Derived.Laws.OwnMore
import Derived.BigQuiet
import Derived.Maps.AppendAt
namespace Go.Proofs.Ytpbbamoeaalolaa.Wg
open Go.ChangeShapes Go.WideShapes Go.ChangeAt Go.RowKit Go.Proofs.Ytpbbamoeaalolaa.M Go.Maps

theorem pair_dec (a b : Ky) : ((a.1 == b.1) && (a.2.toList == b.2.toList)) = decide (a = b) := by
  rw [Bool.eq_iff_iff]
  simp only [Bool.and_eq_true, beq_iff_eq, decide_eq_true_eq, toList_data]
  constructor
  · rintro ⟨h1, h2⟩
    exact Prod.ext h1 (data_inj h2)
  · rintro rfl
    exact ⟨rfl, rfl⟩
section
variable (T : Nat) (hT : T = 38 ∨ T = 40)
include hT
theorem inK (w : World) (a b : Ky) : (Op.equalIn 10000 T (.agg #[.int .i64 a.1, .string a.2]) (.agg #[.int .i64 b.1, .string b.2])).run Try.prog w = .ok (decide (a = b)) w := by
  rw [← pair_dec]
  rcases hT with rfl | rfl
  · have hS : Try.prog.underlying 38 = some (.struct (Try.prog.fieldsOf 38)) := by kernel_rfl
    have hp : Try.prog.stoodInHeld 38 = false := by kernel_rfl
    have u3 := Try.underlying3
    have u9 := Try.underlying9
    rw [show (10000 : Nat) = 9999 + 1 from rfl, run_equalIn_agg w 9999 38 _ _ hS hp]
    simp only [Program.fieldsOf, Try.underlying38]
    go_simp
    by_cases h1 : a.1 = b.1 <;> by_cases h2 : a.2.toList = b.2.toList <;> simp [h1, h2]
  · have hS : Try.prog.underlying 40 = some (.struct (Try.prog.fieldsOf 40)) := by kernel_rfl
    have hp : Try.prog.stoodInHeld 40 = false := by kernel_rfl
    have u3 := Try.underlying3
    have u9 := Try.underlying9
    rw [show (10000 : Nat) = 9999 + 1 from rfl, run_equalIn_agg w 9999 40 _ _ hS hp]
    simp only [Program.fieldsOf, Try.underlying40]
    go_simp
    by_cases h1 : a.1 = b.1 <;> by_cases h2 : a.2.toList = b.2.toList <;> simp [h1, h2]
theorem eqlK (w : World) (a b : Ky) : (binOp .eql T (.agg #[.int .i64 a.1, .string a.2]) (.agg #[.int .i64 b.1, .string b.2])).run Try.prog w = .ok (.bool (decide (a = b))) w := by
  rw [run_eql_struct, inK T hT]
  rfl
theorem neqK (w : World) (a b : Ky) : (binOp .neq T (.agg #[.int .i64 a.1, .string a.2]) (.agg #[.int .i64 b.1, .string b.2])).run Try.prog w = .ok (.bool (!decide (a = b))) w := by
  rw [run_neq_struct, inK T hT]
  rfl
end

/-- The document's table. -/
structure RfL (w : World) (r : Nat) (G : Nat → Prop) (L : List Ky) : Prop where
  t : Tbl L
  gr : G r
  rep : ∃ a cap, w.heap[r]? = some (Obj.cells #[.slice a L.length cap] 33 (0, 0)) ∧ L.length ≤ cap ∧ cap ≤ maxLen ∧ (L = [] ∨ ∃ g, a = some ⟨g, 0, none⟩ ∧ G g ∧ g < w.heap.size ∧ Rd kC w g 0 L)
theorem RfL.lt {w : World} {r : Nat} {G : Nat → Prop} {L : List Ky} (h : RfL w r G L) : r < w.heap.size := by
  obtain ⟨a, cap, h1, _⟩ := h.rep
  exact blk_lt h1
theorem Rd.kept {w w' : World} {g : Nat} {G : Nat → Prop} {L : List Ky} (h : Rd kC w g 0 L) (k : Kept G w w') (hg : g < w.heap.size) (hd : ¬ G g) : Rd kC w' g 0 L :=
  fun i x hx t v hv => (k.cell (p := ⟨g, 0 + i * 2 + t, none⟩) hg hd).trans (h i x hx t v hv)
theorem RfL.kept {w w' : World} {r : Nat} {G F : Nat → Prop} {L : List Ky} (h : RfL w r G L) (k : Kept F w w') (hd : ∀ i, G i → ¬ F i) : RfL w' r G L := by
  refine ⟨h.t, h.gr, ?_⟩
  have hr := h.lt
  obtain ⟨a, cap, h1, h2, h3, h4⟩ := h.rep
  refine ⟨a, cap, (k.block r hr (hd r h.gr)).trans h1, h2, h3, ?_⟩
  rcases h4 with h4 | ⟨g, q1, q2, q3, q4⟩
  · exact .inl h4
  · exact .inr ⟨g, q1, q2, Nat.lt_of_lt_of_le q3 k.size, q4.kept k q3 (hd g q2)⟩
theorem RfL.below {w w' : World} {r : Nat} {G : Nat → Prop} {L : List Ky} (h : RfL w r G L) (b : Below w.heap.size w w') : RfL w' r G L := h.kept (F := fun _ => False) (.of_below b) fun _ _ e => e
theorem RfL.mono {w : World} {r : Nat} {F G : Nat → Prop} {L : List Ky} (h : RfL w r F L) (hG : ∀ i, F i → G i) : RfL w r G L := by
  obtain ⟨a, cap, h1, h2, h3, h4⟩ := h.rep
  refine ⟨h.t, hG _ h.gr, a, cap, h1, h2, h3, ?_⟩
  rcases h4 with h4 | ⟨g, q1, q2, q3⟩
  · exact .inl h4
  · exact .inr ⟨g, q1, hG _ q2, q3⟩
/-- A grant of a row, read. -/
theorem Rd.at {w : World} {g : Nat} {L : List Ky} (h : Rd kC w g 0 L) {i : Nat} {x : Ky} (hi : L[i]? = some x) : w.cell? ⟨g, i * 2, none⟩ = some (.int .i64 x.1) ∧ w.cell? ⟨g, i * 2 + 1, none⟩ = some (.string x.2) := by
  have h0 := h i x hi 0 _ rfl
  have h1 := h i x hi 1 _ rfl
  rw [Nat.zero_add] at h0 h1
  exact ⟨h0, h1⟩

set_option maxRecDepth 100000 in
set_option maxHeartbeats 400000 in
theorem hasRef {w : World} {r : Nat} {G : Nat → Prop} {L : List Ky} (h : RfL w r G L) (k : Ky) :
    Calls Try.prog 19 #[.pointer (some ⟨r, 0, none⟩), .agg #[.int .i64 k.1, .string k.2]] w fun e w' => e = .returned (.bool (decide (k ∈ L))) ∧ Below w.heap.size w w' := by
  have hr := h.lt
  obtain ⟨a, cap, h1, h2, h3, h4⟩ := h.rep
  have hlen := h.t.len
  have c0 := blk_cell (l := [.slice a L.length cap]) h1 (i := 0) rfl
  have hq := eqlK 40 (.inr rfl)
  have kk := KAt.new w k 40
  clear h h1
  go_enter Try.func19, Try.ntmps19
  go_wp2
  generalize hX : w.alloc (.cells #[.int .i64 k.1, .string k.2] 40) = X
  have B0 : Below w.heap.size w X := hX ▸ (Below.refl _ _).alloc (Nat.le_refl _) _
  rw [hX] at kk
  clear hX
  have cX := (B0.cell (p := ⟨r, 0, none⟩) hr).trans c0
  obtain ⟨k0, k1, _⟩ := kk.c
  go_loopw [5] (fun i wr => ∃ n : Nat, n ≤ L.length ∧ i = .int .i64 n ∧ (∃ q, wr = X.drewN q) ∧ Hid (∀ x ∈ L.take n, x ≠ k)) (fun i _ => L.length - (intOf i).toNat)
  case atStart => exact ⟨0, Nat.zero_le _, rfl, ⟨0, rfl⟩, by intro x hx; simp at hx⟩
  case round =>
    obtain ⟨n, hn, rfl, ⟨q, rfl⟩, hno⟩ := hrel
    by_cases c : n < L.length
    · rcases h4 with h4 | ⟨g, rfl, _, q3, q4⟩
      · rw [h4] at c; simp at c
      obtain ⟨x, hx⟩ : ∃ x, L[n]? = some x := ⟨L[n], List.getElem?_eq_getElem c⟩
      obtain ⟨x0, x1⟩ := q4.at hx
      have y0 := (B0.cell (p := ⟨g, n * 2, none⟩) q3).trans x0
      have y1 := (B0.cell (p := ⟨g, n * 2 + 1, none⟩) q3).trans x1
      have hqx := fun W => hq W x k
      by_cases e : x = k
      · have hin : decide (k ∈ L) = true := decide_eq_true (e ▸ List.mem_of_getElem? hx)
        simp only [decide_eq_true e] at hqx
        clear hq x0 x1 hno hx q4
        go_wp2
        go_quiet (fail)
        go_wp2
        go_ret
        exact ⟨by rw [hin]; rfl, B0.os, B0.tape, B0.output, B0.size, B0.block⟩
      · simp only [decide_eq_false e] at hqx
        have hno' : Hid (∀ y ∈ L.take (n + 1), y ≠ k) := by
          intro y hy
          rw [List.take_add_one, hx] at hy
          rcases List.mem_append.1 hy with hy | hy
          · exact hno.out y hy
          · simp at hy; rw [hy]; exact e
        clear hq x0 x1 hno hx q4 e
        go_wp2
        go_quiet (fail)
        go_wp2
        go_roundw
        case rel => exact ⟨n + 1, c, by go_num, ⟨_, rfl⟩, hno'⟩
        case measure => simp [intOf]; omega
    · have hout : decide (k ∈ L) = false := decide_eq_false fun hk => by
        have := hno.out k (by rw [List.take_of_length_le (by omega)]; exact hk)
        exact this rfl
      go_wp2
      go_ret
      exact ⟨by rw [hout]; rfl, B0.os, B0.tape, B0.output, B0.size, B0.block⟩

end Go.Proofs.Ytpbbamoeaalolaa.Wg
