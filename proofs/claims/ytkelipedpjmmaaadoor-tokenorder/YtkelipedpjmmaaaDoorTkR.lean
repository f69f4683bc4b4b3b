/-
  The walk of the law TokenBack: it returns true; nothing that was in memory has turned. Conditions: texts that fit a machine, numbers that fit their kinds; the table of the rounds' numbers holds what it was laid with.
-/
import Derived.Test.YtkelipedpjmmaaaDoorRows
import Derived.Test.YtkelipedpjmmaaaDoorTkG
import Derived.Test.YtkelipedpjmmaaaDoorQe
import Derived.Lib.MinMax
namespace Go.Proofs.YtkelipedpjmmaaaDoor.Wtk
open Go.ChangeShapes Go.WideShapes Go.ChangeAt Go.RowKit Go.Proofs.YtkelipedpjmmaaaDoor.M Go.Proofs.YtkelipedpjmmaaaDoor.Wf Go.Proofs.YtkelipedpjmmaaaDoor.Wr Go.Proofs.YtkelipedpjmmaaaDoor.Wh

/-- The claims and what is asked lie in their cells. -/
def Cx (w : World) (a b c d : Int) (K : ByteArray) (now ep : Int) (W : World) : Prop := W.heap[w.heap.size]? = some (.cells #[.int .i64 a, .int .i64 b, .int .i64 c, .int .i64 d] 39 (0, 0)) ∧ W.heap[w.heap.size + 1]? = some (.cells #[.string K, .int .i64 now, .int .i64 ep] 33 (0, 0)) ∧ Below w.heap.size w W
section
variable {w W W' : World} {a b c d : Int} {K : ByteArray} {now ep : Int}
theorem cx_start (w : World) (a b c d : Int) (K : ByteArray) (now ep : Int) : Cx w a b c d K now ep ((w.alloc (.cells #[.int .i64 a, .int .i64 b, .int .i64 c, .int .i64 d] 39)).alloc (.cells #[.string K, .int .i64 now, .int .i64 ep] 33)) := by
  obtain ⟨X, hX⟩ : ∃ X, X = (w.alloc (.cells #[.int .i64 a, .int .i64 b, .int .i64 c, .int .i64 d] 39)).alloc (.cells #[.string K, .int .i64 now, .int .i64 ep] 33) := ⟨_, rfl⟩
  obtain ⟨h0, h1, _, h3⟩ := Wr.two w _ _ X hX
  rw [← hX]
  exact ⟨h0, h1, h3⟩
theorem Cx.below (h : Cx w a b c d K now ep W) (k : Below W.heap.size W W') : Cx w a b c d K now ep W' := ⟨(k.block _ (lt_of_heap h.1)).trans h.1, (k.block _ (lt_of_heap h.2.1)).trans h.2.1, h.2.2.trans (k.mono h.2.2.size)⟩
theorem Cx.alloc (h : Cx w a b c d K now ep W) (o : Obj) : Cx w a b c d K now ep (W.alloc o) := h.below ((Below.refl _ _).alloc (Nat.le_refl _) _)
theorem Cx.cells (h : Cx w a b c d K now ep W) : (W.cell? ⟨w.heap.size, 0, none⟩ = some (.int .i64 a) ∧ W.cell? ⟨w.heap.size, 1, none⟩ = some (.int .i64 b) ∧ W.cell? ⟨w.heap.size, 2, none⟩ = some (.int .i64 c) ∧ W.cell? ⟨w.heap.size, 3, none⟩ = some (.int .i64 d)) ∧ (W.cell? ⟨w.heap.size + 1, 0, none⟩ = some (.string K) ∧ W.cell? ⟨w.heap.size + 1, 1, none⟩ = some (.int .i64 now) ∧ W.cell? ⟨w.heap.size + 1, 2, none⟩ = some (.int .i64 ep)) ∧ w.heap.size + 1 < W.heap.size := by
  obtain ⟨h, h2, _⟩ := h
  exact ⟨four_c h, ⟨by simp [World.cell?, h2], by simp [World.cell?, h2], by simp [World.cell?, h2]⟩, lt_of_heap h2⟩
end
theorem down31 (n : Int) : ∃ k : Int, max 0 n % 2147483648 = k ∧ 0 ≤ k ∧ k ≤ 2147483647 := ⟨_, rfl, by omega, by omega⟩

set_option maxRecDepth 100000 in
set_option maxHeartbeats 4000000 in
theorem back (a b c d : Int) (K : ByteArray) (now ep : Int) (w : World) (_ : I6 a) (_ : I6 b) (hc : I6 c) (hd : I6 d) (hK : K.size ≤ 140737488351232) (_ : I6 now) (_ : I6 ep) (hT : Tab w) :
    Calls Tryd.prog 5 #[.agg #[.int .i64 a, .int .i64 b, .int .i64 c, .int .i64 d], .agg #[.string K, .int .i64 now, .int .i64 ep]] w fun e w' => e = .returned (.bool true) ∧ Below w.heap.size w w' := by
  obtain ⟨A, hA, hA1, hA2⟩ := down31 a
  obtain ⟨B, hB, hB1, hB2⟩ := down31 b
  have MT := hid (show Mt A B c d from ⟨⟨hA1, hA2⟩, ⟨hB1, hB2⟩, hc, hd⟩)
  have CM := hid (fun W h => mint_ K A B c d W (by omega) MT.out.a6 MT.out.b6 hc hd h)
  have CV := hid (fun n e W h => verify K (mint K A B c d) n e W (by omega) (by have := cB_size MT.out.a6 MT.out.b6 hc hd; rw [mint_size]; omega) h)
  have V1 : Hid (∀ W, Tab W → Calls Tryd.prog 11 #[.string K, .string (mint K A B c d), .int .i64 (min now d), .int .i64 c] W fun e w' => e = .returned (.tuple #[.agg #[.int .i64 A, .int .i64 B, .int .i64 c, .int .i64 d], .int .i64 0]) ∧ Below W.heap.size W w') := fun W h => by
    have h2 := CV.out (min now d) c W h
    obtain ⟨e0, e1, e2, e3, e4⟩ := vf_mint (K := K) MT.out (now := min now d) (ep := c) (by omega) rfl
    rw [e0, e1, e2, e3, e4] at h2
    exact h2
  have V2 : Hid (¬ ep = c → ∀ W, Tab W → Calls Tryd.prog 11 #[.string K, .string (mint K A B c d), .int .i64 (min now d), .int .i64 ep] W fun e w' => e = .returned (.tuple #[.agg #[.int .i64 0, .int .i64 0, .int .i64 0, .int .i64 0], .int .i64 22]) ∧ Below W.heap.size W w') := fun hn W h => by
    have h2 := CV.out (min now d) ep W h
    have e0 := vf_mint_epoch (K := K) MT.out (now := min now d) (ep := ep) (by omega) (fun c => hn c.symm)
    have n0 := vf_none (K := K) (s := mint K A B c d) (now := min now d) (ep := ep) (by rw [e0]; decide)
    rw [e0, n0, n0, n0, n0] at h2
    exact h2
  have V3 : Hid (d < now → ∀ W, Tab W → Calls Tryd.prog 11 #[.string K, .string (mint K A B c d), .int .i64 now, .int .i64 c] W fun e w' => e = .returned (.tuple #[.agg #[.int .i64 0, .int .i64 0, .int .i64 0, .int .i64 0], .int .i64 21]) ∧ Below W.heap.size W w') := fun hn W h => by
    have h2 := CV.out now c W h
    have e0 := vf_mint_late (K := K) MT.out (now := now) (ep := c) hn
    have n0 := vf_none (K := K) (s := mint K A B c d) (now := now) (ep := c) (by rw [e0]; decide)
    rw [e0, n0, n0, n0, n0] at h2
    exact h2
  have HT := hid hT
  have X0 := hid (cx_start w A B c d K now ep)
  have T0 := hid (HT.out.below X0.out.2.2 HT.out.pos)
  have TB : Hid (∀ W, Cx w A B c d K now ep W → Tab W) := fun W h => HT.out.below h.2.2 HT.out.pos
  generalize mint K A B c d = M at *
  clear hT CV MT
  go_enter Tryd.func5, Tryd.ntmps5
  go_wp2_with fail
  refine (CM.out _ T0.out).mono ?_
  rintro e w1 ⟨rfl, b1⟩
  have X1 := hid (X0.out.below b1)
  obtain ⟨⟨x0, x1, x2, x3⟩, ⟨y0, y1, y2⟩, xl⟩ := X1.out.cells
  clear X0 T0 b1 CM
  go_wp2_with fail
  refine (V1.out _ (TB.out _ X1.out)).mono ?_
  rintro e w2 ⟨rfl, b2⟩
  have X2 := hid ((X1.out.below b2).alloc (.cells #[.int .i64 A, .int .i64 B, .int .i64 c, .int .i64 d] 23))
  clear X1 x0 x1 x2 x3 y0 y1 y2 xl b2 V1
  go_wp2_with fail
  refine (wakes _ (TB.out _ X2.out)).mono ?_
  rintro e w3 ⟨rfl, b3⟩
  have X3 := hid (X2.out.below b3)
  obtain ⟨⟨x0, x1, x2, x3⟩, ⟨y0, y1, y2⟩, xl⟩ := X3.out.cells
  obtain ⟨d0, d1, d2, d3⟩ := four_c ((b3.block w2.heap.size (by simp)).trans (heap_alloc_new w2 _))
  clear b3 X2
  by_cases h1 : ep = c
  · have h1' : (ep != c) = false := by simpa using h1
    clear V2
    by_cases h2 : d < now
    · have V := hid (V3.out h2)
      clear V3 h1
      go_wp2_with fail
      refine (V.out _ (TB.out _ X3.out)).mono ?_
      rintro e w5 ⟨rfl, b5⟩
      have X5 := hid (X3.out.below b5)
      clear b5
      go_wp2_with fail
      go_ret
      exact ⟨rfl, X5.out.2.2.alloc X5.out.2.2.size _⟩
    · clear V3 h1
      go_wp2_with fail
      go_ret
      exact ⟨rfl, X3.out.2.2⟩
  · have h1' : (ep != c) = true := by simpa using h1
    have U := hid (V2.out h1)
    clear V2 h1
    go_wp2_with fail
    refine (U.out _ (TB.out _ X3.out)).mono ?_
    rintro e w4 ⟨rfl, b4⟩
    have X4 := hid ((X3.out.below b4).alloc (.cells #[.int .i64 0, .int .i64 0, .int .i64 0, .int .i64 0] 23))
    clear x0 x1 x2 x3 y0 y1 y2 xl d0 d1 d2 d3
    obtain ⟨⟨x0, x1, x2, x3⟩, ⟨y0, y1, y2⟩, xl⟩ := (X3.out.below b4).cells
    have xl0 : w.heap.size < w4.heap.size := by omega
    clear X3 b4 U
    by_cases h2 : d < now
    · have V := hid (V3.out h2)
      clear V3
      go_wp2_with fail
      refine (V.out _ (TB.out _ X4.out)).mono ?_
      rintro e w5 ⟨rfl, b5⟩
      have X5 := hid (X4.out.below b5)
      clear b5
      go_wp2_with fail
      go_ret
      exact ⟨rfl, X5.out.2.2.alloc X5.out.2.2.size _⟩
    · clear V3
      go_wp2_with fail
      go_ret
      exact ⟨rfl, X4.out.2.2⟩

end Go.Proofs.YtkelipedpjmmaaaDoor.Wtk
