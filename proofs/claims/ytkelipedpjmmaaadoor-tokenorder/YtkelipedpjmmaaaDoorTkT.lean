/-
  The walk of the law TokenOrder: it returns true; nothing that was in memory has turned. Conditions: texts that fit a machine, numbers that fit their kinds; the table of the rounds' numbers holds what it was laid with.
-/
import Derived.Test.YtkelipedpjmmaaaDoorRows
import Derived.Test.YtkelipedpjmmaaaDoorTkS
namespace Go.Proofs.YtkelipedpjmmaaaDoor.Wtk
open Go.ChangeShapes Go.WideShapes Go.ChangeAt Go.RowKit Go.Proofs.YtkelipedpjmmaaaDoor.M Go.Proofs.YtkelipedpjmmaaaDoor.Wf Go.Proofs.YtkelipedpjmmaaaDoor.Wr Go.Proofs.YtkelipedpjmmaaaDoor.Wh

theorem least31 (l : Nat) : ∃ n : Nat, min (l : Int) 31 = (n : Int) ∧ n ≤ 31 ∧ n ≤ l := ⟨min l 31, by omega, by omega, by omega⟩
theorem down62 (n : Int) (h : I6 n) : ∃ k : Int, min n 4611686018427387904 = k ∧ I6 k ∧ k ≤ 4611686018427387904 := ⟨_, rfl, ⟨by have := h.1; omega, by have := h.2; omega⟩, by omega⟩

set_option maxRecDepth 100000 in
set_option maxHeartbeats 4000000 in
theorem order_ (a b c d : Int) (K : ByteArray) (now ep : Int) (o : ByteArray) (w : World) (_ : I6 a) (_ : I6 b) (hc : I6 c) (hd : I6 d) (hK : K.size ≤ 140737488351232) (_ : I6 now) (_ : I6 ep) (_ : o.size ≤ 140737488351232) (hT : Tab w) :
    Calls Tryd.prog 7 #[.agg #[.int .i64 a, .int .i64 b, .int .i64 c, .int .i64 d], .agg #[.string K, .int .i64 now, .int .i64 ep], .string o] w fun e w' => e = .returned (.bool true) ∧ Below w.heap.size w w' := by
  obtain ⟨A, hA, hA1, hA2⟩ := down31 a
  obtain ⟨B, hB, hB1, hB2⟩ := down31 b
  obtain ⟨D, hD, hD6, hD2⟩ := down62 d hd
  obtain ⟨n, hn, hn1, hn2⟩ := least31 o.size
  have hD1 : -9223372036854775808 ≤ D := hD6.1
  have MT := hid (show Mt A B c D from ⟨⟨hA1, hA2⟩, ⟨hB1, hB2⟩, hc, hD6⟩)
  have CM := hid (fun W h => mint_ K A B c D W (by omega) MT.out.a6 MT.out.b6 hc hD6 h)
  have hz := mint_size K A B c D
  have hz2 := cB_size MT.out.a6 MT.out.b6 hc hD6
  have V1 : Hid (∀ (v : UInt8), ¬ v.toNat = bn (mint K A B c D) ((cB A B c D).size + 31) → ∀ W, Tab W → Calls Tryd.prog 11 #[.string K, .string (setB (mint K A B c D) ((cB A B c D).size + 31) v), .int .i64 (D + 1), .int .i64 ep] W fun e w' => e = .returned (.tuple #[.agg #[.int .i64 0, .int .i64 0, .int .i64 0, .int .i64 0], .int .i64 20]) ∧ Below W.heap.size W w') := fun v hv W h => by
    have h2 := verify K (setB (mint K A B c D) ((cB A B c D).size + 31) v) (D + 1) ep W (by omega) (by rw [setB_size]; omega) h
    have e0 := vf_turned (K := K) MT.out (now := D + 1) (ep := ep) (q := 31) (by decide) hv
    have n0 := vf_none (K := K) (s := setB (mint K A B c D) ((cB A B c D).size + 31) v) (now := D + 1) (ep := ep) (by rw [e0]; decide)
    rw [e0, n0, n0, n0, n0] at h2
    exact h2
  have V2 : Hid (∀ W, Tab W → Calls Tryd.prog 11 #[.string K, .string (mint K A B c D), .int .i64 (D + 1), .int .i64 ep] W fun e w' => e = .returned (.tuple #[.agg #[.int .i64 0, .int .i64 0, .int .i64 0, .int .i64 0], .int .i64 21]) ∧ Below W.heap.size W w') := fun W h => by
    have h2 := verify K (mint K A B c D) (D + 1) ep W (by omega) (by omega) h
    have e0 := vf_mint_late (K := K) MT.out (now := D + 1) (ep := ep) (by omega)
    have n0 := vf_none (K := K) (s := mint K A B c D) (now := D + 1) (ep := ep) (by rw [e0]; decide)
    rw [e0, n0, n0, n0, n0] at h2
    exact h2
  have V3 : Hid (∀ W, Tab W → Calls Tryd.prog 11 #[.string K, .string (o.extract 0 n), .int .i64 now, .int .i64 ep] W fun e w' => e = .returned (.tuple #[.agg #[.int .i64 0, .int .i64 0, .int .i64 0, .int .i64 0], .int .i64 3]) ∧ Below W.heap.size W w') := fun W h => by
    have hs : (o.extract 0 n).size < 32 := by simp; omega
    have h2 := verify K (o.extract 0 n) now ep W (by omega) (by omega) h
    have e0 := vf_short (K := K) (now := now) (ep := ep) hs
    have n0 := vf_none (K := K) (s := o.extract 0 n) (now := now) (ep := ep) (by rw [e0]; decide)
    rw [e0, n0, n0, n0, n0] at h2
    exact h2
  have HT := hid hT
  have X0 := hid (cx_start w A B c D K now ep)
  have T0 := hid (HT.out.below X0.out.2.2 HT.out.pos)
  have TB : Hid (∀ W, Cx w A B c D K now ep W → Tab W) := fun W h => HT.out.below h.2.2 HT.out.pos
  generalize (cB A B c D).size = P at *
  generalize mint K A B c D = M at *
  have hm2 : ¬ (M.size : Int) < 32 := by omega
  have hm1 : (M.size : Int) - 1 = ((P + 31 : Nat) : Int) := by omega
  have hpz : P + 31 < M.size := by omega
  have hpb : P + 31 ≤ 30000 := by omega
  clear hT MT hz
  go_enter Tryd.func7, Tryd.ntmps7
  go_wp2_with fail
  refine (CM.out _ T0.out).mono ?_
  rintro e w1 ⟨rfl, b1⟩
  have X1 := hid (X0.out.below b1)
  obtain ⟨capb, u, hcv, hcap, hby, hfz, b2⟩ := bytes_of M w1
  have X2 := hid (X1.out.below b2)
  have HB := hid hby
  have HF := hid hfz
  clear X0 T0 b1 CM hby hfz
  go_wp2_with fail
  refine (wakes _ (TB.out _ X2.out)).mono ?_
  rintro e w3 ⟨rfl, b3⟩
  have X3 := hid (X2.out.below b3)
  have HB3 := hid (HB.out.below b3)
  have HF3 := hid (fun j hj => (b3.frozen (p := ⟨w1.heap.size, j, none⟩) HB.out.1).trans (HF.out j hj))
  obtain ⟨⟨x0, x1, x2, x3⟩, ⟨y0, y1, y2⟩, xl⟩ := X3.out.cells
  have hw1 : w.heap.size + 1 < w1.heap.size := by have := lt_of_heap X1.out.2.1; omega
  clear b3 X2 HB HF hcv b2 X1
  have hx := bn_lt M (P + 31)
  have hc1 := HB3.out.2 (P + 31) hpz
  have hf1 := HF3.out (P + 31) hpz
  clear HF3
  generalize P + 31 = p at *
  generalize hxx : bn M p = x at *
  clear hxx
  have hval : bits .xor .u8 (x : Int) 1 = ((UInt8.ofNat (x ^^^ 2 ^ 0)).toNat : Int) := by simpa using flip_val hx (show 0 < 8 by decide)
  have hvn := flip_byte hx (show 0 < 8 by decide)
  have C1 := hid (V1.out (UInt8.ofNat (x ^^^ 2 ^ 0)) (by rw [hvn]; exact flip_ne x 0))
  generalize UInt8.ofNat (x ^^^ 2 ^ 0) = v at *
  clear hvn V1
  have By4 := hid (HB3.out.set v hpz)
  have X4 := hid (show Cx w A B c D K now ep (w3.setCell ⟨w1.heap.size, p, none⟩ (.int .u8 (v.toNat : Int))) from
    ⟨(Below.heap_setCell _ _ _ _ (by show w.heap.size ≠ w1.heap.size; omega)).trans X3.out.1, (Below.heap_setCell _ _ _ _ (by show w.heap.size + 1 ≠ w1.heap.size; omega)).trans X3.out.2.1, (X3.out.2.2.setCell (p := ⟨w1.heap.size, p, none⟩) (by show w.heap.size ≤ w1.heap.size; omega) _)⟩)
  have hsz := setB_size M p v
  have hcv := By4.out.text M.size capb (by rw [setB_size]; exact Nat.le_refl _)
  have hex : (setB M p v).extract 0 M.size = setB M p v := by rw [← hsz]; exact extract_all _
  rw [hex] at hcv
  clear hex
  generalize setB M p v = S at *
  obtain ⟨⟨x0', x1', x2', x3'⟩, ⟨y0', y1', y2'⟩, xl'⟩ := X4.out.cells
  go_wp2_with fail
  refine (C1.out _ (TB.out _ X4.out)).mono ?_
  rintro e w5 ⟨rfl, b5⟩
  clear x0 x1 x2 x3 y0 y1 y2 xl hcv x0' x1' x2' x3' y0' y1' y2' xl'
  have X5 := hid (X4.out.below b5)
  have By5 := hid (By4.out.below b5)
  obtain ⟨⟨x0, x1, x2, x3⟩, ⟨y0, y1, y2⟩, xl⟩ := X5.out.cells
  have xl0 : w.heap.size < w5.heap.size := by omega
  clear X4 By4 b5 C1 X3 HB3 hc1 hf1
  go_wp2_with fail
  refine (V2.out _ (TB.out _ (X5.out.alloc _))).mono ?_
  rintro e w6 ⟨rfl, b6⟩
  have X6 := hid ((X5.out.alloc _).below b6)
  have By6 := hid ((By5.out.below ((Below.refl _ _).alloc (Nat.le_refl _) _)).below b6)
  clear x0 x1 x2 x3 y0 y1 y2 xl xl0 X5 By5 b6 V2
  obtain ⟨X, hX⟩ : ∃ X, X = w6.alloc (.cells #[.int .i64 0, .int .i64 0, .int .i64 0, .int .i64 0] 23) := ⟨_, rfl⟩
  have Q0 := hid (show Kp w A B c D K now ep w1.heap.size S X from by rw [hX]; exact Kp.alloc ⟨X6.out, By6.out, hw1⟩ _)
  have P0 := hid Q0.out.drew
  have KA : Hid (∀ w', Kp w A B c D K now ep w1.heap.size S w' → (w'.cell? ⟨w.heap.size + 1, 0, none⟩ = some (.string K) ∧ w'.cell? ⟨w.heap.size + 1, 1, none⟩ = some (.int .i64 now) ∧ w'.cell? ⟨w.heap.size + 1, 2, none⟩ = some (.int .i64 ep) ∧ Hid (Kp w A B c D K now ep w1.heap.size S w'))) := fun w' h => ⟨h.1.cells.2.1.1, h.1.cells.2.1.2.1, h.1.cells.2.1.2.2, h⟩
  have hos : (o.extract 0 n).size < 32 := by simp; omega
  generalize hY : o.extract 0 n = Y at *
  have CC : Hid (∀ W, Kp w A B c D K now ep w1.heap.size S W → Calls Tryd.prog 11 #[.string K, .string Y, .int .i64 now, .int .i64 ep] W fun e w' => e = .returned (.tuple #[.agg #[.int .i64 0, .int .i64 0, .int .i64 0, .int .i64 0], .int .i64 3]) ∧ Hid (Kp w A B c D K now ep w1.heap.size S w') ∧ Hid (Below W.heap.size W w')) := fun W h =>
    (V3.out W (TB.out _ h.1)).mono fun e w' ⟨h1, h2⟩ => ⟨h1, h.below h2, h2⟩
  have hgX : w1.heap.size < X.heap.size := Q0.out.2.1.1
  have xl : w.heap.size + 1 < X.heap.size := Q0.out.1.cells.2.2
  have hn3 : (n : Int) ≤ (o.size : Int) := by omega
  have hn4 : (0 : Int) ≤ (n : Int) := by omega
  clear X6 By6 V3
  go_wp2_with fail
  rw [← hX]
  clear hX
  go_region_held3 (fun w' => w'.cell? ⟨w.heap.size + 1, 0, none⟩ = some (.string K) ∧ w'.cell? ⟨w.heap.size + 1, 1, none⟩ = some (.int .i64 now) ∧ w'.cell? ⟨w.heap.size + 1, 2, none⟩ = some (.int .i64 ep) ∧ Hid (Kp w A B c D K now ep w1.heap.size S w'))
    ((refine KA.out _ ?_; first | with_reducible exact P0.out | with_reducible exact Q0.out | with_reducible exact P1.out | with_reducible exact Kp.alloc P0.out _ | with_reducible exact Kp.alloc P1.out _ | with_reducible exact Kp.drew (Kp.alloc Q0.out _) | exact Kp.put P1.out hgX _ _ _ _))
    (first | (go_at_call 11; have hH := ‹_ ∧ _ ∧ _ ∧ Hid (Kp w A B c D K now ep w1.heap.size S _)›; have hI : Hid (Kp w A B c D K now ep w1.heap.size S X.drew) := (by with_reducible exact hH.2.2.2); refine (CC.out _ hI.out).mono ?_; clear hH hI; rintro e w7 ⟨rfl, P1, b7⟩) | (go_at_call 11; have hH := ‹_ ∧ _ ∧ _ ∧ Hid (Kp w A B c D K now ep w1.heap.size S _)›; refine (CC.out _ hH.2.2.2.out).mono ?_; clear hH; rintro e w7 ⟨rfl, P1, b7⟩; have q0 : w7.heap[X.heap.size]? = some (.cells #[.int .i64 0, .int .i64 0, .int .i64 0, .int .i64 0] 23 (0, 0)) := (b7.out.block X.heap.size (show X.heap.size < (X.alloc (.cells #[.int .i64 0, .int .i64 0, .int .i64 0, .int .i64 0] 23)).heap.size from by rw [World.size_alloc]; exact Nat.lt_succ_self X.heap.size)).trans (heap_alloc_new X _); obtain ⟨z0, z1, z2, z3⟩ := four_c q0; have zf := frozen_there q0; have zl := lt_of_heap q0; clear q0))
  all_goals
    clear KA CC P0 Q0
    go_wp2_with fail
    go_ret
    first | exact ⟨rfl, P1.out.1.2.2.alloc P1.out.1.2.2.size _⟩ | exact ⟨rfl, (Kp.put P1.out hgX _ _ _ _).1.2.2⟩

end Go.Proofs.YtkelipedpjmmaaaDoor.Wtk
