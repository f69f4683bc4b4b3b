/-
  The walk of the laws' wakes: what the document fixes holds; nothing that was in memory has turned.
-/
import Derived.Test.YtffhnkljmalbiaaDkP
namespace Go.Proofs.Ytffhnkljmalbiaa.Wd
open Go.ChangeShapes Go.WideShapes Go.ChangeAt Go.RowKit Go.Proofs.Ytffhnkljmalbiaa.M

theorem rd_nil {r : Rg} (h : r.q = []) (sec : Nat) : r.rd sec = r.s sec := by unfold Rg.rd; rw [h]; rfl

def w0 : Dk := newD (fun _ => 2) 1
theorem w_read0 : w0.readE 0 1 = 0 := by decide
theorem w_write0 {x : ByteArray} (hx : x.size = 64) : w0.writeE 0 1 x = 0 ∧ w0.write 0 1 x = w0.put 0 1 x := by
  have hp : w0.preW 0 1 x = 0 := by unfold Dk.preW; rw [w_read0]; simp [hx]
  unfold Dk.writeE Dk.write
  rw [hp]
  exact ⟨rfl, rfl⟩
theorem w_write1 {x y : ByteArray} (hy : y.size = 64) : (w0.put 0 1 x).writeE 0 1 y = 0 ∧ (w0.put 0 1 x).write 0 1 y = (w0.put 0 1 x).put 0 1 y := by
  have hr : (w0.put 0 1 x).readE 0 1 = 0 := w_read0
  have hp : (w0.put 0 1 x).preW 0 1 y = 0 := by unfold Dk.preW; rw [hr]; simp [hy]
  unfold Dk.writeE Dk.write
  rw [hp]
  exact ⟨rfl, rfl⟩
theorem kb1_0 : kb [1] 0 0 = true := by decide
theorem kb1_1 : kb [1] 0 1 = false := by decide
def w3 (x y : ByteArray) : Dk := ((w0.put 0 1 x).put 0 1 y).crash [1]
theorem w_end (x y : ByteArray) : (w3 x y).readE 0 1 = 0 ∧ (w3 x y).readB 0 1 = x ∧ (w3 x y).secs 0 = 2 ∧ ((w3 x y).image 0).size = 128 := by
  have hr : (w3 x y).readE 0 1 = 0 := w_read0
  refine ⟨hr, ?_, rfl, ?_⟩
  · unfold Dk.readB
    rw [if_pos hr]
    have e : (w3 x y).r 0 = ({ n := 2, s := fun _ => noB, q := [(1, x), (1, y)] } : Rg).set (kb [1] 0) := rfl
    show ((w3 x y).r 0).rd 1 = x
    rw [e, rd_nil rfl]
    have e0 := stL_yes kb1_0 (fun _ => noB) [(1, x), (1, y)]
    have e1 := stL_no kb1_1 (fun _ => noB) [(1, x), (1, y)]
    have e2 : (({ n := 2, s := fun _ => noB, q := [(1, x), (1, y)] } : Rg).set (kb [1] 0)).s = stL (kb [1] 0) (fun _ => noB) [(1, x), (1, y)] ([(1, x), (1, y)] : List (Nat × ByteArray)).length := rfl
    rw [e2, List.length_cons, List.length_cons, List.length_nil, e1, e0]
    rfl
  · have : (w3 x y).image 0 = img ((w3 x y).r 0).s 2 := rfl
    rw [this, img_size]
theorem w_q (x y : ByteArray) : (∀ j, j < w0.k → (w0.r j).q.length < 1048576) ∧ (∀ j, j < (w0.put 0 1 x).k → ((w0.put 0 1 x).r j).q.length < 1048576) ∧ (∀ j, j < ((w0.put 0 1 x).put 0 1 y).k → (((w0.put 0 1 x).put 0 1 y).r j).q.length ≤ 1048576) ∧ (∀ j, j < (w3 x y).k → ((w3 x y).r j).q.length ≤ 1048576) := by
  have h0 : ∀ j, j < 1 → j = 0 := fun j hj => by omega
  refine ⟨fun j hj => ?_, fun j hj => ?_, fun j hj => ?_, fun j hj => ?_⟩
  · rw [h0 j hj]; show 0 < 1048576; omega
  · rw [h0 j hj]; show 1 < 1048576; omega
  · rw [h0 j hj]; show 2 ≤ 1048576; omega
  · rw [h0 j hj]; show 0 ≤ 1048576; omega

def tx : ByteArray := secB ⟨#[120]⟩
def ty : ByteArray := secB ⟨#[121]⟩
theorem tx_size : tx.size = 64 := secB_size (by decide)
theorem ty_size : ty.size = 64 := secB_size (by decide)
theorem same_list (a b : ByteArray) : (a.data.toList == b.data.toList) = decide (a = b) := by
  rcases a with ⟨⟨a⟩⟩
  rcases b with ⟨⟨b⟩⟩
  by_cases c : a = b
  · subst c; simp
  · have : ¬ ((⟨⟨a⟩⟩ : ByteArray) = ⟨⟨b⟩⟩) := fun h => c (by injection h with h; injection h)
    simp [c, this]

set_option maxRecDepth 100000 in
set_option maxHeartbeats 1600000 in
theorem wakes (w : World) : Calls Try.prog 12 #[] w fun e w' => e = .returned (.bool true) ∧ Below w.heap.size w w' := by
  have CN := hid (new (some ⟨w.heap.size, 0, none⟩) 1 1 (fun _ => 2) (w.alloc (.cells #[.int .i64 2] 3)) (by omega) (by omega) (fun j hj => ⟨w.heap.size, 0, rfl, by simp, by
    have : j = 0 := by omega
    subst this
    exact blk_cell (l := [_]) (heap_alloc_last w _) rfl⟩))
  have b0 : Below w.heap.size w (w.alloc (.cells #[.int .i64 2] 3)) := (Below.refl _ _).alloc (Nat.le_refl _) _
  have s0 : (w.alloc (.cells #[.int .i64 2] 3)).heap.size = w.heap.size + 1 := by simp
  rw [s0] at CN
  have B0 := hid b0
  clear b0 s0
  have CX := hid (fun W => sector ⟨#[120]⟩ W (by decide))
  have CY := hid (fun W => sector ⟨#[121]⟩ W (by decide))
  rw [show secB ⟨#[120]⟩ = tx from rfl] at CX
  rw [show secB ⟨#[121]⟩ = ty from rfl] at CY
  have hx := tx_size
  have hy := ty_size
  generalize tx = x at CX hx
  generalize ty = y at CY hy
  obtain ⟨q1, q2, q3, q4⟩ := w_q x y
  obtain ⟨E1, E2⟩ := w_write0 hx
  obtain ⟨E3, E4⟩ := w_write1 (x := x) hy
  obtain ⟨E5, E6, E7, E8⟩ := w_end x y
  have HH := hid (And.intro E1 (And.intro E2 (And.intro E3 (And.intro E4 (And.intro E5 (And.intro E6 (And.intro E7 E8)))))))
  have QQ := hid (And.intro q1 (And.intro q2 (And.intro q3 q4)))
  clear E1 E2 E3 E4 E5 E6 E7 E8 q1 q2 q3 q4
  go_enter Try.func12, Try.ntmps12
  go_wp2_with fail
  refine CN.out.mono ?_
  rintro e w1 ⟨rfl, ⟨L, d1⟩, b1⟩
  have D1 := hid (show DkL w1 (w.heap.size + 1) w0 (Gr no (w.alloc (.cells #[.int .i64 2] 3)) w1) L from d1)
  have B1 := hid (B0.out.trans (b1.mono (by simp)))
  have S1 := hid b1.size
  clear d1 b1 CN B0
  go_wp2_with fail
  refine (CX.out _).mono ?_
  rintro e w2 ⟨rfl, b2⟩
  have D2 := hid (D1.out.below b2)
  have B2 := hid (B1.out.trans (b2.mono B1.out.size))
  clear b2 D1 B1
  go_wp2_with fail
  refine (CY.out _).mono ?_
  rintro e w3' ⟨rfl, b3⟩
  have D3 := hid (D2.out.below b3)
  have B3 := hid (B2.out.trans (b3.mono B2.out.size))
  clear b3 D2 B2
  have CW := hid (writeD D3.out QQ.out.1 0 1 x)
  rw [HH.out.1, HH.out.2.1] at CW
  unfold dp at CW
  have hF3 : Hid (∀ b, Gr no (w.alloc (.cells #[.int .i64 2] 3)) w1 b → w.heap.size ≤ b) := fun b hb => by
    rcases hb with hb | hb
    · exact absurd hb id
    · have := hb.1; simp at this; omega
  generalize Gr no (w.alloc (.cells #[.int .i64 2] 3)) w1 = F at *
  go_wp2_with fail
  refine CW.out.mono ?_
  rintro e w4 ⟨rfl, ⟨L4, d4⟩, k4, _⟩
  have B4 := hid (B3.out.trans (k4.below B3.out.size hF3.out))
  have F4 : Hid (∀ b, Gr F w3' w4 b → w.heap.size ≤ b) := fun b hb => by
    rcases hb with hb | hb
    · exact hF3.out b hb
    · have := B3.out.size; omega
  have D4 := hid d4
  clear d4 k4 CW D3 B3 hF3
  have CW := hid (writeD D4.out QQ.out.2.1 0 1 y)
  rw [HH.out.2.2.1, HH.out.2.2.2.1] at CW
  unfold dp at CW
  generalize Gr F w3' w4 = F at *
  go_wp2_with fail
  refine CW.out.mono ?_
  rintro e w5 ⟨rfl, ⟨L5, d5⟩, k5, _⟩
  have B5 := hid (B4.out.trans (k5.below B4.out.size F4.out))
  have F5 : Hid (∀ b, Gr F w4 w5 b → w.heap.size ≤ b ∧ b < w5.heap.size) := fun b hb => ⟨by
    rcases hb with hb | hb
    · exact F4.out b hb
    · have := B4.out.size; omega, d5.lt b hb⟩
  have D5 := hid d5
  clear d5 k5 CW D4 B4 F4
  generalize Gr F w4 w5 = F at *
  have bA : Below w5.heap.size w5 (w5.alloc (.cells #[.int .u64 1] 49)) := (Below.refl _ _).alloc (Nat.le_refl _) _
  have CC := hid (crashD (D5.out.below bA) QQ.out.2.2.1 (K := [1]) (ao := some ⟨w5.heap.size, 0, none⟩) (.inr ⟨w5.heap.size, 0, _, _, _, rfl, heap_alloc_last w5 _, .inr rfl, fun j hj => by
    have : j = 0 := by simpa using hj
    subst this
    rfl⟩) (fun x hx => by simp at hx; omega) 1)
  have B5' := hid (B5.out.trans (bA.mono B5.out.size))
  unfold dp at CC
  clear bA
  go_wp2_with fail
  refine CC.out.mono ?_
  rintro e w6 ⟨rfl, ⟨L6, d6⟩, k6, _⟩
  have B6 := hid (B5'.out.trans (k6.below B5'.out.size (fun b hb => (F5.out b hb).1)))
  have D6 := hid (show DkL w6 (w.heap.size + 1) (w3 x y) _ L6 from d6)
  clear d6 k6 CC D5 B5 B5' F5
  have CR := hid (readD D6.out QQ.out.2.2.2 0 1)
  rw [HH.out.2.2.2.2.1, HH.out.2.2.2.2.2.1] at CR
  have CS := hid (sectorsD D6.out 0)
  rw [HH.out.2.2.2.2.2.2.1] at CS
  have CI := hid (imageD D6.out 0)
  have hI := HH.out.2.2.2.2.2.2.2
  unfold dp at CR CS CI
  generalize (w3 x y).image 0 = im at CI hI
  clear D6
  have hxx := same_list x x
  simp only [decide_true] at hxx
  go_wp2_with fail
  refine CR.out.mono ?_
  rintro e w7 ⟨rfl, rfl⟩
  go_wp2_with fail
  refine CS.out.mono ?_
  rintro e w7 ⟨rfl, rfl⟩
  go_wp2_with fail
  refine CI.out.mono ?_
  rintro e w7 ⟨rfl, rfl⟩
  go_wp2
  go_ret
  exact ⟨rfl, B6.out⟩

end Go.Proofs.Ytffhnkljmalbiaa.Wd
