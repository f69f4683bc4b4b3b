/-
  The walks of sha's helpers: a word turned to the right, the four sums of turned words, choose, majority, one round: each returns what 'rr', 'sg0', 'sg1', 'bs0', 'bs1', 'chs', 'maj', 'rnd' say. Conditions: each number fits 32 bits.
-/
import Derived.Test.YtkelipedpjmmaaaDoorRows
import Derived.Test.YtkelipedpjmmaaaDoorRot
import Derived.Test.YtkelipedpjmmaaaDoorSPad
import Derived.WalkKit
import Derived.ProofKit
import Derived.OpenShut
import Derived.BigQuiet
namespace Go.Proofs.YtkelipedpjmmaaaDoor.Wh
open Go.ChangeShapes Go.WideShapes Go.ChangeAt Go.RowKit Go.Proofs.YtkelipedpjmmaaaDoor.M

set_option maxRecDepth 100000 in
theorem turn (x n : Nat) (w : World) (h : x < 4294967296) (hn : n < 32) (h0 : 0 < n) :
    Calls Tryd.prog 100 #[.int .u32 (x : Int), .int .i64 (n : Int)] w fun e w' => e = .returned (.int .u32 ((rr x n : Nat) : Int)) ∧ w = w' := by
  have e1 : (rotN (x : Int) (bOf (-(n : Int))) : Int) = ((rr x n : Nat) : Int) := by rw [bOf_neg n hn h0, rr_rot h n (by omega) h0]
  have e2 : IntKind.i64.wrap (-(n : Int)) = -(n : Int) := by
    rw [IntKind.wrap_i64]
    omega
  have E1 : Hid _ := e1
  clear e1
  go_enter Tryd.func100, Tryd.ntmps100
  go_wp2_with fail
  refine (Wr.rotate _ _ _ ?_ ?_).mono ?_
  · omega
  · omega
  rintro e w' ⟨rfl, rfl⟩
  rw [E1.out]
  go_wp2
  go_ret
  exact ⟨rfl, rfl⟩

set_option maxRecDepth 100000 in
theorem sigma0 (x : Nat) (w : World) (h : x < 4294967296) :
    Calls Tryd.prog 90 #[.int .u32 (x : Int)] w fun e w' => e = .returned (.int .u32 ((sg0 x : Nat) : Int)) ∧ w = w' := by
  have C1 : Hid _ := fun w => turn x 7 w h (by decide) (by decide)
  have C2 : Hid _ := fun w => turn x 18 w h (by decide) (by decide)
  have b1 := rr_lt h 7 (by decide) (by decide)
  have b2 := rr_lt h 18 (by decide) (by decide)
  have es : sg0 x = rr x 7 ^^^ rr x 18 ^^^ x / 8 := rfl
  generalize rr x 7 = y at C1 b1 es
  generalize rr x 18 = z at C2 b2 es
  have x1 := u32_xor_nat y z b1 b2
  have x2 := u32_xor_nat (y ^^^ z) (x / 8) (xor_lt b1 b2) (by omega)
  rw [← es] at x2
  generalize y ^^^ z = yz at x1 x2
  have ed : (x : Int) / 8 = ((x / 8 : Nat) : Int) := by omega
  generalize x / 8 = x8 at ed x2
  generalize sg0 x = R at x2
  clear es
  go_enter Tryd.func90, Tryd.ntmps90
  go_wp2_with fail
  refine (C1.out _).mono ?_
  rintro e w' ⟨rfl, rfl⟩
  go_wp2_with fail
  refine (C2.out _).mono ?_
  rintro e w' ⟨rfl, rfl⟩
  go_wp2
  go_ret
  exact ⟨rfl, rfl⟩

set_option maxRecDepth 100000 in
theorem sigma1 (x : Nat) (w : World) (h : x < 4294967296) :
    Calls Tryd.prog 89 #[.int .u32 (x : Int)] w fun e w' => e = .returned (.int .u32 ((sg1 x : Nat) : Int)) ∧ w = w' := by
  have C1 : Hid _ := fun w => turn x 17 w h (by decide) (by decide)
  have C2 : Hid _ := fun w => turn x 19 w h (by decide) (by decide)
  have b1 := rr_lt h 17 (by decide) (by decide)
  have b2 := rr_lt h 19 (by decide) (by decide)
  have es : sg1 x = rr x 17 ^^^ rr x 19 ^^^ x / 1024 := rfl
  generalize rr x 17 = y at C1 b1 es
  generalize rr x 19 = z at C2 b2 es
  have x1 := u32_xor_nat y z b1 b2
  have x2 := u32_xor_nat (y ^^^ z) (x / 1024) (xor_lt b1 b2) (by omega)
  rw [← es] at x2
  generalize y ^^^ z = yz at x1 x2
  have ed : (x : Int) / 1024 = ((x / 1024 : Nat) : Int) := by omega
  generalize x / 1024 = x8 at ed x2
  generalize sg1 x = R at x2
  clear es
  go_enter Tryd.func89, Tryd.ntmps89
  go_wp2_with fail
  refine (C1.out _).mono ?_
  rintro e w' ⟨rfl, rfl⟩
  go_wp2_with fail
  refine (C2.out _).mono ?_
  rintro e w' ⟨rfl, rfl⟩
  go_wp2
  go_ret
  exact ⟨rfl, rfl⟩

set_option maxRecDepth 100000 in
theorem big0 (x : Nat) (w : World) (h : x < 4294967296) :
    Calls Tryd.prog 93 #[.int .u32 (x : Int)] w fun e w' => e = .returned (.int .u32 ((bs0 x : Nat) : Int)) ∧ w = w' := by
  have C1 : Hid _ := fun w => turn x 2 w h (by decide) (by decide)
  have C2 : Hid _ := fun w => turn x 13 w h (by decide) (by decide)
  have C3 : Hid _ := fun w => turn x 22 w h (by decide) (by decide)
  have b1 := rr_lt h 2 (by decide) (by decide)
  have b2 := rr_lt h 13 (by decide) (by decide)
  have b3 := rr_lt h 22 (by decide) (by decide)
  have es : bs0 x = rr x 2 ^^^ rr x 13 ^^^ rr x 22 := rfl
  generalize rr x 2 = y at C1 b1 es
  generalize rr x 13 = z at C2 b2 es
  generalize rr x 22 = v at C3 b3 es
  have x1 := u32_xor_nat y z b1 b2
  have x2 := u32_xor_nat (y ^^^ z) v (xor_lt b1 b2) b3
  rw [← es] at x2
  generalize y ^^^ z = yz at x1 x2
  generalize bs0 x = R at x2
  clear es
  go_enter Tryd.func93, Tryd.ntmps93
  go_wp2_with fail
  refine (C1.out _).mono ?_
  rintro e w' ⟨rfl, rfl⟩
  go_wp2_with fail
  refine (C2.out _).mono ?_
  rintro e w' ⟨rfl, rfl⟩
  go_wp2_with fail
  refine (C3.out _).mono ?_
  rintro e w' ⟨rfl, rfl⟩
  go_wp2
  go_ret
  exact ⟨rfl, rfl⟩

set_option maxRecDepth 100000 in
theorem big1 (x : Nat) (w : World) (h : x < 4294967296) :
    Calls Tryd.prog 91 #[.int .u32 (x : Int)] w fun e w' => e = .returned (.int .u32 ((bs1 x : Nat) : Int)) ∧ w = w' := by
  have C1 : Hid _ := fun w => turn x 6 w h (by decide) (by decide)
  have C2 : Hid _ := fun w => turn x 11 w h (by decide) (by decide)
  have C3 : Hid _ := fun w => turn x 25 w h (by decide) (by decide)
  have b1 := rr_lt h 6 (by decide) (by decide)
  have b2 := rr_lt h 11 (by decide) (by decide)
  have b3 := rr_lt h 25 (by decide) (by decide)
  have es : bs1 x = rr x 6 ^^^ rr x 11 ^^^ rr x 25 := rfl
  generalize rr x 6 = y at C1 b1 es
  generalize rr x 11 = z at C2 b2 es
  generalize rr x 25 = v at C3 b3 es
  have x1 := u32_xor_nat y z b1 b2
  have x2 := u32_xor_nat (y ^^^ z) v (xor_lt b1 b2) b3
  rw [← es] at x2
  generalize y ^^^ z = yz at x1 x2
  generalize bs1 x = R at x2
  clear es
  go_enter Tryd.func91, Tryd.ntmps91
  go_wp2_with fail
  refine (C1.out _).mono ?_
  rintro e w' ⟨rfl, rfl⟩
  go_wp2_with fail
  refine (C2.out _).mono ?_
  rintro e w' ⟨rfl, rfl⟩
  go_wp2_with fail
  refine (C3.out _).mono ?_
  rintro e w' ⟨rfl, rfl⟩
  go_wp2
  go_ret
  exact ⟨rfl, rfl⟩

theorem not_word (x : Nat) (h : x < 4294967296) : bits .xor .u32 IntKind.u32.max (x : Int) = ((4294967295 - x : Nat) : Int) := by
  have e0 : IntKind.u32.max = ((4294967295 : Nat) : Int) := by decide
  rw [e0, u32_xor_nat _ _ (by decide) h]
  refine congrArg Nat.cast ?_
  have := Nat.xor_mod_two_pow (a := 4294967295) (b := x) (n := 32)
  apply Nat.eq_of_testBit_eq
  intro j
  rw [Nat.testBit_xor, show (4294967295 : Nat) - x = 2 ^ 32 - (x + 1) by omega, Nat.testBit_two_pow_sub_succ h, show (4294967295 : Nat) = 2 ^ 32 - 1 by decide, Nat.testBit_two_pow_sub_one]
  by_cases c : j < 32
  · simp [c]
  · have z : x.testBit j = false := Nat.testBit_lt_two_pow (Nat.lt_of_lt_of_le h (by have := Nat.pow_le_pow_right (n := 2) (by decide) (show 32 ≤ j by omega); simpa using this))
    simp [c, z]

set_option maxRecDepth 100000 in
theorem choose (x y z : Nat) (w : World) (hx : x < 4294967296) (hy : y < 4294967296) (hz : z < 4294967296) :
    Calls Tryd.prog 92 #[.int .u32 (x : Int), .int .u32 (y : Int), .int .u32 (z : Int)] w fun e w' => e = .returned (.int .u32 ((chs x y z : Nat) : Int)) ∧ w = w' := by
  have n1 := not_word x hx
  have n2 : (4294967295 - x : Nat) < 4294967296 := by omega
  have x1 := u32_and_nat x y hx hy
  have x2 := u32_and_nat (4294967295 - x) z n2 hz
  have x3 := u32_xor_nat (x &&& y) ((4294967295 - x) &&& z) (and_lt hy) (and_lt hz)
  have es : chs x y z = (x &&& y) ^^^ ((4294967295 - x) &&& z) := rfl
  rw [← es] at x3
  generalize chs x y z = R at x3
  clear es
  generalize x &&& y = A at x1 x3
  generalize (4294967295 - x) &&& z = B at x2 x3
  generalize (4294967295 - x : Nat) = N at n1 n2 x2
  go_enter Tryd.func92, Tryd.ntmps92
  go_wp2
  go_ret
  exact ⟨rfl, rfl⟩

set_option maxRecDepth 100000 in
theorem majority (x y z : Nat) (w : World) (hx : x < 4294967296) (hy : y < 4294967296) (hz : z < 4294967296) :
    Calls Tryd.prog 94 #[.int .u32 (x : Int), .int .u32 (y : Int), .int .u32 (z : Int)] w fun e w' => e = .returned (.int .u32 ((maj x y z : Nat) : Int)) ∧ w = w' := by
  have x1 := u32_and_nat x y hx hy
  have x2 := u32_and_nat x z hx hz
  have x3 := u32_and_nat y z hy hz
  have x4 := u32_xor_nat (x &&& y) (x &&& z) (and_lt hy) (and_lt hz)
  have x5 := u32_xor_nat ((x &&& y) ^^^ (x &&& z)) (y &&& z) (xor_lt (and_lt hy) (and_lt hz)) (and_lt hz)
  have es : maj x y z = (x &&& y) ^^^ (x &&& z) ^^^ (y &&& z) := rfl
  rw [← es] at x5
  generalize maj x y z = R at x5
  clear es
  generalize (x &&& y) ^^^ (x &&& z) = D at x4 x5
  generalize x &&& y = A at x1 x4
  generalize x &&& z = B at x2 x4
  generalize y &&& z = C at x3 x5
  go_enter Tryd.func94, Tryd.ntmps94
  go_wp2
  go_ret
  exact ⟨rfl, rfl⟩

theorem row8 {w : World} {p t : Nat} {x0 x1 x2 x3 x4 x5 x6 x7 : Value} (h : w.heap[p]? = some (.cells #[x0, x1, x2, x3, x4, x5, x6, x7] t (0, 0))) (v0 v1 v2 v3 v4 v5 v6 v7 : Value) :
    ((((((((w.setCell ⟨p, 0, none⟩ v0).setCell ⟨p, 1, none⟩ v1).setCell ⟨p, 2, none⟩ v2).setCell ⟨p, 3, none⟩ v3).setCell ⟨p, 4, none⟩ v4).setCell ⟨p, 5, none⟩ v5).setCell ⟨p, 6, none⟩ v6).setCell ⟨p, 7, none⟩ v7).heap[p]? = some (.cells #[v0, v1, v2, v3, v4, v5, v6, v7] t (0, 0)) := by
  have h0 := heap_setCell_same w p 0 _ t v0 h
  have h1 := heap_setCell_same _ p 1 _ t v1 h0
  have h2 := heap_setCell_same _ p 2 _ t v2 h1
  have h3 := heap_setCell_same _ p 3 _ t v3 h2
  have h4 := heap_setCell_same _ p 4 _ t v4 h3
  have h5 := heap_setCell_same _ p 5 _ t v5 h4
  have h6 := heap_setCell_same _ p 6 _ t v6 h5
  have h7 := heap_setCell_same _ p 7 _ t v7 h6
  simpa using h7

theorem wrap_ad (x y : Nat) : IntKind.u32.wrap ((x : Int) + (y : Int)) = ((ad x y : Nat) : Int) := by
  rw [IntKind.wrap_u32']
  unfold ad
  omega

set_option maxRecDepth 100000 in
set_option maxHeartbeats 1000000 in
theorem roundAt (a b c d e f g h k v S1 S0 CH MA t1 t2 t3 t4 u r q : Nat) (w : World)
    (C1 : Hid (∀ w, Calls Tryd.prog 91 #[.int .u32 (e : Int)] w fun x w' => x = .returned (.int .u32 (S1 : Int)) ∧ w = w'))
    (C2 : Hid (∀ w, Calls Tryd.prog 92 #[.int .u32 (e : Int), .int .u32 (f : Int), .int .u32 (g : Int)] w fun x w' => x = .returned (.int .u32 (CH : Int)) ∧ w = w'))
    (C3 : Hid (∀ w, Calls Tryd.prog 93 #[.int .u32 (a : Int)] w fun x w' => x = .returned (.int .u32 (S0 : Int)) ∧ w = w'))
    (C4 : Hid (∀ w, Calls Tryd.prog 94 #[.int .u32 (a : Int), .int .u32 (b : Int), .int .u32 (c : Int)] w fun x w' => x = .returned (.int .u32 (MA : Int)) ∧ w = w'))
    (e1 : IntKind.u32.wrap ((h : Int) + (S1 : Int)) = (t1 : Int)) (e2 : IntKind.u32.wrap ((t1 : Int) + (CH : Int)) = (t2 : Int)) (e3 : IntKind.u32.wrap ((t2 : Int) + (k : Int)) = (t3 : Int)) (e4 : IntKind.u32.wrap ((t3 : Int) + (v : Int)) = (t4 : Int))
    (e5 : IntKind.u32.wrap ((S0 : Int) + (MA : Int)) = (u : Int)) (e6 : IntKind.u32.wrap ((t4 : Int) + (u : Int)) = (r : Int)) (e7 : IntKind.u32.wrap ((d : Int) + (t4 : Int)) = (q : Int)) :
    Calls Tryd.prog 77 #[.agg #[.int .u32 (a : Int), .int .u32 (b : Int), .int .u32 (c : Int), .int .u32 (d : Int), .int .u32 (e : Int), .int .u32 (f : Int), .int .u32 (g : Int), .int .u32 (h : Int)], .int .u32 (k : Int), .int .u32 (v : Int)] w
      fun x w' => x = .returned (.agg #[.int .u32 (r : Int), .int .u32 (a : Int), .int .u32 (b : Int), .int .u32 (c : Int), .int .u32 (q : Int), .int .u32 (e : Int), .int .u32 (f : Int), .int .u32 (g : Int)]) ∧ Below w.heap.size w w' := by
  go_enter Tryd.func77, Tryd.ntmps77
  go_wp2
  go_quiet (fail)
  go_wp2_with fail
  refine (C1.out _).mono ?_
  rintro x w' ⟨rfl, rfl⟩
  go_wp2_with fail
  refine (C2.out _).mono ?_
  rintro x w' ⟨rfl, rfl⟩
  go_wp2_with fail
  refine (C3.out _).mono ?_
  rintro x w' ⟨rfl, rfl⟩
  go_wp2_with fail
  refine (C4.out _).mono ?_
  rintro x w' ⟨rfl, rfl⟩
  go_wp2
  have h0 : (((w.alloc (.cells #[.int .u32 (a : Int), .int .u32 (b : Int), .int .u32 (c : Int), .int .u32 (d : Int), .int .u32 (e : Int), .int .u32 (f : Int), .int .u32 (g : Int), .int .u32 (h : Int)] 94)).alloc (.cells #[.int .u32 0, .int .u32 0, .int .u32 0, .int .u32 0, .int .u32 0, .int .u32 0, .int .u32 0, .int .u32 0] 94)).drewN nq).heap[w.heap.size + 1]? = some (.cells #[.int .u32 0, .int .u32 0, .int .u32 0, .int .u32 0, .int .u32 0, .int .u32 0, .int .u32 0, .int .u32 0] 94 (0, 0)) := heap_alloc2_new w _ _
  refine bodyPost_ret (v := .agg #[.int .u32 (r : Int), .int .u32 (a : Int), .int .u32 (b : Int), .int .u32 (c : Int), .int .u32 (q : Int), .int .u32 (e : Int), .int .u32 (f : Int), .int .u32 (g : Int)]) (results_cell_row Tryd.results77 _ _ (w.heap.size + 1) 94 _ (0, 0) _ rfl (row8 h0 _ _ _ _ _ _ _ _) Tryd.underlying94 rfl info8s) rfl ⟨rfl, ?_⟩
  have B0 : Below w.heap.size w (((w.alloc (.cells #[.int .u32 (a : Int), .int .u32 (b : Int), .int .u32 (c : Int), .int .u32 (d : Int), .int .u32 (e : Int), .int .u32 (f : Int), .int .u32 (g : Int), .int .u32 (h : Int)] 94)).alloc (.cells #[.int .u32 0, .int .u32 0, .int .u32 0, .int .u32 0, .int .u32 0, .int .u32 0, .int .u32 0, .int .u32 0] 94)).drewN nq) :=
    (((Below.refl _ _).alloc (Nat.le_refl _) _).alloc (by simp) _).trans ⟨rfl, rfl, rfl, Nat.le_refl _, fun _ _ => rfl⟩
  exact (((((((B0.setCell (p := ⟨_, _, none⟩) (by simp) _).setCell (p := ⟨_, _, none⟩) (by simp) _).setCell (p := ⟨_, _, none⟩) (by simp) _).setCell (p := ⟨_, _, none⟩) (by simp) _).setCell (p := ⟨_, _, none⟩) (by simp) _).setCell (p := ⟨_, _, none⟩) (by simp) _).setCell (p := ⟨_, _, none⟩) (by simp) _).setCell (p := ⟨_, _, none⟩) (by simp) _

theorem round (s : List Nat) (k v : Nat) (w : World) (hl : s.length = 8) (hW : W32 s) :
    Calls Tryd.prog 77 #[.agg (c32 s), .int .u32 (k : Int), .int .u32 (v : Int)] w fun x w' => x = .returned (.agg (c32 (rnd s k v))) ∧ Below w.heap.size w w' := by
  obtain ⟨a, b, c, d, e, f, g, h, rfl⟩ := eight hl
  obtain ⟨h0, h1, h2, h3, h4, h5, h6, h7⟩ := W32_eight.1 hW
  exact roundAt a b c d e f g h k v _ _ _ _ _ _ _ _ _ _ _ w (fun w => big1 e w h4) (fun w => choose e f g w h4 h5 h6) (fun w => big0 a w h0) (fun w => majority a b c w h0 h1 h2)
    (wrap_ad _ _) (wrap_ad _ _) (wrap_ad _ _) (wrap_ad _ _) (wrap_ad _ _) (wrap_ad _ _) (wrap_ad _ _)

end Go.Proofs.YtkelipedpjmmaaaDoor.Wh
