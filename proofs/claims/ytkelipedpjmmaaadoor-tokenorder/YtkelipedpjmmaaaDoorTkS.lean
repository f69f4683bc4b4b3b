/-
  The walk of the law TokenBits: it returns true; nothing that was in memory has turned. Conditions: texts that fit a machine, numbers that fit their kinds; the table of the rounds' numbers holds what it was laid with.
-/
import Derived.Test.YtkelipedpjmmaaaDoorRows
import Derived.Test.YtkelipedpjmmaaaDoorTkR
import Derived.Test.YtkelipedpjmmaaaDoorTkZ
import Derived.WalkSpells
import Derived.Deep.QuietTactic
import Derived.BigQuiet
import Derived.WalkSmall
namespace Go.Proofs.YtkelipedpjmmaaaDoor.Wtk
open Go.ChangeShapes Go.WideShapes Go.ChangeAt Go.RowKit Go.Proofs.YtkelipedpjmmaaaDoor.M Go.Proofs.YtkelipedpjmmaaaDoor.Wf Go.Proofs.YtkelipedpjmmaaaDoor.Wr Go.Proofs.YtkelipedpjmmaaaDoor.Wh

theorem down256 (n : Int) : ∃ B : Nat, max 0 n % 256 = (B : Int) ∧ B < 256 := ⟨(max 0 n % 256).toNat, by omega, by omega⟩

/-- What a law holds while it asks: the claims, what is asked, a text's bytes. -/
def Kp (w : World) (a b c d : Int) (K : ByteArray) (now ep : Int) (g : Nat) (S : ByteArray) (W : World) : Prop := Cx w a b c d K now ep W ∧ By W g S ∧ w.heap.size + 1 < g
section
variable {w W W' : World} {a b c d : Int} {K : ByteArray} {now ep : Int} {g : Nat} {S : ByteArray}
theorem Kp.below (h : Kp w a b c d K now ep g S W) (k : Below W.heap.size W W') : Kp w a b c d K now ep g S W' := ⟨h.1.below k, h.2.1.below k, h.2.2⟩
theorem Kp.alloc (h : Kp w a b c d K now ep g S W) (o : Obj) : Kp w a b c d K now ep g S (W.alloc o) := h.below ((Below.refl _ _).alloc (Nat.le_refl _) _)
theorem Kp.drew (h : Kp w a b c d K now ep g S W) : Kp w a b c d K now ep g S W.drew := h.below (Below.refl _ _).drew
theorem Kp.put (h : Kp w a b c d K now ep g S W) {k : Nat} (hk : g < k) (x y z u : Value) : Kp w a b c d K now ep g S (put4 W k 0 x y z u) := by
  obtain ⟨⟨h1, h2, h3⟩, ⟨h4, h5⟩, h6⟩ := h
  refine ⟨⟨(put4_other (by omega)).trans h1, (put4_other (by omega)).trans h2, put4_below h3 (by omega) _ _ _ _⟩, ⟨by rw [put4_size]; exact h4, fun j hj => ?_⟩, h6⟩
  have e : (put4 W k 0 x y z u).heap[g]? = W.heap[g]? := put4_other (by omega)
  rw [← h5 j hj]
  simp only [World.cell?, e]
end
theorem extract_all (s : ByteArray) : s.extract 0 s.size = s := by
  apply ByteArray.ext
  rw [ByteArray.data_extract]
  exact Array.extract_eq_self_of_le (Nat.le_refl _)

set_option maxRecDepth 100000 in
set_option maxHeartbeats 4000000 in
theorem bits_ (a b c d : Int) (K : ByteArray) (now ep : Int) (bit : Int) (w : World) (_ : I6 a) (_ : I6 b) (hc : I6 c) (hd : I6 d) (hK : K.size ≤ 140737488351232) (_ : I6 now) (_ : I6 ep) (_ : -9223372036854775808 ≤ bit) (_ : bit < 9223372036854775808) (hT : Tab w) :
    Calls Tryd.prog 6 #[.agg #[.int .i64 a, .int .i64 b, .int .i64 c, .int .i64 d], .agg #[.string K, .int .i64 now, .int .i64 ep], .int .i64 bit] w fun e w' => e = .returned (.bool true) ∧ Below w.heap.size w w' := by
  obtain ⟨A, hA, hA1, hA2⟩ := down31 a
  obtain ⟨B, hB, hB1, hB2⟩ := down31 b
  obtain ⟨N, hN, hN1⟩ := down256 bit
  have hN2 : max 0 (N : Int) % 32 = ((N % 32 : Nat) : Int) := by omega
  have MT := hid (show Mt A B c d from ⟨⟨hA1, hA2⟩, ⟨hB1, hB2⟩, hc, hd⟩)
  have CM := hid (fun W h => mint_ K A B c d W (by omega) MT.out.a6 MT.out.b6 hc hd h)
  have hz := mint_size K A B c d
  have hz2 := cB_size MT.out.a6 MT.out.b6 hc hd
  have V1 : Hid (∀ q (v : UInt8), q < 32 → ¬ v.toNat = bn (mint K A B c d) ((cB A B c d).size + q) → ∀ W, Tab W → Calls Tryd.prog 11 #[.string K, .string (setB (mint K A B c d) ((cB A B c d).size + q) v), .int .i64 d, .int .i64 c] W fun e w' => e = .returned (.tuple #[.agg #[.int .i64 0, .int .i64 0, .int .i64 0, .int .i64 0], .int .i64 20]) ∧ Below W.heap.size W w') := fun q v hq hv W h => by
    have h2 := verify K (setB (mint K A B c d) ((cB A B c d).size + q) v) d c W (by omega) (by rw [setB_size]; omega) h
    have e0 := vf_turned (K := K) MT.out (now := d) (ep := c) hq hv
    have n0 := vf_none (K := K) (s := setB (mint K A B c d) ((cB A B c d).size + q) v) (now := d) (ep := c) (by rw [e0]; decide)
    rw [e0, n0, n0, n0, n0] at h2
    exact h2
  have V2 : Hid (∀ s : ByteArray, s.size < 32 → ∀ W, Tab W → Calls Tryd.prog 11 #[.string K, .string s, .int .i64 d, .int .i64 c] W fun e w' => e = .returned (.tuple #[.agg #[.int .i64 0, .int .i64 0, .int .i64 0, .int .i64 0], .int .i64 3]) ∧ Below W.heap.size W w') := fun s hs W h => by
    have h2 := verify K s d c W (by omega) (by omega) h
    have e0 := vf_short (K := K) (now := d) (ep := c) hs
    have n0 := vf_none (K := K) (s := s) (now := d) (ep := c) (by rw [e0]; decide)
    rw [e0, n0, n0, n0, n0] at h2
    exact h2
  have HT := hid hT
  have X0 := hid (cx_start w A B c d K now ep)
  have T0 := hid (HT.out.below X0.out.2.2 HT.out.pos)
  have TB : Hid (∀ W, Cx w A B c d K now ep W → Tab W) := fun W h => HT.out.below h.2.2 HT.out.pos
  generalize (cB A B c d).size = P at *
  generalize mint K A B c d = M at *
  have hm1 : (M.size : Int) - 32 = (P : Int) := by omega
  have hm2 : ¬ (M.size : Int) < 32 := by omega
  have HZ := hid hz
  clear hz
  clear hT MT
  go_enter Tryd.func6, Tryd.ntmps6
  go_wp2_with fail
  refine (CM.out _ T0.out).mono ?_
  rintro e w1 ⟨rfl, b1⟩
  have X1 := hid (X0.out.below b1)
  obtain ⟨capb, u, hcv, hcap, hby, hfz, b2⟩ := bytes_of M w1
  have X2 := hid (X1.out.below b2)
  have HB := hid hby
  have HF := hid hfz
  clear X0 T0 b1 CM hby hfz
  go_wp2_with fail
  refine (wakes _ (TB.out _ X2.out)).mono ?_
  rintro e w3 ⟨rfl, b3⟩
  have X3 := hid (X2.out.below b3)
  have HB3 := hid (HB.out.below b3)
  have HF3 := hid (fun j hj => (b3.frozen (p := ⟨w1.heap.size, j, none⟩) HB.out.1).trans (HF.out j hj))
  obtain ⟨⟨x0, x1, x2, x3⟩, ⟨y0, y1, y2⟩, xl⟩ := X3.out.cells
  have hw1 : w.heap.size + 1 < w1.heap.size := by have := lt_of_heap X1.out.2.1; omega
  clear b3 X2 HB HF hcv b2 X1
  obtain ⟨q, hq⟩ := Int.eq_ofNat_of_zero_le (show 0 ≤ (N : Int) / 8 by omega)
  obtain ⟨u, hu⟩ := Int.eq_ofNat_of_zero_le (show 0 ≤ (N : Int) % 8 by omega)
  have hq32 : q < 32 := by omega
  have hu8 : u < 8 := by omega
  have hpz : P + q < M.size := by have := HZ.out; omega
  have hx := bn_lt M (P + q)
  have hc1 := HB3.out.2 (P + q) hpz
  have hf1 := HF3.out (P + q) hpz
  have V1q := hid (V1.out q)
  clear V1 HF3
  generalize hpos : P + q = p at *
  have hp1 : (P : Int) + (q : Int) = (p : Int) := by omega
  clear hpos
  generalize hxx : bn M p = x at *
  have HXX := hid hxx
  clear hxx
  go_wp2_with fail
  rw [hN]
  go_region
  have hval := flip_val hx hu8
  rw [hval]
  obtain ⟨v, hv⟩ : ∃ v, v = UInt8.ofNat (x ^^^ 2 ^ u) := ⟨_, rfl⟩
  rw [← hv]
  have hvn : v.toNat = x ^^^ 2 ^ u := by rw [hv]; exact flip_byte hx hu8
  have C1 := hid (V1q.out v hq32 (by rw [hvn]; exact flip_ne x u))
  have By4 := hid ((HB3.out.set v hpz).drew)
  have X4 := hid (show Cx w A B c d K now ep (w3.setCell ⟨w1.heap.size, p, none⟩ (.int .u8 (v.toNat : Int))).drew from
    ⟨(Below.heap_setCell _ _ _ _ (by show w.heap.size ≠ w1.heap.size; omega)).trans X3.out.1, (Below.heap_setCell _ _ _ _ (by show w.heap.size + 1 ≠ w1.heap.size; omega)).trans X3.out.2.1, (X3.out.2.2.setCell (p := ⟨w1.heap.size, p, none⟩) (by show w.heap.size ≤ w1.heap.size; omega) _).drew⟩)
  clear hval hv hvn V1q HB3 X3 hc1 hf1 x0 x1 x2 x3 y0 y1 y2 xl hx HXX
  generalize (w3.setCell ⟨w1.heap.size, p, none⟩ (.int .u8 (v.toNat : Int))).drew = W4 at *
  have hsz := setB_size M p v
  have hcv := By4.out.text M.size capb (by rw [setB_size]; exact Nat.le_refl _)
  have hex : (setB M p v).extract 0 M.size = setB M p v := by rw [← hsz]; exact extract_all _
  rw [hex] at hcv
  clear hex
  generalize setB M p v = S at *
  obtain ⟨⟨x0, x1, x2, x3⟩, ⟨y0, y1, y2⟩, xl⟩ := X4.out.cells
  go_wp2_with fail
  refine (C1.out _ (TB.out _ X4.out)).mono ?_
  rintro e w5 ⟨rfl, b5⟩
  clear x0 x1 x2 x3 y0 y1 y2 xl hcv
  have X5 := hid (X4.out.below b5)
  have By5 := hid (By4.out.below b5)
  have hr : N % 32 ≤ S.size := by have := HZ.out; omega
  have hrs : (S.extract 0 (N % 32)).size < 32 := by simp; omega
  have C2 := hid (V2.out _ hrs)
  have hrn : ((N % 32 : Nat) : Int) ≤ (capb : Int) := by omega
  have hr3 : (max 0 (N : Int)).tmod 32 = ((N % 32 : Nat) : Int) := by rw [Int.tmod_eq_emod_of_nonneg (by omega)]; exact hN2
  have hr4 : (N : Int) % 32 = ((N % 32 : Nat) : Int) := by omega
  have hr6 : (N : Int).tmod 32 = ((N % 32 : Nat) : Int) := by rw [Int.tmod_eq_emod_of_nonneg (by omega)]; exact hr4
  have hr7 : max 0 (N : Int) = (N : Int) := by omega
  have hr5 : (0 : Int) ≤ ((N % 32 : Nat) : Int) := by omega
  generalize hR : N % 32 = r at *
  have TX := hid (fun (W : World) (h : By W w1.heap.size S) => h.text r capb hr)
  generalize S.extract 0 r = Y at *
  obtain ⟨X, hX⟩ : ∃ X, X = w5.alloc (.cells #[.int .i64 0, .int .i64 0, .int .i64 0, .int .i64 0] 23) := ⟨_, rfl⟩
  have Q0 := hid (show Kp w A B c d K now ep w1.heap.size S X from by rw [hX]; exact Kp.alloc ⟨X5.out, By5.out, hw1⟩ _)
  have P0 := hid Q0.out.drew
  have KA : Hid (∀ w', Kp w A B c d K now ep w1.heap.size S w' → (w'.cell? ⟨w.heap.size + 1, 0, none⟩ = some (.string K) ∧ w'.cell? ⟨w.heap.size, 3, none⟩ = some (.int .i64 d) ∧ w'.cell? ⟨w.heap.size, 2, none⟩ = some (.int .i64 c) ∧ (convert 42 9 (.slice (some ⟨w1.heap.size, 0, none⟩) r capb)).run Tryd.prog w' = .ok (.string Y) w' ∧ Hid (Kp w A B c d K now ep w1.heap.size S w'))) := fun w' h => ⟨h.1.cells.2.1.1, h.1.cells.1.2.2.2, h.1.cells.1.2.2.1, TX.out _ h.2.1, h⟩
  have CC : Hid (∀ W, Kp w A B c d K now ep w1.heap.size S W → Calls Tryd.prog 11 #[.string K, .string Y, .int .i64 d, .int .i64 c] W fun e w' => e = .returned (.tuple #[.agg #[.int .i64 0, .int .i64 0, .int .i64 0, .int .i64 0], .int .i64 3]) ∧ Hid (Kp w A B c d K now ep w1.heap.size S w') ∧ Hid (Below W.heap.size W w')) := fun W h =>
    (C2.out W (TB.out _ h.1)).mono fun e w' ⟨h1, h2⟩ => ⟨h1, h.below h2, h2⟩
  have hgX : w1.heap.size < X.heap.size := Q0.out.2.1.1
  have xl : w.heap.size + 1 < X.heap.size := Q0.out.1.cells.2.2
  clear X4 By4 b5 C1 V2 hR X5 By5 C2 TX
  go_wp2_with fail
  rw [← hX]
  clear hX
  go_region_held3 (fun w' => w'.cell? ⟨w.heap.size + 1, 0, none⟩ = some (.string K) ∧ w'.cell? ⟨w.heap.size, 3, none⟩ = some (.int .i64 d) ∧ w'.cell? ⟨w.heap.size, 2, none⟩ = some (.int .i64 c) ∧ (convert 42 9 (.slice (some ⟨w1.heap.size, 0, none⟩) r capb)).run Tryd.prog w' = .ok (.string Y) w' ∧ Hid (Kp w A B c d K now ep w1.heap.size S w'))
    ((refine KA.out _ ?_; first | with_reducible exact P0.out | with_reducible exact Q0.out | with_reducible exact P1.out | with_reducible exact Kp.alloc P0.out _ | with_reducible exact Kp.alloc P1.out _ | with_reducible exact Kp.drew (Kp.alloc Q0.out _) | exact Kp.put P1.out hgX _ _ _ _))
    (first | (go_at_call 11; have hH := ‹_ ∧ _ ∧ _ ∧ _ ∧ Hid (Kp w A B c d K now ep w1.heap.size S _)›; have hI : Hid (Kp w A B c d K now ep w1.heap.size S X.drew) := (by with_reducible exact hH.2.2.2.2); refine (CC.out _ hI.out).mono ?_; clear hH hI; rintro e w6 ⟨rfl, P1, b7⟩) | (go_at_call 11; have hH := ‹_ ∧ _ ∧ _ ∧ _ ∧ Hid (Kp w A B c d K now ep w1.heap.size S _)›; refine (CC.out _ hH.2.2.2.2.out).mono ?_; clear hH; rintro e w6 ⟨rfl, P1, b7⟩; have q0 : w6.heap[X.heap.size]? = some (.cells #[.int .i64 0, .int .i64 0, .int .i64 0, .int .i64 0] 23 (0, 0)) := (b7.out.block X.heap.size (show X.heap.size < (X.alloc (.cells #[.int .i64 0, .int .i64 0, .int .i64 0, .int .i64 0] 23)).heap.size from by rw [World.size_alloc]; exact Nat.lt_succ_self X.heap.size)).trans (heap_alloc_new X _); obtain ⟨z0, z1, z2, z3⟩ := four_c q0; have zf := frozen_there q0; have zl := lt_of_heap q0; clear q0))
  all_goals
    clear KA CC P0 Q0
    go_wp2_with fail
    go_ret
    first | exact ⟨rfl, P1.out.1.2.2.alloc P1.out.1.2.2.size _⟩ | exact ⟨rfl, (Kp.put P1.out hgX _ _ _ _).1.2.2⟩

end Go.Proofs.YtkelipedpjmmaaaDoor.Wtk
