/-
  The walks of the law's own wakes, and of the law WordsBack: numbers of any widths and texts, put one behind the other, are read back one behind the other; the law returns true, and nothing that was in memory has turned. Conditions: none but that the two slices lie in memory as slices do.
-/
import Derived.Test.YtbicbkimmblhgaaRows
import Derived.Test.YtbicbkimmblhgaaMathK
import Derived.Test.YtbicbkimmblhgaaFold
import Derived.Test.YtbicbkimmblhgaaRot
import Derived.Test.YtbicbkimmblhgaaNar
import Derived.Test.YtbicbkimmblhgaaText
import Derived.WalkKit
import Derived.ProofKit
import Derived.OpenShut
import Derived.WalkSpells
import Derived.Deep.QuietTactic
import Derived.BigQuiet
import Derived.WalkSmall
namespace Go.Proofs.Ytbicbkimmblhgaa.Wk2
open Go.ChangeShapes Go.WideShapes Go.ChangeAt Go.RowKit Go.Proofs.Ytbicbkimmblhgaa.M

theorem wakes (w : World) :
    Calls Try.prog 29 #[] w fun e w' => e = .returned (.bool true) ∧ Below w.heap.size w w' := by
  have e1 : beB (Wp.kOf 3) 258 = ⟨#[0, 1, 2]⟩ := by decide
  have e2 : foldI (-2) = 3 := by decide
  have e4 : (bitsN 180 2 3 : Int) = 5 := by decide
  have e5 : narI 200 (wOf 8) = -56 := by decide
  have C : Hid (∀ w, Calls Try.prog 19 #[.int .u32 1, .int .i64 (-1)] w fun e w' => e = .returned (.int .u32 2147483648) ∧ w = w') := fun w => by
    have e3 : (rotN 1 (bOf (-1)) : Int) = 2147483648 := by decide
    have C := Wr.rotate 1 (-1) w (by decide) (by decide)
    rw [e3] at C
    exact C
  go_enter Try.func29, Try.ntmps29
  go_wp2_with fail
  refine (Wp.putAny _ _ _ (by omega) (by omega)).mono ?_
  rintro e w1 ⟨rfl, b1⟩
  rw [e1]
  go_wp2_with fail
  refine (Wk.fold _ _ (by omega) (by omega)).mono ?_
  rintro e w2 ⟨rfl, rfl⟩
  rw [e2]
  go_wp2_with fail
  refine (C.out _).mono ?_
  rintro e w2 ⟨rfl, rfl⟩
  go_wp2_with fail
  refine (Wb.bits _ _ _ _ (by omega) (by omega) (by omega) (by omega)).mono ?_
  rintro e w2 ⟨rfl, rfl⟩
  rw [e4]
  go_wp2_with fail
  refine (Wn.narrow _ _ _).mono ?_
  rintro e w2 ⟨rfl, rfl⟩
  rw [e5]
  go_wp2
  go_ret
  exact ⟨rfl, b1⟩

/-- The width of the number at a place. -/
def wid (i : Nat) : Nat := 1 + i % 8
theorem wid_int (i : Nat) : 1 + (i : Int) % 8 = (wid i : Int) := by unfold wid; omega
theorem wid_range (i : Nat) : 1 ≤ wid i ∧ wid i ≤ 8 := by unfold wid; omega
theorem k_wid (i : Nat) : Wp.kOf (wid i : Int) = wid i := by have := wid_range i; unfold Wp.kOf; omega

/-- Pieces, one behind the other. -/
def acc (c : Nat → ByteArray) (p : ByteArray) : Nat → ByteArray
  | 0 => p
  | i + 1 => acc c p i ++ c i
theorem app_none (a : ByteArray) : a ++ ⟨#[]⟩ = a := by
  apply ByteArray.ext
  simp
theorem acc_pre (c : Nat → ByteArray) (p : ByteArray) (i : Nat) : ∀ d, ∃ r, acc c p (i + d) = acc c p i ++ r
  | 0 => ⟨⟨#[]⟩, (app_none _).symm⟩
  | d + 1 => by
    obtain ⟨r, hr⟩ := acc_pre c p i d
    refine ⟨r ++ c (i + d), ?_⟩
    show acc c p (i + d) ++ c (i + d) = _
    rw [hr, ByteArray.append_assoc]
theorem acc_at (c : Nat → ByteArray) (p : ByteArray) {i k : Nat} (h : i < k) : ∃ r, acc c p k = acc c p i ++ c i ++ r := by
  obtain ⟨r, hr⟩ := acc_pre c p (i + 1) (k - (i + 1))
  rw [show i + 1 + (k - (i + 1)) = k by omega] at hr
  exact ⟨r, hr⟩
theorem acc_size (c : Nat → ByteArray) (p : ByteArray) (z : Nat) (h : ∀ i, (c i).size ≤ z) : ∀ i, (acc c p i).size ≤ p.size + z * i
  | 0 => by simp [acc]
  | i + 1 => by
    have h1 := acc_size c p z h i
    have h2 := h i
    show (acc c p i ++ c i).size ≤ _
    rw [size_app, Nat.mul_succ]
    omega

/-- The numbers' bytes. -/
def nums (x : Nat → Int) : Nat → ByteArray := acc (fun i => beB (wid i) (x i)) ⟨#[]⟩
/-- How much of a text is taken. -/
def cut (y : ByteArray) : Nat := min y.size 1000
/-- What of a text is taken. -/
def piece (y : ByteArray) : ByteArray := y.extract 0 (cut y)
theorem cut_int (y : ByteArray) : (if 1000 < (y.size : Int) then 1000 else (y.size : Int)) = (cut y : Int) := by unfold cut; split <;> omega
theorem cut_min (y : ByteArray) : min (y.size : Int) 1000 = (cut y : Int) := by unfold cut; omega
theorem cut_le (y : ByteArray) : cut y ≤ y.size := by unfold cut; omega
theorem piece_size (y : ByteArray) : (piece y).size ≤ 1000 := by unfold piece cut; rw [ByteArray.size_extract]; omega
/-- The numbers' bytes, then the texts'. -/
def texts (x : Nat → Int) (y : Nat → ByteArray) (n : Nat) : Nat → ByteArray := acc (fun j => tB (piece (y j))) (nums x n)
theorem nums_size (x : Nat → Int) (i : Nat) : (nums x i).size ≤ 8 * i := by
  have h := acc_size (fun i => beB (wid i) (x i)) ⟨#[]⟩ 8 (fun i => by rw [beB_size]; exact (wid_range i).2) i
  have e : (⟨#[]⟩ : ByteArray).size = 0 := rfl
  rw [e] at h
  unfold nums
  omega
theorem tB_size (y : ByteArray) (h : y.size ≤ 65535) : (tB y).size = 2 + y.size := by rw [(t_ok (by omega)).2, size_app, beB_size]
theorem texts_size (x : Nat → Int) (y : Nat → ByteArray) (n j : Nat) : (texts x y n j).size ≤ 8 * n + 1002 * j := by
  have h := acc_size (fun j => tB (piece (y j))) (nums x n) 1002 (fun j => by have := piece_size (y j); rw [tB_size _ (by omega)]; omega) j
  have h2 := nums_size x n
  unfold texts
  omega
theorem nums_at (x : Nat → Int) (y : Nat → ByteArray) {n m i : Nat} (h : i < n) : ∃ r, texts x y n m = nums x i ++ beB (wid i) (x i) ++ r := by
  obtain ⟨r, hr⟩ := acc_at (fun i => beB (wid i) (x i)) ⟨#[]⟩ h
  obtain ⟨r2, hr2⟩ := acc_pre (fun j => tB (piece (y j))) (nums x n) 0 m
  rw [Nat.zero_add] at hr2
  have e : nums x n = nums x i ++ beB (wid i) (x i) ++ r := by unfold nums; exact hr
  have e2 : texts x y n m = nums x n ++ r2 := by unfold texts; rw [hr2]; rfl
  refine ⟨r ++ r2, ?_⟩
  rw [e2, e, ByteArray.append_assoc]
theorem texts_at (x : Nat → Int) (y : Nat → ByteArray) {n m j : Nat} (h : j < m) : ∃ r, texts x y n m = texts x y n j ++ tB (piece (y j)) ++ r :=
  acc_at (fun j => tB (piece (y j))) (nums x n) h

set_option maxHeartbeats 1600000 in
theorem backAt (an al : Option Addr) (ln cn ll cl N M : Nat) (x : Nat → Int) (y : Nat → ByteArray) (w : World) (hx0 : ∀ i, 0 ≤ x i) (hx1 : ∀ i, x i < 18446744073709551616) (hy : ∀ j, (y j).size ≤ maxLen)
    (hcn : ln ≤ cn) (hcl : ll ≤ cl) (hln : ln ≤ 9223372036854775807) (hll : ll ≤ 9223372036854775807)
    (eN : (if 30 < (ln : Int) then 30 else (ln : Int)) = (N : Int)) (eM : (if 30 < (ll : Int) then 30 else (ll : Int)) = (M : Int)) (hN : N ≤ 30) (hNl : N ≤ ln) (hM : M ≤ 30) (hMl : M ≤ ll)
    (Hn : ln ≤ 0 ∨ ∃ b off, an = some ⟨b, off, none⟩ ∧ b < w.heap.size ∧ ∀ i, i < ln → w.cell? ⟨b, off + i, none⟩ = some (.int .u64 (x i)))
    (Hl : ll ≤ 0 ∨ ∃ b off, al = some ⟨b, off, none⟩ ∧ b < w.heap.size ∧ ∀ j, j < ll → w.cell? ⟨b, off + j, none⟩ = some (.string (y j))) :
    Calls Try.prog 10 #[.slice an ln cn, .slice al ll cl] w fun e w' => e = .returned (.bool true) ∧ Below w.heap.size w w' := by
  have HN : Hid (ln ≤ 0 ∨ ∃ b off, an = some ⟨b, off, none⟩ ∧ b < w.heap.size ∧ ∀ i, i < ln → w.cell? ⟨b, off + i, none⟩ = some (.int .u64 (x i))) := Hn
  have HL : Hid (ll ≤ 0 ∨ ∃ b off, al = some ⟨b, off, none⟩ ∧ b < w.heap.size ∧ ∀ j, j < ll → w.cell? ⟨b, off + j, none⟩ = some (.string (y j))) := Hl
  clear Hn Hl
  have eN2 : min (ln : Int) 30 = (N : Int) := by rw [← eN]; split <;> omega
  have eM2 : min (ll : Int) 30 = (M : Int) := by rw [← eM]; split <;> omega
  go_enter Try.func10, Try.ntmps10
  go_wp2
  go_quiet (fail)
  go_wp2
  have hB0 : Below w.heap.size w (w.drewN nq) := below_drewN (Below.refl _ _) nq
  go_loopw [5, 35] (fun sv iv wr => ∃ i : Nat, i ≤ N ∧ iv = .int .i64 (i : Int) ∧ sv = .string (nums x i) ∧ Below w.heap.size w wr) (fun _ i _ => N - (intOf i).toNat)
  case atStart => exact ⟨0, Nat.zero_le _, rfl, rfl, hB0⟩
  case round =>
    obtain ⟨i, hi, rfl, rfl, hbel⟩ := hrel
    clear hB0
    by_cases hlt : i < N
    · rcases HN.out with h | ⟨b, off, han, hb, hc⟩
      · exfalso; omega
      · have hci : wr.cell? ⟨b, off + i, none⟩ = some (.int .u64 (x i)) := by rw [← hc i (by omega)]; exact hbel.cell (by exact hb)
        subst han
        have hw := wid_int i
        have hwr := wid_range i
        have hz1 := nums_size x i
        have hz2 := beB_size (wid i) (x i)
        have hk := k_wid i
        have g0 := hx0 i
        have g1 := hx1 i
        clear eN eM eN2 eM2 hc HL hx0 hx1 hy
        go_wp2_with (go_at_call 11; refine (Wp.putAny _ _ _ g0 g1).mono ?_; rintro e w1 ⟨rfl, b1⟩; rw [hk])
        go_roundw
        case rel => exact ⟨i + 1, by omega, by go_num, rfl, hbel.trans (b1.mono hbel.size)⟩
        case measure => simp [intOf] <;> omega
    · obtain rfl : i = N := by omega
      clear hlt hi
      go_wp2
      go_loopw [5, 50] (fun sv iv wr => ∃ j : Nat, j ≤ M ∧ iv = .int .i64 (j : Int) ∧ sv = .string (texts x y i j) ∧ Below w.heap.size w wr) (fun _ j _ => M - (intOf j).toNat)
      case atStart => exact ⟨0, Nat.zero_le _, rfl, rfl, hbel⟩
      case round =>
        clear hbel
        obtain ⟨j, hj, rfl, rfl, hbel⟩ := hrel
        by_cases hlt : j < M
        · rcases HL.out with h | ⟨b, off, hal, hb, hc⟩
          · exfalso; omega
          · have hcj : wr.cell? ⟨b, off + j, none⟩ = some (.string (y j)) := by rw [← hc j (by omega)]; exact hbel.cell (by exact hb)
            subst hal
            have hS : Hid (texts x y i (j + 1) = texts x y i j ++ tB (piece (y j))) := rfl
            have hz1 := texts_size x y i j
            have hp := piece_size (y j)
            have hz2 := tB_size (piece (y j)) (by omega)
            have ht := (t_ok (s := piece (y j)) (by omega)).1
            have hyj := hy j
            generalize y j = Y at hcj hS hp hz2 ht hyj
            have hcut := cut_int Y
            have hcut2 := cut_min Y
            have hcl2 := cut_le Y
            unfold maxLen at hyj
            clear eN eM eN2 eM2 hc HN hx0 hx1 hy
            go_wp2_with (go_at_call 25; refine (Wt.text (piece Y) _ (by unfold maxLen; omega)).mono ?_; rintro e w1 ⟨rfl, b1⟩; rw [ht])
            go_roundw
            case rel => exact ⟨j + 1, by omega, by go_num, by rw [hS.out], hbel.trans (b1.mono hbel.size)⟩
            case measure => simp [intOf] <;> omega
        · obtain rfl : j = M := by omega
          clear hlt hj
          have H1 : Hid (∀ k, k < i → ∃ r, texts x y i j = nums x k ++ beB (wid k) (x k) ++ r) := fun k hk => nums_at x y hk
          have H2 : Hid (∀ k, k < j → ∃ r, texts x y i j = texts x y i k ++ tB (piece (y k)) ++ r) := fun k hk => texts_at x y hk
          have hz := texts_size x y i j
          obtain ⟨S, hSe⟩ : ∃ S, texts x y i j = S := ⟨_, rfl⟩
          rw [hSe] at H1 H2 hz ⊢
          have HE : Hid (texts x y i j = S) := hSe
          clear hSe
          go_wp2
          go_loopw [12, 71] (fun av iv wr => ∃ k : Nat, k ≤ i ∧ iv = .int .i64 (k : Int) ∧ av = .int .i64 ((nums x k).size : Int) ∧ Below w.heap.size w wr) (fun _ k _ => i - (intOf k).toNat)
          case atStart => exact ⟨0, Nat.zero_le _, rfl, rfl, hbel⟩
          case round =>
            clear hbel
            obtain ⟨k, hk, rfl, rfl, hbel⟩ := hrel
            by_cases hlt : k < i
            · rcases HN.out with h | ⟨b, off, han, hb, hc⟩
              · exfalso; omega
              · have hck : wr.cell? ⟨b, off + k, none⟩ = some (.int .u64 (x k)) := by rw [← hc k (by omega)]; exact hbel.cell (by exact hb)
                subst han
                have hw := wid_int k
                have hwr := wid_range k
                have hz1 := nums_size x k
                have g0 := hx0 k
                have g1 := hx1 k
                have HB : Hid ((bitsN (x k) 0 (8 * (wid k : Int)) : Int) = x k % ((256 ^ wid k : Nat) : Int)) := bits_whole g0 hwr.2
                have HG : Hid (gE S ((nums x k).size : Int) (wid k : Int) = 0 ∧ gN S ((nums x k).size : Int) (wid k : Int) = x k % ((256 ^ wid k : Nat) : Int) ∧ gX S ((nums x k).size : Int) (wid k : Int) = ((nums x (k + 1)).size : Int)) := by
                  obtain ⟨r, hr⟩ := H1.out k hlt
                  rw [hr]
                  exact get_back g0 hwr.1 hwr.2
                generalize x k % ((256 ^ wid k : Nat) : Int) = V at HB HG
                clear eN eM eN2 eM2 hc HL hx0 hx1 hy H1 H2 HE
                go_wp2_with (first
                  | (go_at_call 13; refine (Wg.get _ _ _ _ (by unfold maxLen; omega) (by omega) (by omega)).mono ?_; rintro e w1 ⟨rfl, rfl⟩; rw [HG.out.1, HG.out.2.1, HG.out.2.2])
                  | (go_at_call 21; refine (Wb.bits _ _ _ _ g0 g1 (by omega) (by omega)).mono ?_; rintro e w1 ⟨rfl, rfl⟩; rw [HB.out]))
                go_roundw
                case rel => exact ⟨k + 1, by omega, by go_num, rfl, hbel⟩
                case measure => simp [intOf] <;> omega
            · obtain rfl : k = i := by omega
              clear hlt hk H1 HN
              go_wp2
              go_loopw [12, 102] (fun av iv wr => ∃ q : Nat, q ≤ j ∧ iv = .int .i64 (q : Int) ∧ av = .int .i64 ((texts x y k q).size : Int) ∧ Below w.heap.size w wr) (fun _ q _ => j - (intOf q).toNat)
              case atStart => exact ⟨0, Nat.zero_le _, rfl, rfl, hbel⟩
              case round =>
                clear hbel
                obtain ⟨q, hq, rfl, rfl, hbel⟩ := hrel
                by_cases hlt : q < j
                · rcases HL.out with h | ⟨b, off, hal, hb, hc⟩
                  · exfalso; omega
                  · have hcq : wr.cell? ⟨b, off + q, none⟩ = some (.string (y q)) := by rw [← hc q (by omega)]; exact hbel.cell (by exact hb)
                    subst hal
                    have hz1 := texts_size x y k q
                    have hp := piece_size (y q)
                    have hyq := hy q
                    have HG : Hid (xE S ((texts x y k q).size : Int) = 0 ∧ xB S ((texts x y k q).size : Int) = (y q).extract 0 (cut (y q)) ∧ xX S ((texts x y k q).size : Int) = ((texts x y k (q + 1)).size : Int)) := by
                      obtain ⟨r, hr⟩ := H2.out q hlt
                      rw [hr]
                      exact text_back (by omega)
                    generalize y q = Y at hcq hp hyq HG
                    have hcut := cut_int Y
                    have hcut2 := cut_min Y
                    have hcl2 := cut_le Y
                    unfold maxLen at hyq
                    clear eN eM eN2 eM2 hc hx0 hx1 hy H2 HE
                    go_wp2_with (go_at_call 27; refine (Wt.getText _ _ _ (by unfold maxLen; omega) (by omega) (by omega)).mono ?_; rintro e w1 ⟨rfl, b1⟩; rw [HG.out.1, HG.out.2.1, HG.out.2.2])
                    go_roundw
                    case rel => exact ⟨q + 1, by omega, by go_num, rfl, hbel.trans (b1.mono hbel.size)⟩
                    case measure => simp [intOf] <;> omega
                · obtain rfl : q = j := by omega
                  rw [HE.out]
                  clear hlt hq H2 HE HL
                  go_wp2_with (go_at_call 29; refine (wakes _).mono ?_; rintro e w1 ⟨rfl, b1⟩)
                  go_ret
                  exact ⟨rfl, hbel.trans (b1.mono hbel.size)⟩

end Go.Proofs.Ytbicbkimmblhgaa.Wk2
