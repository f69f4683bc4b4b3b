/-
  Plain facts on arrays of words as lists of numbers, and SHA-256 told by lists of numbers: the words of a block, the rounds, the state behind a block. Nothing is asked but the bounds that each fact names.
-/
import Derived.WalkKit
import Derived.Laws.BitsAllLaws
import Derived.Test.YtpmmffihibhlhaaDoorMathD
namespace Go.Proofs.YtpmmffihibhlhaaDoor.M

/-- An array of words, of bytes: its cells. -/
def c32 (l : List Nat) : Array Value := (l.map fun n : Nat => Value.int .u32 (n : Int)).toArray
def c8 (l : List Nat) : Array Value := (l.map fun n : Nat => Value.int .u8 (n : Int)).toArray

theorem c32_size (l : List Nat) : (c32 l).size = l.length := by simp [c32]
theorem c8_size (l : List Nat) : (c8 l).size = l.length := by simp [c8]
theorem c32_get (l : List Nat) (i : Nat) (h : i < l.length) : (c32 l)[i]? = some (.int .u32 ((l.getD i 0 : Nat) : Int)) := by simp [c32, h, List.getD]
theorem c8_get (l : List Nat) (i : Nat) (h : i < l.length) : (c8 l)[i]? = some (.int .u8 ((l.getD i 0 : Nat) : Int)) := by simp [c8, h, List.getD]
theorem c32_set (l : List Nat) (i v : Nat) : (c32 l).setIfInBounds i (.int .u32 (v : Int)) = c32 (l.set i v) := by
  unfold c32
  rw [List.map_set]
  simp
theorem c8_set (l : List Nat) (i v : Nat) : (c8 l).setIfInBounds i (.int .u8 (v : Int)) = c8 (l.set i v) := by
  unfold c8
  rw [List.map_set]
  simp
theorem c32_one (l : List Nat) : (c32 l).all (·.oneCell') = true := by
  rw [Array.all_eq_true_iff_forall_mem]
  intro v hv
  simp only [c32, List.mem_toArray, List.mem_map] at hv
  obtain ⟨n, _, rfl⟩ := hv
  rfl
theorem c8_one (l : List Nat) : (c8 l).all (·.oneCell') = true := by
  rw [Array.all_eq_true_iff_forall_mem]
  intro v hv
  simp only [c8, List.mem_toArray, List.mem_map] at hv
  obtain ⟨n, _, rfl⟩ := hv
  rfl

/-- Each number fits 32 bits. -/
def W32 (l : List Nat) : Prop := ∀ i, l.getD i 0 < 4294967296
theorem getD_set (l : List Nat) (i j v : Nat) (h : i < l.length) : (l.set i v).getD j 0 = if j = i then v else l.getD j 0 := by
  simp only [List.getD, List.getElem?_set]
  by_cases e : i = j
  · subst e
    simp [h]
  · have e' : ¬ j = i := fun x => e x.symm
    simp [e, e']
theorem W32.set {l : List Nat} (h : W32 l) (i v : Nat) (hv : v < 4294967296) : W32 (l.set i v) := by
  intro j
  by_cases hi : i < l.length
  · rw [getD_set l i j v hi]
    split
    · exact hv
    · exact h j
  · rw [List.set_eq_of_length_le (by omega)]
    exact h j
theorem eight {l : List Nat} (h : l.length = 8) : ∃ a b c d e f g i, l = [a, b, c, d, e, f, g, i] := by
  match l, h with
  | [a, b, c, d, e, f, g, i], _ => exact ⟨a, b, c, d, e, f, g, i, rfl⟩

/-- Turned to the right. -/
def rr (x n : Nat) : Nat := x / 2 ^ n + x % 2 ^ n * 2 ^ (32 - n)

theorem rr_rot {x : Nat} (h : x < 4294967296) (n : Nat) (hn : n ≤ 32) (h0 : 0 < n) : rotN (x : Int) (32 - n) = rr x n := by
  have h1 := rot_code (x := (x : Int)) (by omega) (by omega) (32 - n) (by omega)
  rw [wrapMul32, divPow] at h1
  have e1 : 32 - (32 - n) = n := by omega
  rw [e1] at h1
  have q2 : x / 2 ^ n < 2 ^ (32 - n) := by
    rw [Nat.div_lt_iff_lt_mul (Nat.pow_pos (by decide)), ← Nat.pow_add, show 32 - n + n = 32 by omega]
    exact h
  have q3 : 2 ^ (32 - n) ≤ 4294967296 := Nat.pow_le_pow_right (n := 2) (by decide) (show 32 - n ≤ 32 by omega)
  have q1 : x * 2 ^ (32 - n) % 4294967296 < 4294967296 := Nat.mod_lt _ (by decide)
  rw [u32_or_nat _ _ q1 (by omega)] at h1
  have e2 : x * 2 ^ (32 - n) % 4294967296 = x % 2 ^ n * 2 ^ (32 - n) := by
    have e3 : (4294967296 : Nat) = 2 ^ n * 2 ^ (32 - n) := by
      rw [← Nat.pow_add, show n + (32 - n) = 32 by omega]
    rw [e3, Nat.mul_mod_mul_right]
  rw [e2, Nat.mul_comm, ← Nat.two_pow_add_eq_or_of_lt q2, Nat.mul_comm] at h1
  unfold rr
  omega
theorem rr_lt {x : Nat} (h : x < 4294967296) (n : Nat) (hn : n ≤ 32) (h0 : 0 < n) : rr x n < 4294967296 := by
  rw [← rr_rot h n hn h0]
  exact rotN_lt _ _
theorem bOf_neg (n : Nat) (hn : n < 32) (h0 : 0 < n) : bOf (-(n : Int)) = 32 - n := by
  unfold bOf
  omega

theorem xor_lt {a b : Nat} (ha : a < 4294967296) (hb : b < 4294967296) : a ^^^ b < 4294967296 := Nat.xor_lt_two_pow (n := 32) ha hb
theorem and_lt {a b : Nat} (hb : b < 4294967296) : a &&& b < 4294967296 := Nat.and_lt_two_pow (n := 32) a hb

/-- The sum of 32 bits. -/
def ad (x y : Nat) : Nat := (x + y) % 4294967296
theorem ad_lt (x y : Nat) : ad x y < 4294967296 := Nat.mod_lt _ (by decide)
def sg0 (x : Nat) : Nat := rr x 7 ^^^ rr x 18 ^^^ x / 8
def sg1 (x : Nat) : Nat := rr x 17 ^^^ rr x 19 ^^^ x / 1024
def bs0 (x : Nat) : Nat := rr x 2 ^^^ rr x 13 ^^^ rr x 22
def bs1 (x : Nat) : Nat := rr x 6 ^^^ rr x 11 ^^^ rr x 25
def chs (x y z : Nat) : Nat := (x &&& y) ^^^ ((4294967295 - x) &&& z)
def maj (x y z : Nat) : Nat := (x &&& y) ^^^ (x &&& z) ^^^ (y &&& z)

theorem sg0_lt {x : Nat} (h : x < 4294967296) : sg0 x < 4294967296 := xor_lt (xor_lt (rr_lt h 7 (by decide) (by decide)) (rr_lt h 18 (by decide) (by decide))) (by omega)
theorem sg1_lt {x : Nat} (h : x < 4294967296) : sg1 x < 4294967296 := xor_lt (xor_lt (rr_lt h 17 (by decide) (by decide)) (rr_lt h 19 (by decide) (by decide))) (by omega)
theorem bs0_lt {x : Nat} (h : x < 4294967296) : bs0 x < 4294967296 := xor_lt (xor_lt (rr_lt h 2 (by decide) (by decide)) (rr_lt h 13 (by decide) (by decide))) (rr_lt h 22 (by decide) (by decide))
theorem bs1_lt {x : Nat} (h : x < 4294967296) : bs1 x < 4294967296 := xor_lt (xor_lt (rr_lt h 6 (by decide) (by decide)) (rr_lt h 11 (by decide) (by decide))) (rr_lt h 25 (by decide) (by decide))
theorem chs_lt {x y z : Nat} (hy : y < 4294967296) (hz : z < 4294967296) : chs x y z < 4294967296 := xor_lt (and_lt hy) (and_lt hz)
theorem maj_lt {x y z : Nat} (hy : y < 4294967296) (hz : z < 4294967296) : maj x y z < 4294967296 := xor_lt (xor_lt (and_lt hy) (and_lt hz)) (and_lt hz)

/-- The first i bytes of word t of a block. -/
def wdk (b : List Nat) (t : Nat) : Nat → Nat
  | 0 => 0
  | i + 1 => ad (wdk b t i * 256) (b.getD (4 * t + i) 0)
/-- The word that is made of those ahead of it. -/
def nx (l : List Nat) (t : Nat) : Nat := ad (ad (ad (sg1 (l.getD (t - 2) 0)) (l.getD (t - 7) 0)) (sg0 (l.getD (t - 15) 0))) (l.getD (t - 16) 0)
def wS (b : List Nat) (t : Nat) (l : List Nat) : List Nat := l.set t (if t < 16 then wdk b t 4 else nx l t)
/-- The words, up to the t-th, noughts behind them. -/
def sch (b : List Nat) : Nat → List Nat
  | 0 => List.replicate 64 0
  | t + 1 => wS b t (sch b t)

def rnd (s : List Nat) (k w : Nat) : List Nat :=
  match s with
  | [a, b, c, d, e, f, g, h] => [ad (ad (ad (ad (ad h (bs1 e)) (chs e f g)) k) w) (ad (bs0 a) (maj a b c)), a, b, c, ad d (ad (ad (ad (ad h (bs1 e)) (chs e f g)) k) w), e, f, g]
  | _ => []
def rds (ks ws s : List Nat) : Nat → List Nat
  | 0 => s
  | t + 1 => rnd (rds ks ws s t) (ks.getD t 0) (ws.getD t 0)
def adS (s : List Nat) (i : Nat) (v : List Nat) : List Nat := v.set i (ad (v.getD i 0) (s.getD i 0))
def adl (v s : List Nat) : Nat → List Nat
  | 0 => v
  | i + 1 => adS s i (adl v s i)
/-- The state behind a block. -/
def blk (ks s b : List Nat) : List Nat := adl (rds ks (sch b 64) s 64) s 8

theorem wdk_lt (b : List Nat) (t : Nat) : ∀ i, wdk b t i < 4294967296
  | 0 => (by decide : (0 : Nat) < 4294967296)
  | _ + 1 => ad_lt _ _
theorem nx_lt (l : List Nat) (t : Nat) : nx l t < 4294967296 := ad_lt _ _
theorem sch_len (b : List Nat) : ∀ t, (sch b t).length = 64
  | 0 => by simp [sch]
  | t + 1 => by simp [sch, wS, sch_len b t]
theorem sch_W (b : List Nat) : ∀ t, W32 (sch b t)
  | 0 => by
    intro i
    simp only [sch, List.getD, List.getElem?_replicate]
    split <;> simp
  | t + 1 => by
    refine (sch_W b t).set t _ ?_
    split
    · exact wdk_lt _ _ _
    · exact nx_lt _ _
theorem rnd_len (s : List Nat) (h : s.length = 8) (k w : Nat) : (rnd s k w).length = 8 := by
  obtain ⟨a, b, c, d, e, f, g, i, rfl⟩ := eight h
  rfl
theorem rds_len (ks ws s : List Nat) (h : s.length = 8) : ∀ t, (rds ks ws s t).length = 8
  | 0 => h
  | t + 1 => rnd_len _ (rds_len ks ws s h t) _ _
theorem W32_eight {a b c d e f g h : Nat} : W32 [a, b, c, d, e, f, g, h] ↔ a < 4294967296 ∧ b < 4294967296 ∧ c < 4294967296 ∧ d < 4294967296 ∧ e < 4294967296 ∧ f < 4294967296 ∧ g < 4294967296 ∧ h < 4294967296 := by
  constructor
  · intro k
    exact ⟨k 0, k 1, k 2, k 3, k 4, k 5, k 6, k 7⟩
  · rintro ⟨h0, h1, h2, h3, h4, h5, h6, h7⟩ i
    match i with
    | 0 => exact h0
    | 1 => exact h1
    | 2 => exact h2
    | 3 => exact h3
    | 4 => exact h4
    | 5 => exact h5
    | 6 => exact h6
    | 7 => exact h7
    | n + 8 => simp [List.getD]
theorem rnd_W (s : List Nat) (h : s.length = 8) (hw : W32 s) (k w : Nat) : W32 (rnd s k w) := by
  obtain ⟨a, b, c, d, e, f, g, i, rfl⟩ := eight h
  obtain ⟨h0, h1, h2, h3, h4, h5, h6, h7⟩ := W32_eight.1 hw
  exact W32_eight.2 ⟨ad_lt _ _, h0, h1, h2, ad_lt _ _, h4, h5, h6⟩
theorem rds_W (ks ws s : List Nat) (h : s.length = 8) (hw : W32 s) : ∀ t, W32 (rds ks ws s t)
  | 0 => hw
  | t + 1 => rnd_W _ (rds_len ks ws s h t) (rds_W ks ws s h hw t) _ _
theorem adl_len (v s : List Nat) : ∀ i, (adl v s i).length = v.length
  | 0 => rfl
  | i + 1 => by simp [adl, adS, adl_len v s i]
theorem adl_W (v s : List Nat) (hv : W32 v) : ∀ i, W32 (adl v s i)
  | 0 => hv
  | i + 1 => (adl_W v s hv i).set _ _ (ad_lt _ _)
theorem blk_len (ks s b : List Nat) (h : s.length = 8) : (blk ks s b).length = 8 := by
  unfold blk
  rw [adl_len, rds_len _ _ _ h]
theorem blk_W (ks s b : List Nat) (h : s.length = 8) (hw : W32 s) : W32 (blk ks s b) := adl_W _ _ (rds_W _ _ _ h hw _) _

/-- The state ahead of the first block; the rounds' numbers. -/
def beg : List Nat := [1779033703, 3144134277, 1013904242, 2773480762, 1359893119, 2600822924, 528734635, 1541459225]
def rns : List Nat := [1116352408, 1899447441, 3049323471, 3921009573, 961987163, 1508970993, 2453635748, 2870763221, 3624381080, 310598401, 607225278, 1426881987, 1925078388, 2162078206, 2614888103, 3248222580, 3835390401, 4022224774, 264347078, 604807628, 770255983, 1249150122, 1555081692, 1996064986, 2554220882, 2821834349, 2952996808, 3210313671, 3336571891, 3584528711, 113926993, 338241895, 666307205, 773529912, 1294757372, 1396182291, 1695183700, 1986661051, 2177026350, 2456956037, 2730485921, 2820302411, 3259730800, 3345764771, 3516065817, 3600352804, 4094571909, 275423344, 430227734, 506948616, 659060556, 883997877, 958139571, 1322822218, 1537002063, 1747873779, 1955562222, 2024104815, 2227730452, 2361852424, 2428436474, 2756734187, 3204031479, 3329325298]
theorem beg_len : beg.length = 8 := rfl
theorem rns_len : rns.length = 64 := rfl
theorem beg_W : W32 beg := W32_eight.2 (by decide)
theorem W32_of_all {l : List Nat} (h : l.all (fun x => decide (x < 4294967296)) = true) : W32 l := by
  intro i
  simp only [List.getD]
  cases e : l[i]? with
  | none => simp
  | some x =>
    have := (List.all_eq_true.1 h) x (List.mem_of_getElem? e)
    simpa using this
theorem rns_W : W32 rns := W32_of_all (by decide)

/-- The block of "abc", whole. -/
def abcB : List Nat := [97, 98, 99, 128] ++ List.replicate 59 0 ++ [24]
theorem abc : blk rns beg abcB = [3128432319, 2399260650, 1094795486, 1571693091, 2953011619, 2518121116, 3021012833, 4060091821] := by decide +kernel

end Go.Proofs.YtpmmffihibhlhaaDoor.M
