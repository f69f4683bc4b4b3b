/-
  Plain facts, several texts in one: MathA MathB MathC MathG MathT MathK MathAr MathX MathF MathL MathY MathMs MathDk. Nothing is asked but what each fact names.
-/
import Derived.WalkKit
import Derived.Laws.BitsAllLaws
import Derived.Laws.BitsLemmas
import Derived.Laws.BytesArg
namespace Go.Proofs.Ytaojoecmbgmhoaa.M

theorem wf_i64 {n : Int} (h : (Lit.int .i64 n).wf = true) : -9223372036854775808 ≤ n ∧ n < 9223372036854775808 := by
  simp [Lit.wf, IntKind.min, IntKind.max, IntKind.bits, IntKind.signed] at h
  omega

theorem wf_u64 {n : Int} (h : (Lit.int .u64 n).wf = true) : 0 ≤ n ∧ n < 18446744073709551616 := by
  simp [Lit.wf, IntKind.min, IntKind.max, IntKind.bits, IntKind.signed] at h
  omega

theorem wf_u32 {n : Int} (h : (Lit.int .u32 n).wf = true) : 0 ≤ n ∧ n < 4294967296 := by
  simp [Lit.wf, IntKind.min, IntKind.max, IntKind.bits, IntKind.signed] at h
  omega

theorem u64_max : IntKind.u64.max = 18446744073709551615 := by decide

theorem not_u64 (x : Int) (h0 : 0 ≤ x) (h1 : x < 18446744073709551616) :
    bits .xor .u64 IntKind.u64.max x = 18446744073709551615 - x := by
  obtain ⟨a, rfl⟩ := Int.eq_ofNat_of_zero_le h0
  have ha : a < 18446744073709551616 := by omega
  rw [u64_max]
  show IntKind.u64.wrap ((BitVec.ofInt 64 (18446744073709551615) ^^^ BitVec.ofInt 64 (a : Int)).toNat : Int) = _
  have e : BitVec.ofInt 64 (18446744073709551615) = BitVec.allOnes 64 := by decide
  rw [e, BitVec.allOnes_xor, BitVec.toNat_not, ofInt_u64 a ha, IntKind.wrap_u64]
  omega

theorem not_i64 (x : Int) (h0 : 0 ≤ x) (h1 : x < 9223372036854775808) :
    bits .xor .i64 (-1) x = -1 - x := by
  obtain ⟨a, rfl⟩ := Int.eq_ofNat_of_zero_le h0
  have ha : a < 18446744073709551616 := by omega
  show IntKind.i64.wrap ((BitVec.ofInt 64 (-1) ^^^ BitVec.ofInt 64 (a : Int)).toNat : Int) = _
  have e : BitVec.ofInt 64 (-1) = BitVec.allOnes 64 := by decide
  rw [e, BitVec.allOnes_xor, BitVec.toNat_not, ofInt_u64 a ha, IntKind.wrap_i64]
  omega

theorem and_one (x : Int) (h0 : 0 ≤ x) (h1 : x < 18446744073709551616) :
    bits .and .u64 x 1 = x % 2 := by
  rw [u64_and x 1 h0 h1 (by decide) (by decide)]
  have : (1 : Int).toNat = 1 := rfl
  rw [this, nat_mask1]
  omega

/-- What folding comes to. -/
def foldI (n : Int) : Int := if n < 0 then -2 * n - 1 else 2 * n
/-- What unfolding comes to. -/
def unfoldI (m : Int) : Int := if m % 2 = 1 then -(m / 2) - 1 else m / 2

theorem fold_neg {n : Int} (h : n < 0) : foldI n = -2 * n - 1 := by unfold foldI; rw [if_pos h]
theorem fold_pos {n : Int} (h : ¬ n < 0) : foldI n = 2 * n := by unfold foldI; rw [if_neg h]
theorem unfold_odd {m : Int} (h : m % 2 = 1) : unfoldI m = -(m / 2) - 1 := by unfold unfoldI; rw [if_pos h]
theorem unfold_even {m : Int} (h : ¬ m % 2 = 1) : unfoldI m = m / 2 := by unfold unfoldI; rw [if_neg h]

theorem unfold_fold (n : Int) : unfoldI (foldI n) = n := by unfold unfoldI foldI; split <;> split <;> omega
theorem fold_unfold (m : Int) (h : 0 ≤ m) : foldI (unfoldI m) = m := by unfold unfoldI foldI; split <;> split <;> omega
theorem fold_two : foldI (-2) = 3 := by decide
theorem fold_range {n : Int} (h1 : -9223372036854775808 ≤ n) (h2 : n < 9223372036854775808) : 0 ≤ foldI n ∧ foldI n < 18446744073709551616 := by
  unfold foldI; split <;> omega
theorem unfold_range {m : Int} (h1 : 0 ≤ m) (h2 : m < 18446744073709551616) : -9223372036854775808 ≤ unfoldI m ∧ unfoldI m < 9223372036854775808 := by
  unfold unfoldI; split <;> omega

theorem fold_code_neg {n : Int} (h : n < 0) (h1 : -9223372036854775808 ≤ n) :
    bits .xor .u64 IntKind.u64.max (IntKind.u64.wrap (IntKind.u64.wrap n * 2)) = foldI n := by
  rw [fold_neg h]
  have e : IntKind.u64.wrap (IntKind.u64.wrap n * 2) = 2 * n + 18446744073709551616 := by
    rw [IntKind.wrap_u64, IntKind.wrap_u64]; omega
  rw [e, not_u64 _ (by omega) (by omega)]
  omega

theorem ret_int {k : IntKind} {a b : Int} (h : a = b) : Ending.returned (.int k a) = .returned (.int k b) := by rw [h]
theorem ret_str {a b : ByteArray} (h : a = b) : Ending.returned (.string a) = .returned (.string b) := by rw [h]

end Go.Proofs.Ytaojoecmbgmhoaa.M

namespace Go.Proofs.Ytaojoecmbgmhoaa.M

/-- n without its i lowest bytes. -/
def sh (n : Int) : Nat → Int
  | 0 => n
  | i + 1 => sh n i / 256
/-- The i lowest bytes of n, the highest first. -/
def be : Nat → Int → List UInt8
  | 0, _ => []
  | i + 1, n => UInt8.ofNat (sh n i % 256).toNat :: be i n
/-- The same as a text. -/
def beB (i : Nat) (n : Int) : ByteArray := ⟨(be i n).toArray⟩

theorem sh_range {n : Int} (h0 : 0 ≤ n) (h1 : n < 18446744073709551616) : ∀ i, 0 ≤ sh n i ∧ sh n i < 18446744073709551616
  | 0 => ⟨h0, h1⟩
  | i + 1 => by have := sh_range h0 h1 i; show 0 ≤ sh n i / 256 ∧ sh n i / 256 < _; omega
theorem be_length : ∀ (i : Nat) (n : Int), (be i n).length = i
  | 0, _ => rfl
  | i + 1, n => by simp [be, be_length i n]
theorem beB_size (i : Nat) (n : Int) : (beB i n).size = i := by
  show (be i n).toArray.size = i
  simp [be_length]

/-- What stands in the slice behind i rounds: noughts, then the i lowest bytes. -/
def cellsAt (k i : Nat) (n : Int) : List Value :=
  List.replicate (k - i) (.int .u8 0) ++ (be i n).map fun b => .int .u8 (b.toNat : Int)

theorem cellsAt_length {k i : Nat} (n : Int) (h : i ≤ k) : (cellsAt k i n).length = k := by
  simp [cellsAt, be_length]; omega
theorem cellsAt_zero (k : Nat) (n : Int) : cellsAt k 0 n = List.replicate k (.int .u8 0) := by simp [cellsAt, be]
theorem cellsAt_full (k : Nat) (n : Int) : cellsAt k k n = (be k n).map fun b => .int .u8 (b.toNat : Int) := by simp [cellsAt]
theorem byte_val {x : Int} (h : 0 ≤ x) (h2 : x < 256) : ((UInt8.ofNat x.toNat).toNat : Int) = x := by
  simp; omega
theorem cellsAt_set {k i : Nat} (n : Int) (h : i < k) : (cellsAt k i n).set (k - 1 - i) (.int .u8 (sh n i % 256)) = cellsAt k (i + 1) n := by
  have e : k - i = (k - 1 - i) + 1 := by omega
  have e2 : k - (i + 1) = k - 1 - i := by omega
  unfold cellsAt
  rw [e, e2]
  rw [List.set_append_left _ _ (by simp)]
  rw [List.replicate_succ', List.set_append_right _ _ (by simp)]
  simp [be]
  omega
theorem cellsAt_get {k i : Nat} (n : Int) (h : i < k) : (cellsAt k i n)[k - 1 - i]? = some (.int .u8 0) := by
  unfold cellsAt
  rw [List.getElem?_append_left (by simp; omega)]
  rw [List.getElem?_replicate, if_pos (by omega)]

/-- A text of one byte. -/
def oneB (x : Int) : ByteArray := ⟨#[UInt8.ofNat x.toNat]⟩
theorem oneB_size (x : Int) : (oneB x).size = 1 := rfl
theorem one_be (i : Nat) (n : Int) : oneB (sh n i % 256) ++ beB i n = beB (i + 1) n := by
  apply ByteArray.ext
  simp [oneB, beB, be]

theorem made_bytes (k : Nat) : (madeCells #[.int .u8 0] k).toList = List.replicate k (.int .u8 0) := by
  apply List.ext_getElem
  · simp [madeCells]
  · intro i h1 h2
    simp [madeCells, Nat.mod_one]

end Go.Proofs.Ytaojoecmbgmhoaa.M

namespace Go.Proofs.Ytaojoecmbgmhoaa.M

/-- The number whose bit j is f j, for the lowest c bits. -/
def valN : Nat → (Nat → Bool) → Nat
  | 0, _ => 0
  | c + 1, f => (f 0).toNat + 2 * valN c fun j => f (j + 1)

theorem bool_le (b : Bool) : b.toNat ≤ 1 := by cases b <;> decide

theorem testBit_valN : ∀ (c : Nat) (f : Nat → Bool) (j : Nat), (valN c f).testBit j = (decide (j < c) && f j)
  | 0, f, j => by simp [valN]
  | c + 1, f, 0 => by
    unfold valN
    rw [Nat.testBit_zero]
    have : ((f 0).toNat + 2 * valN c fun j => f (j + 1)) % 2 = (f 0).toNat := by have := bool_le (f 0); omega
    rw [this]
    cases f 0 <;> simp
  | c + 1, f, j + 1 => by
    unfold valN
    rw [Nat.testBit_succ]
    have : ((f 0).toNat + 2 * valN c fun j => f (j + 1)) / 2 = valN c fun j => f (j + 1) := by have := bool_le (f 0); omega
    rw [this, testBit_valN c]
    simp

theorem valN_lt : ∀ (c : Nat) (f : Nat → Bool), valN c f < 2 ^ c
  | 0, _ => by simp [valN]
  | c + 1, f => by
    have h := valN_lt c fun j => f (j + 1)
    have := bool_le (f 0)
    unfold valN
    rw [Nat.pow_succ]
    omega

theorem valN_le64 {c : Nat} (f : Nat → Bool) (h : c ≤ 64) : valN c f < 18446744073709551616 :=
  Nat.lt_of_lt_of_le (valN_lt c f) (by have := Nat.pow_le_pow_right (n := 2) (by decide) h; simpa using this)

/-- One bit more below. -/
theorem valN_step (c i : Nat) (f : Nat → Bool) : valN (c + 1) (fun j => f (i + j)) = 2 * valN c (fun j => f (i + 1 + j)) + (f i).toNat := by
  show (f (i + 0)).toNat + 2 * valN c (fun j => f (i + (j + 1))) = _
  have e : (fun j => f (i + (j + 1))) = fun j => f (i + 1 + j) := by funext j; congr 1; omega
  rw [e, Nat.add_zero]
  omega

/-- n without its i lowest bits. -/
def hv (n : Int) : Nat → Int
  | 0 => n
  | i + 1 => hv n i / 2
theorem hv_nat (N : Nat) : ∀ i, hv (N : Int) i = ((N / 2 ^ i : Nat) : Int)
  | 0 => by simp [hv]
  | i + 1 => by
    show hv (N : Int) i / 2 = _
    rw [hv_nat N i, Nat.pow_succ, ← Nat.div_div_eq_div_mul]
    omega
theorem hv_range {n : Int} (h0 : 0 ≤ n) (h1 : n < 18446744073709551616) : ∀ i, 0 ≤ hv n i ∧ hv n i < 18446744073709551616
  | 0 => ⟨h0, h1⟩
  | i + 1 => by have := hv_range h0 h1 i; show 0 ≤ hv n i / 2 ∧ hv n i / 2 < _; omega

/-- The bit at a place; where there is none: false. -/
def bitB (n at_ : Int) : Bool := decide (0 ≤ at_) && n.toNat.testBit at_.toNat
theorem bitB_neg {n a : Int} (h : a < 0) : bitB n a = false := by unfold bitB; simp; omega
theorem bitB_big {n a : Int} (h0 : 0 ≤ n) (h1 : n < 18446744073709551616) (h : 63 < a) : bitB n a = false := by
  unfold bitB
  have : n.toNat < 2 ^ a.toNat := Nat.lt_of_lt_of_le (m := 2 ^ 64) (by omega) (Nat.pow_le_pow_right (by decide) (by omega))
  simp [Nat.testBit_lt_two_pow this]
theorem hv_bit {n : Int} (h0 : 0 ≤ n) (a : Nat) : hv n a % 2 = ((bitB n (a : Int)).toNat : Int) := by
  obtain ⟨N, rfl⟩ := Int.eq_ofNat_of_zero_le h0
  rw [hv_nat]
  unfold bitB
  simp only [Int.toNat_natCast]
  have e : decide ((0 : Int) ≤ (a : Int)) = true := by simp
  rw [e, Bool.true_and, Nat.testBit_eq_decide_div_mod_eq]
  generalize N / 2 ^ a = q
  rcases (show q % 2 = 0 ∨ q % 2 = 1 by omega) with h | h
  · rw [h]; simp; omega
  · rw [h]; simp; omega

theorem wrapMul (N a : Nat) : IntKind.u64.wrap ((N : Int) * 2 ^ a) = ((N * 2 ^ a % 18446744073709551616 : Nat) : Int) := by
  rw [IntKind.wrap_u64]
  simp [Int.natCast_emod, Int.natCast_mul, Int.natCast_pow]
theorem wrapMul32 (N a : Nat) : IntKind.u32.wrap ((N : Int) * 2 ^ a) = ((N * 2 ^ a % 4294967296 : Nat) : Int) := by
  rw [IntKind.wrap_u32]
  simp [Int.natCast_emod, Int.natCast_mul, Int.natCast_pow]
theorem divPow (N a : Nat) : (N : Int) / 2 ^ a = ((N / 2 ^ a : Nat) : Int) := by
  simp [Int.natCast_ediv, Int.natCast_pow]

/-- How many bits a count asks for. -/
def cOf (count : Int) : Nat := (max 0 (min count 64)).toNat
/-- The bit j places behind a place. -/
def gB (n from_ : Int) (j : Nat) : Bool := bitB n (from_ + (j : Int))
/-- Some of a number's bits. -/
def bitsN (n from_ count : Int) : Nat := valN (cOf count) (gB n from_)
theorem bitsN_eq (n from_ count : Int) : bitsN n from_ count = valN (cOf count - 0) fun j => gB n from_ (0 + j) := by
  unfold bitsN
  congr 1
  funext j
  rw [Nat.zero_add]

theorem bitsN_none {n from_ count : Int} (h : count < 1) : bitsN n from_ count = 0 := by
  have e : cOf count = 0 := by unfold cOf; omega
  unfold bitsN
  rw [e]
  rfl
theorem valN_false : ∀ (c : Nat) (f : Nat → Bool), (∀ j, j < c → f j = false) → valN c f = 0
  | 0, _, _ => rfl
  | c + 1, f, h => by
    unfold valN
    rw [h 0 (by omega), valN_false c _ fun j hj => h (j + 1) (by omega)]
    rfl
theorem bitsN_out {n from_ count : Int} (h0 : 0 ≤ n) (h1 : n < 18446744073709551616) (h : from_ ≤ -64 ∨ 64 ≤ from_) : bitsN n from_ count = 0 := by
  apply valN_false
  intro j hj
  unfold gB
  have hc : cOf count ≤ 64 := by unfold cOf; omega
  rcases h with h | h
  · exact bitB_neg (by omega)
  · exact bitB_big h0 h1 (by omega)
theorem bitsN_lt (n from_ count : Int) : bitsN n from_ count < 18446744073709551616 := valN_le64 _ (by unfold cOf; omega)

/-- Shifted up, then cut. -/
theorem bits_up {n from_ count : Int} (h0 : 0 ≤ n) (h : from_ < 0) (u : Nat) (hu : u + cOf count = 64) :
    IntKind.u64.wrap (IntKind.u64.wrap (n * 2 ^ (-from_).toNat) * 2 ^ u) / 2 ^ u = (bitsN n from_ count : Int) := by
  obtain ⟨N, rfl⟩ := Int.eq_ofNat_of_zero_le h0
  rw [wrapMul, wrapMul, divPow]
  congr 1
  apply Nat.eq_of_testBit_eq
  intro j
  unfold bitsN
  have e64 : (18446744073709551616 : Nat) = 2 ^ 64 := by decide
  rw [testBit_valN, gB, Nat.testBit_div_two_pow, e64, Nat.testBit_mod_two_pow, Nat.mul_comm _ (2 ^ u), Nat.testBit_two_pow_mul, Nat.testBit_mod_two_pow, Nat.mul_comm N, Nat.testBit_two_pow_mul]
  have hj : j + u - u = j := by omega
  rw [hj]
  by_cases c1 : j < cOf count
  · have d1 : decide (j + u < 64) = true := decide_eq_true (by omega)
    have d2 : decide (j + u ≥ u) = true := decide_eq_true (by omega)
    have d3 : decide (j < 64) = true := decide_eq_true (by omega)
    rw [decide_eq_true c1]
    by_cases c2 : (-from_).toNat ≤ j
    · have e : (from_ + (j : Int)).toNat = j - (-from_).toNat := by omega
      have d4 : decide (j ≥ (-from_).toNat) = true := decide_eq_true c2
      have d5 : decide (0 ≤ from_ + (j : Int)) = true := decide_eq_true (by omega)
      unfold bitB
      simp only [d1, d2, d3, d4, d5, e, Int.toNat_natCast, Bool.true_and]
    · have e : from_ + (j : Int) < 0 := by omega
      have d4 : decide (j ≥ (-from_).toNat) = false := decide_eq_false c2
      rw [bitB_neg e]
      simp only [d1, d2, d3, d4, Bool.true_and, Bool.false_and]
  · have d1 : decide (j + u < 64) = false := decide_eq_false (by omega)
    rw [decide_eq_false c1, d1, Bool.false_and, Bool.false_and]

/-- Shifted down, then cut. -/
theorem bits_down {n from_ count : Int} (h0 : 0 ≤ n) (h : 0 ≤ from_) (u : Nat) (hu : u + cOf count = 64) :
    IntKind.u64.wrap (n / 2 ^ from_.toNat * 2 ^ u) / 2 ^ u = (bitsN n from_ count : Int) := by
  obtain ⟨N, rfl⟩ := Int.eq_ofNat_of_zero_le h0
  rw [divPow, wrapMul, divPow]
  congr 1
  apply Nat.eq_of_testBit_eq
  intro j
  unfold bitsN
  have e64 : (18446744073709551616 : Nat) = 2 ^ 64 := by decide
  rw [testBit_valN, gB, Nat.testBit_div_two_pow, e64, Nat.testBit_mod_two_pow, Nat.mul_comm _ (2 ^ u), Nat.testBit_two_pow_mul, Nat.testBit_div_two_pow]
  have hj : j + u - u = j := by omega
  rw [hj]
  by_cases c1 : j < cOf count
  · have d1 : decide (j + u < 64) = true := decide_eq_true (by omega)
    have d2 : decide (j + u ≥ u) = true := decide_eq_true (by omega)
    have e : (from_ + (j : Int)).toNat = j + from_.toNat := by omega
    have d5 : decide (0 ≤ from_ + (j : Int)) = true := decide_eq_true (by omega)
    unfold bitB
    simp only [decide_eq_true c1, d1, d2, d5, e, Int.toNat_natCast, Bool.true_and]
  · have d1 : decide (j + u < 64) = false := decide_eq_false (by omega)
    rw [decide_eq_false c1, d1, Bool.false_and, Bool.false_and]

end Go.Proofs.Ytaojoecmbgmhoaa.M

namespace Go.Proofs.Ytaojoecmbgmhoaa.M

/-- The byte at a place; behind the end: nought. -/
def bt (s : ByteArray) (j : Nat) : Int := if h : j < s.size then (s[j].toNat : Int) else 0
theorem get_bt (s : ByteArray) : ∀ (j : Nat) (h : j < s.size), ((s[j]'h).toNat : Int) = bt s j := fun j h => by unfold bt; rw [dif_pos h]
theorem bt_range (s : ByteArray) (j : Nat) : 0 ≤ bt s j ∧ bt s j ≤ 255 := by
  unfold bt
  split
  · rename_i h
    have := s[j].toNat_lt
    omega
  · omega

/-- The number that k bytes from a place on are. -/
def num (s : ByteArray) (a : Nat) : Nat → Int
  | 0 => 0
  | k + 1 => num s a k * 256 + bt s (a + k)
theorem num_range (s : ByteArray) (a : Nat) : ∀ k, 0 ≤ num s a k ∧ num s a k < 256 ^ k
  | 0 => by simp [num]
  | k + 1 => by
    have h := num_range s a k
    have hb := bt_range s (a + k)
    show 0 ≤ num s a k * 256 + bt s (a + k) ∧ num s a k * 256 + bt s (a + k) < 256 ^ (k + 1)
    rw [Int.pow_succ]
    omega
theorem pow256 {k m : Nat} (h : k ≤ m) : (256 : Int) ^ k ≤ 256 ^ m := by
  have h1 := Nat.pow_le_pow_right (n := 256) (by decide) h
  have h2 : ((256 ^ k : Nat) : Int) ≤ ((256 ^ m : Nat) : Int) := Int.ofNat_le.mpr h1
  rw [Int.natCast_pow, Int.natCast_pow] at h2
  exact h2
theorem num_7 (s : ByteArray) (a : Nat) {k : Nat} (h : k ≤ 7) : 0 ≤ num s a k ∧ num s a k < 72057594037927936 := by
  have h1 := num_range s a k
  have h2 := pow256 h
  have e : (256 : Int) ^ 7 = 72057594037927936 := by decide
  omega
theorem num_8 (s : ByteArray) (a : Nat) {k : Nat} (h : k ≤ 8) : 0 ≤ num s a k ∧ num s a k < 18446744073709551616 := by
  have h1 := num_range s a k
  have h2 := pow256 h
  have e : (256 : Int) ^ 8 = 18446744073709551616 := by decide
  omega
/-- A byte put below. -/
theorem or_byte {x y : Int} (h0 : 0 ≤ x) (h1 : x < 72057594037927936) (h2 : 0 ≤ y) (h3 : y ≤ 255) : bits .or .u64 (x * 256) y = x * 256 + y := by
  rw [u64_or _ _ (by omega) (by omega) h2 (by omega), nat_join8 _ _ (by omega) (by omega)]
  omega

/-- The error of a Get; 0: none. -/
def gE (s : ByteArray) (at_ width : Int) : Int :=
  if width < 1 ∨ 8 < width ∨ at_ < 0 ∨ (s.size : Int) < at_ then 2 else if (s.size : Int) - at_ < width then 3 else 0
/-- The number of a Get. -/
def gN (s : ByteArray) (at_ width : Int) : Int := if gE s at_ width = 0 then num s at_.toNat width.toNat else 0
/-- The place behind it. -/
def gX (s : ByteArray) (at_ width : Int) : Int := if gE s at_ width = 0 then at_ + width else 0

theorem g_arg {s : ByteArray} {at_ width : Int} (h : width < 1 ∨ 8 < width ∨ at_ < 0 ∨ (s.size : Int) < at_) : gE s at_ width = 2 ∧ gN s at_ width = 0 ∧ gX s at_ width = 0 := by
  have e : gE s at_ width = 2 := by unfold gE; rw [if_pos h]
  unfold gN gX
  rw [e]
  exact ⟨rfl, rfl, rfl⟩
theorem g_short {s : ByteArray} {at_ width : Int} (h : ¬ (width < 1 ∨ 8 < width ∨ at_ < 0 ∨ (s.size : Int) < at_)) (h2 : (s.size : Int) - at_ < width) : gE s at_ width = 3 ∧ gN s at_ width = 0 ∧ gX s at_ width = 0 := by
  have e : gE s at_ width = 3 := by unfold gE; rw [if_neg h, if_pos h2]
  unfold gN gX
  rw [e]
  exact ⟨rfl, rfl, rfl⟩
theorem g_ok {s : ByteArray} {at_ width : Int} (h : ¬ (width < 1 ∨ 8 < width ∨ at_ < 0 ∨ (s.size : Int) < at_)) (h2 : ¬ (s.size : Int) - at_ < width) :
    gE s at_ width = 0 ∧ gN s at_ width = num s at_.toNat width.toNat ∧ gX s at_ width = at_ + width := by
  have e : gE s at_ width = 0 := by unfold gE; rw [if_neg h, if_neg h2]
  unfold gN gX
  rw [e]
  exact ⟨rfl, rfl, rfl⟩

end Go.Proofs.Ytaojoecmbgmhoaa.M

namespace Go.Proofs.Ytaojoecmbgmhoaa.M

/-- The error of a Text; 0: none. -/
def tE (s : ByteArray) : Int := if 65535 < s.size then 5 else 0
/-- The bytes of a Text. -/
def tB (s : ByteArray) : ByteArray := if 65535 < s.size then ⟨#[]⟩ else beB 2 (s.size : Int) ++ s
theorem t_long {s : ByteArray} (h : 65535 < s.size) : tE s = 5 ∧ tB s = ⟨#[]⟩ := by unfold tE tB; rw [if_pos h, if_pos h]; exact ⟨rfl, rfl⟩
theorem t_ok {s : ByteArray} (h : ¬ 65535 < s.size) : tE s = 0 ∧ tB s = beB 2 (s.size : Int) ++ s := by unfold tE tB; rw [if_neg h, if_neg h]; exact ⟨rfl, rfl⟩

/-- The error of a GetText; 0: none. -/
def xE (s : ByteArray) (at_ : Int) : Int := if gE s at_ 2 ≠ 0 then gE s at_ 2 else if (s.size : Int) - gX s at_ 2 < gN s at_ 2 then 3 else 0
/-- The text of a GetText. -/
def xB (s : ByteArray) (at_ : Int) : ByteArray := if xE s at_ = 0 then s.extract (gX s at_ 2).toNat ((gX s at_ 2).toNat + (gN s at_ 2).toNat) else ⟨#[]⟩
/-- The place behind it. -/
def xX (s : ByteArray) (at_ : Int) : Int := if xE s at_ = 0 then gX s at_ 2 + gN s at_ 2 else 0
theorem x_err {s : ByteArray} {at_ : Int} (h : gE s at_ 2 ≠ 0) : xE s at_ = gE s at_ 2 ∧ xB s at_ = ⟨#[]⟩ ∧ xX s at_ = 0 := by
  have e : xE s at_ = gE s at_ 2 := by unfold xE; rw [if_pos h]
  refine ⟨e, ?_, ?_⟩
  · unfold xB; rw [e, if_neg h]
  · unfold xX; rw [e, if_neg h]
theorem x_short {s : ByteArray} {at_ : Int} (h : gE s at_ 2 = 0) (h2 : (s.size : Int) - gX s at_ 2 < gN s at_ 2) : xE s at_ = 3 ∧ xB s at_ = ⟨#[]⟩ ∧ xX s at_ = 0 := by
  have e : xE s at_ = 3 := by unfold xE; rw [if_neg (by omega), if_pos h2]
  refine ⟨e, ?_, ?_⟩
  · unfold xB; rw [e, if_neg (by decide)]
  · unfold xX; rw [e, if_neg (by decide)]
theorem x_ok {s : ByteArray} {at_ : Int} (h : gE s at_ 2 = 0) (h2 : ¬ (s.size : Int) - gX s at_ 2 < gN s at_ 2) :
    xE s at_ = 0 ∧ xB s at_ = s.extract (gX s at_ 2).toNat ((gX s at_ 2).toNat + (gN s at_ 2).toNat) ∧ xX s at_ = gX s at_ 2 + gN s at_ 2 := by
  have e : xE s at_ = 0 := by unfold xE; rw [if_neg (by omega), if_neg h2]
  refine ⟨e, ?_, ?_⟩
  · unfold xB; rw [e, if_pos rfl]
  · unfold xX; rw [e, if_pos rfl]
/-- What a Get of two bytes that went well says. -/
theorem g_two {s : ByteArray} {at_ : Int} (h : gE s at_ 2 = 0) : 0 ≤ gN s at_ 2 ∧ gN s at_ 2 < 65536 ∧ 0 ≤ gX s at_ 2 ∧ gX s at_ 2 ≤ (s.size : Int) := by
  by_cases c0 : (2 : Int) < 1 ∨ 8 < (2 : Int) ∨ at_ < 0 ∨ (s.size : Int) < at_
  · have := (g_arg c0).1; omega
  · by_cases c1 : (s.size : Int) - at_ < 2
    · have := (g_short c0 c1).1; omega
    · obtain ⟨_, e2, e3⟩ := g_ok c0 c1
      have h1 := num_range s at_.toNat (2 : Int).toNat
      have e : (256 : Int) ^ (2 : Int).toNat = 65536 := by decide
      omega

end Go.Proofs.Ytaojoecmbgmhoaa.M

namespace Go.Proofs.Ytaojoecmbgmhoaa.M

theorem size_app (a b : ByteArray) : (a ++ b).size = a.size + b.size := by simp

theorem bt_left {a : ByteArray} (b : ByteArray) {j : Nat} (h : j < a.size) : bt (a ++ b) j = bt a j := by
  unfold bt
  rw [dif_pos h, dif_pos (by rw [size_app]; omega), ByteArray.getElem_append_left h]
theorem bt_right (a b : ByteArray) {j : Nat} (h : a.size ≤ j) : bt (a ++ b) j = bt b (j - a.size) := by
  unfold bt
  by_cases c : j < (a ++ b).size
  · have c' : j - a.size < b.size := by rw [size_app] at c; omega
    rw [dif_pos c, dif_pos c', ByteArray.getElem_append_right h]
  · have c' : ¬ j - a.size < b.size := by rw [size_app] at c; omega
    rw [dif_neg c, dif_neg c']

/-- The number at a place, in what stands ahead of the rest. -/
theorem num_left (a b : ByteArray) (p : Nat) : ∀ k, p + k ≤ a.size → num (a ++ b) p k = num a p k
  | 0, _ => rfl
  | k + 1, h => by
    show num (a ++ b) p k * 256 + bt (a ++ b) (p + k) = num a p k * 256 + bt a (p + k)
    rw [num_left a b p k (by omega), bt_left b (by omega)]
/-- The number at the head of what stands behind. -/
theorem num_right (a b : ByteArray) : ∀ k, num (a ++ b) a.size k = num b 0 k
  | 0 => rfl
  | k + 1 => by
    show num (a ++ b) a.size k * 256 + bt (a ++ b) (a.size + k) = num b 0 k * 256 + bt b (0 + k)
    rw [num_right a b k, bt_right a b (by omega)]
    congr 2
    omega

theorem be_get : ∀ (w : Nat) (x : Int) (j : Nat) (h : j < (be w x).length), ((be w x)[j].toNat : Int) = sh x (w - 1 - j) % 256
  | 0, _, j, h => by simp [be] at h
  | w + 1, x, 0, _ => by
    simp [be]
    omega
  | w + 1, x, j + 1, h => by
    have h' : j < (be w x).length := by simp [be] at h; exact h
    have e : (be (w + 1) x)[j + 1] = (be w x)[j] := by simp [be]
    rw [e, be_get w x j h', show w + 1 - 1 - (j + 1) = w - 1 - j by omega]
theorem bt_be {w j : Nat} (x : Int) (h : j < w) : bt (beB w x) j = sh x (w - 1 - j) % 256 := by
  have hl : j < (be w x).length := by rw [be_length]; exact h
  unfold bt
  rw [dif_pos (by rw [beB_size]; exact h)]
  exact be_get w x j hl

theorem sh_nonneg {x : Int} (h : 0 ≤ x) : ∀ i, 0 ≤ sh x i
  | 0 => h
  | i + 1 => by have := sh_nonneg h i; show 0 ≤ sh x i / 256; omega
theorem mod_more {y : Int} (h : 0 ≤ y) (P : Nat) : (y / 256 % (P : Int)) * 256 + y % 256 = y % ((P : Int) * 256) := by
  obtain ⟨Y, rfl⟩ := Int.eq_ofNat_of_zero_le h
  have e : Y / 256 % P * 256 + Y % 256 = Y % (P * 256) := by rw [Nat.mul_comm P, Nat.mod_mul]; omega
  have e2 : ((Y / 256 % P * 256 + Y % 256 : Nat) : Int) = ((Y % (P * 256) : Nat) : Int) := by rw [e]
  simpa [Int.natCast_emod, Int.natCast_mul] using e2
theorem num_be {w : Nat} {x : Int} (hx : 0 ≤ x) : ∀ k, k ≤ w → num (beB w x) 0 k = sh x (w - k) % ((256 ^ k : Nat) : Int)
  | 0, _ => by simp [num]
  | k + 1, h => by
    show num (beB w x) 0 k * 256 + bt (beB w x) (0 + k) = _
    have hs : sh x (w - k) = sh x (w - (k + 1)) / 256 := by
      rw [show w - k = (w - (k + 1)) + 1 by omega]; rfl
    rw [num_be hx k (by omega), Nat.zero_add, bt_be x (by omega), show w - 1 - k = w - (k + 1) by omega, hs, mod_more (sh_nonneg hx _), Nat.pow_succ, Int.natCast_mul]
    rfl
theorem num_whole {w : Nat} {x : Int} (hx : 0 ≤ x) : num (beB w x) 0 w = x % ((256 ^ w : Nat) : Int) := by
  rw [num_be hx w (Nat.le_refl _), Nat.sub_self]
  rfl

/-- The lowest bits are the lowest bytes. -/
theorem bits_whole {x : Int} (hx : 0 ≤ x) {w : Nat} (hw : w ≤ 8) : (bitsN x 0 (8 * (w : Int)) : Int) = x % ((256 ^ w : Nat) : Int) := by
  obtain ⟨X, rfl⟩ := Int.eq_ofNat_of_zero_le hx
  have e : bitsN (X : Int) 0 (8 * (w : Int)) = X % 256 ^ w := by
    have hc : cOf (8 * (w : Int)) = 8 * w := by unfold cOf; omega
    have hp : (256 : Nat) ^ w = 2 ^ (8 * w) := by rw [Nat.pow_mul]
    rw [hp]
    apply Nat.eq_of_testBit_eq
    intro j
    unfold bitsN
    rw [testBit_valN, hc, Nat.testBit_mod_two_pow]
    have e2 : gB (X : Int) 0 j = X.testBit j := by
      unfold gB bitB
      rw [Int.zero_add, Int.toNat_natCast, Int.toNat_natCast, decide_eq_true (show (0 : Int) ≤ (j : Int) by omega), Bool.true_and]
    rw [e2]
  rw [e]
  rfl

/-- A Get that goes well. -/
theorem get_ok {s : ByteArray} {a w : Nat} (h1 : 1 ≤ w) (h2 : w ≤ 8) (h3 : a + w ≤ s.size) :
    gE s (a : Int) (w : Int) = 0 ∧ gN s (a : Int) (w : Int) = num s a w ∧ gX s (a : Int) (w : Int) = ((a + w : Nat) : Int) := by
  obtain ⟨e1, e2, e3⟩ := g_ok (s := s) (at_ := (a : Int)) (width := (w : Int)) (by omega) (by omega)
  rw [Int.toNat_natCast, Int.toNat_natCast] at e2
  exact ⟨e1, e2, by omega⟩

/-- What is laid behind a beginning is read there. -/
theorem get_back {p r : ByteArray} {w : Nat} {x : Int} (hx : 0 ≤ x) (h1 : 1 ≤ w) (h2 : w ≤ 8) :
    gE (p ++ beB w x ++ r) (p.size : Int) (w : Int) = 0 ∧ gN (p ++ beB w x ++ r) (p.size : Int) (w : Int) = x % ((256 ^ w : Nat) : Int) ∧
      gX (p ++ beB w x ++ r) (p.size : Int) (w : Int) = (((p ++ beB w x).size : Nat) : Int) := by
  have hz : (p ++ beB w x).size = p.size + w := by rw [size_app, beB_size]
  obtain ⟨e1, e2, e3⟩ := get_ok (s := p ++ beB w x ++ r) (a := p.size) h1 h2 (by rw [size_app, hz]; omega)
  refine ⟨e1, ?_, ?_⟩
  · rw [e2, num_left _ _ _ _ (by rw [hz]; exact Nat.le_refl _), num_right, num_whole hx]
  · rw [e3, hz]

theorem extract_mid (p t r : ByteArray) : (p ++ t ++ r).extract p.size (p.size + t.size) = t := by
  apply ByteArray.ext
  rw [ByteArray.data_extract, ByteArray.data_append, ByteArray.data_append]
  have hp : p.size = p.data.size := rfl
  have ht : t.size = t.data.size := rfl
  have e1 : p.data.extract p.size (p.size + t.size) = #[] := by
    apply Array.eq_empty_of_size_eq_zero
    rw [Array.size_extract]
    omega
  have e2 : t.data.extract 0 t.size = t.data := by rw [ht]; exact Array.extract_size
  rw [hp, ht]
  simp [Array.extract_append]
  rw [e1, e2]
  simp

/-- A text laid behind a beginning is read there. -/
theorem text_back {p t r : ByteArray} (ht : t.size ≤ 65535) :
    xE (p ++ tB t ++ r) (p.size : Int) = 0 ∧ xB (p ++ tB t ++ r) (p.size : Int) = t ∧ xX (p ++ tB t ++ r) (p.size : Int) = (((p ++ tB t).size : Nat) : Int) := by
  have hb : tB t = beB 2 (t.size : Int) ++ t := (t_ok (by omega)).2
  have ha : p ++ tB t ++ r = p ++ beB 2 (t.size : Int) ++ (t ++ r) := by rw [hb]; simp [ByteArray.append_assoc]
  have hc : p ++ tB t ++ r = p ++ beB 2 (t.size : Int) ++ t ++ r := by rw [hb]; simp [ByteArray.append_assoc]
  have hz : (p ++ beB 2 (t.size : Int)).size = p.size + 2 := by rw [size_app, beB_size]
  obtain ⟨e1, e2, e3⟩ := get_back (p := p) (r := t ++ r) (w := 2) (x := (t.size : Int)) (by omega) (by omega) (by omega)
  rw [← ha] at e1 e2 e3
  have e2' : gN (p ++ tB t ++ r) (p.size : Int) 2 = (t.size : Int) := by
    have h : gN (p ++ tB t ++ r) (p.size : Int) ((2 : Nat) : Int) = (t.size : Int) := by rw [e2]; simp; omega
    exact h
  have e1' : gE (p ++ tB t ++ r) (p.size : Int) 2 = 0 := e1
  have e3' : gX (p ++ tB t ++ r) (p.size : Int) 2 = (((p ++ beB 2 (t.size : Int)).size : Nat) : Int) := e3
  have hs : (p ++ tB t ++ r).size = p.size + 2 + t.size + r.size := by rw [hc, size_app, size_app, hz]
  obtain ⟨f1, f2, f3⟩ := x_ok e1' (by rw [e2', e3', hz, hs]; omega)
  refine ⟨f1, ?_, ?_⟩
  · rw [f2, e2', e3', Int.toNat_natCast, Int.toNat_natCast, hc]
    exact extract_mid _ _ _
  · rw [f3, e2', e3', hz, hb, size_app, size_app, beB_size]
    omega

end Go.Proofs.Ytaojoecmbgmhoaa.M

namespace Go.Proofs.Ytaojoecmbgmhoaa.M

/-- Noughts. -/
def zz (n : Nat) : ByteArray := ⟨(List.replicate n (0 : UInt8)).toArray⟩
theorem zz_size (n : Nat) : (zz n).size = n := by
  show (List.replicate n (0 : UInt8)).toArray.size = n
  simp
theorem zz_succ (n : Nat) : zz n ++ ⟨#[0]⟩ = zz (n + 1) := by
  apply ByteArray.ext
  rw [ByteArray.data_append]
  show (List.replicate n (0 : UInt8)).toArray ++ [(0 : UInt8)].toArray = (List.replicate (n + 1) (0 : UInt8)).toArray
  rw [List.replicate_succ', ← List.append_toArray]

theorem app_none (a : ByteArray) : a ++ zz 0 = a := by
  apply ByteArray.ext
  simp [zz]

/-- What stands ahead of a cell's data. -/
def hdr (g i : Int) (n : Nat) : ByteArray := beB 6 g ++ beB 2 i ++ beB 1 (n : Int)
theorem hdr_size (g i : Int) (n : Nat) : (hdr g i n).size = 9 := by
  unfold hdr
  rw [size_app, size_app, beB_size, beB_size, beB_size]
/-- The sector of a cell. -/
def sec (g i : Int) (d : ByteArray) : ByteArray := hdr g i d.size ++ d ++ zz (55 - d.size)
theorem sec_size {g i : Int} {d : ByteArray} (h : d.size ≤ 55) : (sec g i d).size = 64 := by
  unfold sec
  rw [size_app, size_app, hdr_size, zz_size]
  omega

/-- Within the bounds. -/
@[reducible] def Wt (g i : Int) : Prop := 1 ≤ g ∧ g ≤ 281474976710655 ∧ 0 ≤ i ∧ i ≤ 65535
/-- The error of a Make; 0: none. -/
def mE (g i : Int) (d : ByteArray) : Int := if Wt g i then if 55 < d.size then 5 else 0 else 2
def mB (g i : Int) (d : ByteArray) : ByteArray := if mE g i d = 0 then sec g i d else ⟨#[]⟩
theorem m_arg {g i : Int} {d : ByteArray} (h : ¬ Wt g i) : mE g i d = 2 ∧ mB g i d = ⟨#[]⟩ := by
  have e : mE g i d = 2 := if_neg h
  unfold mB
  rw [e]
  exact ⟨rfl, rfl⟩
theorem m_long {g i : Int} {d : ByteArray} (h : Wt g i) (h2 : 55 < d.size) : mE g i d = 5 ∧ mB g i d = ⟨#[]⟩ := by
  have e : mE g i d = 5 := by unfold mE; rw [if_pos h, if_pos h2]
  unfold mB
  rw [e]
  exact ⟨rfl, rfl⟩
theorem m_ok {g i : Int} {d : ByteArray} (h : Wt g i) (h2 : ¬ 55 < d.size) : mE g i d = 0 ∧ mB g i d = sec g i d := by
  have e : mE g i d = 0 := by unfold mE; rw [if_pos h, if_neg h2]
  unfold mB
  rw [e]
  exact ⟨rfl, rfl⟩

/-- The parts that a sector tells. -/
def pG (s : ByteArray) : Int := num s 0 6
def pI (s : ByteArray) : Int := num s 6 2
def pN (s : ByteArray) : Nat := (bt s 8).toNat
def pD (s : ByteArray) : ByteArray := s.extract 9 (9 + pN s)
/-- Whether a sector is a cell's. -/
def pOk (s : ByteArray) : Bool := decide (s.size = 64 ∧ pN s ≤ 55 ∧ mE (pG s) (pI s) (pD s) = 0 ∧ sec (pG s) (pI s) (pD s) = s)
def cG (s : ByteArray) : Int := if pOk s = true then pG s else 0
def cI (s : ByteArray) : Int := if pOk s = true then pI s else 0
def cD (s : ByteArray) : ByteArray := if pOk s = true then pD s else ⟨#[]⟩

theorem pG_range (s : ByteArray) : 0 ≤ pG s ∧ pG s ≤ 281474976710655 := by
  have h := num_range s 0 6
  have e : (256 : Int) ^ 6 = 281474976710656 := by decide
  unfold pG
  omega
theorem pI_range (s : ByteArray) : 0 ≤ pI s ∧ pI s ≤ 65535 := by
  have h := num_range s 6 2
  have e : (256 : Int) ^ 2 = 65536 := by decide
  unfold pI
  omega
theorem pN_int (s : ByteArray) : (pN s : Int) = bt s 8 := by
  have := bt_range s 8
  unfold pN
  omega
theorem pN_num (s : ByteArray) : num s 8 1 = (pN s : Int) := by
  rw [pN_int]
  show 0 * 256 + bt s (8 + 0) = _
  simp
theorem pD_size {s : ByteArray} (h : s.size = 64) (h2 : pN s ≤ 55) : (pD s).size = pN s := by
  unfold pD
  rw [ByteArray.size_extract]
  omega
theorem p_of {s : ByteArray} (h : pOk s = true) : s.size = 64 ∧ pN s ≤ 55 ∧ Wt (pG s) (pI s) ∧ sec (pG s) (pI s) (pD s) = s ∧ (pD s).size ≤ 55 := by
  obtain ⟨h1, h2, h3, h4⟩ := of_decide_eq_true h
  refine ⟨h1, h2, ?_, h4, by rw [pD_size h1 h2]; exact h2⟩
  apply Classical.byContradiction
  intro c
  rw [(m_arg (d := pD s) c).1] at h3
  cases h3
theorem p_no {s : ByteArray} (h : pOk s = false) : cG s = 0 ∧ cI s = 0 ∧ cD s = ⟨#[]⟩ := by
  unfold cG cI cD
  rw [h]
  exact ⟨rfl, rfl, rfl⟩
theorem p_yes {s : ByteArray} (h : pOk s = true) : cG s = pG s ∧ cI s = pI s ∧ cD s = pD s := by
  unfold cG cI cD
  rw [h]
  exact ⟨rfl, rfl, rfl⟩
theorem cD_size (s : ByteArray) : (cD s).size ≤ 55 := by
  cases h : pOk s with
  | true => rw [(p_yes h).2.2]; exact (p_of h).2.2.2.2
  | false => rw [(p_no h).2.2]; decide
theorem cG_range (s : ByteArray) : 0 ≤ cG s ∧ cG s ≤ 281474976710655 := by
  cases h : pOk s with
  | true => rw [(p_yes h).1]; exact pG_range s
  | false => rw [(p_no h).1]; decide
theorem cI_range (s : ByteArray) : 0 ≤ cI s ∧ cI s ≤ 65535 := by
  cases h : pOk s with
  | true => rw [(p_yes h).2.1]; exact pI_range s
  | false => rw [(p_no h).2.1]; decide
/-- Why a sector isn't one. -/
theorem p_short {s : ByteArray} (h : ¬ s.size = 64) : pOk s = false := decide_eq_false fun c => h c.1
theorem p_big {s : ByteArray} (h : ¬ pN s ≤ 55) : pOk s = false := decide_eq_false fun c => h c.2.1
theorem p_err {s : ByteArray} (h : ¬ mE (pG s) (pI s) (pD s) = 0) : pOk s = false := decide_eq_false fun c => h c.2.2.1
theorem p_other {s : ByteArray} (h : ¬ sec (pG s) (pI s) (pD s) = s) : pOk s = false := decide_eq_false fun c => h c.2.2.2
theorem p_mk {s : ByteArray} (h1 : s.size = 64) (h2 : pN s ≤ 55) (h3 : mE (pG s) (pI s) (pD s) = 0) (h4 : sec (pG s) (pI s) (pD s) = s) : pOk s = true := decide_eq_true ⟨h1, h2, h3, h4⟩

/-- A cell is read back from its sector. -/
theorem sec_back {g i : Int} {d : ByteArray} (h : Wt g i) (hd : d.size ≤ 55) : pOk (sec g i d) = true ∧ pG (sec g i d) = g ∧ pI (sec g i d) = i ∧ pD (sec g i d) = d := by
  obtain ⟨h1, h2, h3, h4⟩ := h
  have hz := sec_size (g := g) (i := i) hd
  have e0 : sec g i d = beB 6 g ++ (beB 2 i ++ (beB 1 (d.size : Int) ++ (d ++ zz (55 - d.size)))) := by
    unfold sec hdr
    simp [ByteArray.append_assoc]
  have e1 : sec g i d = beB 6 g ++ beB 2 i ++ (beB 1 (d.size : Int) ++ (d ++ zz (55 - d.size))) := by
    rw [e0]
    simp [ByteArray.append_assoc]
  have e2 : sec g i d = (beB 6 g ++ beB 2 i) ++ beB 1 (d.size : Int) ++ (d ++ zz (55 - d.size)) := by
    rw [e0]
    simp [ByteArray.append_assoc]
  have z8 : (beB 6 g ++ beB 2 i).size = 8 := by rw [size_app, beB_size, beB_size]
  have a1 : pG (sec g i d) = g := by
    unfold pG
    rw [e0, num_left _ _ _ _ (by rw [beB_size]; exact Nat.le_refl _), num_whole (by omega)]
    have : ((256 ^ 6 : Nat) : Int) = 281474976710656 := by decide
    rw [this]
    omega
  have a2 : pI (sec g i d) = i := by
    have z6 := beB_size 6 g
    unfold pI
    have := num_right (beB 6 g) (beB 2 i ++ (beB 1 (d.size : Int) ++ (d ++ zz (55 - d.size)))) 2
    rw [z6, ← e0] at this
    rw [this, num_left _ _ _ _ (by rw [beB_size]; exact Nat.le_refl _), num_whole (by omega)]
    have : ((256 ^ 2 : Nat) : Int) = 65536 := by decide
    rw [this]
    omega
  have a3 : pN (sec g i d) = d.size := by
    have hn := pN_num (sec g i d)
    have := num_right (beB 6 g ++ beB 2 i) (beB 1 (d.size : Int) ++ (d ++ zz (55 - d.size))) 1
    rw [z8, ← e1] at this
    rw [this, num_left _ _ _ _ (by rw [beB_size]; exact Nat.le_refl _), num_whole (by omega)] at hn
    have : ((256 ^ 1 : Nat) : Int) = 256 := by decide
    rw [this] at hn
    omega
  have a4 : pD (sec g i d) = d := by
    unfold pD
    rw [a3]
    have := extract_mid (hdr g i d.size) d (zz (55 - d.size))
    rw [hdr_size] at this
    exact this
  refine ⟨p_mk hz (by omega) ?_ ?_, a1, a2, a4⟩
  · rw [a1, a2, a4]
    exact (m_ok ⟨h1, h2, h3, h4⟩ (by omega)).1
  · rw [a1, a2, a4]

/-- A piece of data. -/
def pc (d : ByteArray) (j : Nat) : ByteArray := d.extract (55 * j) (min (55 * j + 55) d.size)
/-- What is left of data. -/
def rs (d : ByteArray) (j : Nat) : ByteArray := d.extract (55 * j) d.size
theorem pc_size (d : ByteArray) (j : Nat) : (pc d j).size = min (55 * j + 55) d.size - 55 * j := by
  unfold pc
  rw [ByteArray.size_extract]
  omega
theorem pc_le (d : ByteArray) (j : Nat) : (pc d j).size ≤ 55 := by
  rw [pc_size]
  omega
theorem rs_size (d : ByteArray) (j : Nat) : (rs d j).size = d.size - 55 * j := by
  unfold rs
  rw [ByteArray.size_extract]
  omega
theorem rs_zero (d : ByteArray) : rs d 0 = d := by
  unfold rs
  exact ByteArray.extract_zero_size
theorem ext_ext (d : ByteArray) {a b i j : Nat} (hj : a + j ≤ b) : (d.extract a b).extract i j = d.extract (a + i) (a + j) := by
  apply ByteArray.ext
  rw [ByteArray.data_extract, ByteArray.data_extract, ByteArray.data_extract, Array.extract_extract]
  rw [Nat.min_eq_left hj]
theorem rs_pc {d : ByteArray} {j : Nat} (h : 55 * j + 55 ≤ d.size) : (rs d j).extract 0 55 = pc d j := by
  unfold rs pc
  rw [ext_ext d h, Nat.min_eq_left h, Nat.add_zero]
theorem rs_succ {d : ByteArray} {j : Nat} (h : 55 * j + 55 ≤ d.size) : (rs d j).extract 55 (rs d j).size = rs d (j + 1) := by
  rw [rs_size]
  unfold rs
  rw [ext_ext d (by omega), show 55 * j + 55 = 55 * (j + 1) by omega, show 55 * j + (d.size - 55 * j) = d.size by omega]
theorem rs_last {d : ByteArray} {j : Nat} (h : d.size < 55 * j + 55) : rs d j = pc d j := by
  unfold rs pc
  rw [Nat.min_eq_right (by omega)]
theorem ext_app (d : ByteArray) {a b c : Nat} (h1 : a ≤ b) (h2 : b ≤ c) : d.extract a b ++ d.extract b c = d.extract a c := by
  apply ByteArray.ext
  rw [ByteArray.data_append, ByteArray.data_extract, ByteArray.data_extract, ByteArray.data_extract, Array.extract_append_extract, Nat.min_eq_left h1, Nat.max_eq_right h2]
theorem pc_rs {d : ByteArray} {j : Nat} (h : 55 * j + 55 ≤ d.size) : pc d j ++ rs d (j + 1) = rs d j := by
  unfold pc rs
  rw [Nat.min_eq_left h, show 55 * (j + 1) = 55 * j + 55 by omega]
  exact ext_app d (by omega) h

/-- The sectors of data. -/
def sp (g f : Int) (d : ByteArray) (j : Nat) : ByteArray := sec g (f + (j : Int)) (pc d j)
/-- The first n of them as values. -/
def spv (g f : Int) (d : ByteArray) (n : Nat) : List Value := (List.range n).map fun j => .string (sp g f d j)
theorem spv_succ (g f : Int) (d : ByteArray) (n : Nat) : spv g f d (n + 1) = spv g f d n ++ [.string (sp g f d n)] := by
  unfold spv
  rw [List.range_succ, List.map_append]
  rfl
theorem spv_length (g f : Int) (d : ByteArray) (n : Nat) : (spv g f d n).length = n := by simp [spv]
theorem spv_get (g f : Int) (d : ByteArray) {n j : Nat} (h : j < n) : (spv g f d n)[j]? = some (.string (sp g f d j)) := by
  unfold spv
  rw [List.getElem?_map, List.getElem?_range h]
  rfl
/-- The error of a Split. -/
def sE (g f : Int) (d : ByteArray) : Int := if Wt g f then if 65535 - f < ((d.size / 55 : Nat) : Int) then 5 else 0 else 2
/-- How many sectors. -/
def sN (g f : Int) (d : ByteArray) : Nat := if sE g f d = 0 then d.size / 55 + 1 else 0

/-- Whether a sector is a cell of the generation, at its place. -/
def jOk (y : Nat → ByteArray) (g : Int) (k : Nat) : Bool := pOk (y k) && (pG (y k) == g && pI (y k) == (k : Int))
/-- What sectors hold together, from the k-th on, of which there are m. -/
def jn (y : Nat → ByteArray) (g : Int) : Nat → Nat → ByteArray
  | _, 0 => ⟨#[]⟩
  | k, m + 1 => if jOk y g k = true then if (pD (y k)).size < 55 then pD (y k) else pD (y k) ++ jn y g (k + 1) m else ⟨#[]⟩
theorem jn_no {y : Nat → ByteArray} {g : Int} {k m : Nat} (h : jOk y g k = false) : jn y g k m = ⟨#[]⟩ := by
  cases m with
  | zero => rfl
  | succ m =>
    show (if jOk y g k = true then _ else _) = _
    rw [h]
    rfl
theorem jn_end {y : Nat → ByteArray} {g : Int} {k m : Nat} (h : jOk y g k = true) (hs : (pD (y k)).size < 55) : jn y g k (m + 1) = pD (y k) := by
  show (if jOk y g k = true then _ else _) = _
  rw [if_pos h, if_pos hs]
theorem jn_on {y : Nat → ByteArray} {g : Int} {k m : Nat} (h : jOk y g k = true) (hs : ¬ (pD (y k)).size < 55) : jn y g k (m + 1) = pD (y k) ++ jn y g (k + 1) m := by
  show (if jOk y g k = true then _ else _) = _
  rw [if_pos h, if_neg hs]
theorem j_of {y : Nat → ByteArray} {g : Int} {k : Nat} (h : jOk y g k = true) : pOk (y k) = true ∧ pG (y k) = g ∧ pI (y k) = (k : Int) := by
  unfold jOk at h
  simp only [Bool.and_eq_true, beq_iff_eq] at h
  exact h
theorem j_mk {y : Nat → ByteArray} {g : Int} {k : Nat} (h1 : pOk (y k) = true) (h2 : pG (y k) = g) (h3 : pI (y k) = (k : Int)) : jOk y g k = true := by
  unfold jOk
  simp only [Bool.and_eq_true, beq_iff_eq]
  exact ⟨h1, h2, h3⟩
theorem jn_size (y : Nat → ByteArray) (g : Int) : ∀ m k, (jn y g k m).size ≤ 55 * m
  | 0, _ => Nat.le_refl _
  | m + 1, k => by
    cases c : jOk y g k with
    | false => rw [jn_no c]; exact Nat.zero_le _
    | true =>
      have h := (p_of (j_of c).1).2.2.2.2
      by_cases hs : (pD (y k)).size < 55
      · rw [jn_end c hs]; omega
      · rw [jn_on c hs, size_app]
        have := jn_size y g m (k + 1)
        omega
theorem app_nil (a : ByteArray) : a ++ ⟨#[]⟩ = a := by
  apply ByteArray.ext
  simp
theorem nil_app (a : ByteArray) : (⟨#[]⟩ : ByteArray) ++ a = a := by
  apply ByteArray.ext
  simp
/-- A sector of data is a cell of its generation, at its place. -/
theorem sp_back {g : Int} {d : ByteArray} {j : Nat} (hg : 1 ≤ g ∧ g ≤ 281474976710655) (hj : j ≤ 65535) : pOk (sp g 0 d j) = true ∧ pG (sp g 0 d j) = g ∧ pI (sp g 0 d j) = (j : Int) ∧ pD (sp g 0 d j) = pc d j := by
  obtain ⟨h1, h2, h3, h4⟩ := sec_back (g := g) (i := 0 + (j : Int)) (d := pc d j) ⟨hg.1, hg.2, by omega, by omega⟩ (pc_le d j)
  exact ⟨h1, h2, by unfold sp; rw [h3]; omega, h4⟩
theorem sp_jOk {y : Nat → ByteArray} {g : Int} {d : ByteArray} {j : Nat} (hg : 1 ≤ g ∧ g ≤ 281474976710655) (hj : j ≤ 65535) (h : y j = sp g 0 d j) : jOk y g j = true ∧ pD (y j) = pc d j := by
  obtain ⟨h1, h2, h3, h4⟩ := sp_back (d := d) hg hj
  exact ⟨j_mk (by rw [h]; exact h1) (by rw [h]; exact h2) (by rw [h]; exact h3), by rw [h]; exact h4⟩
/-- The sectors of data hold it together, whatever stands behind them. -/
theorem jn_back {y : Nat → ByteArray} {g : Int} {d : ByteArray} (hg : 1 ≤ g ∧ g ≤ 281474976710655) (hn : d.size / 55 ≤ 65535) (h : ∀ j, j ≤ d.size / 55 → y j = sp g 0 d j) (t : Nat) :
    ∀ r k, k + r = d.size / 55 → jn y g k (r + t + 1) = rs d k
  | 0, k, e => by
    obtain ⟨h1, h2⟩ := sp_jOk hg (by omega) (h k (by omega))
    rw [jn_end h1 (by rw [h2, pc_size]; omega), h2, rs_last (by omega)]
  | r + 1, k, e => by
    obtain ⟨h1, h2⟩ := sp_jOk hg (by omega) (h k (by omega))
    rw [jn_on h1 (by rw [h2, pc_size]; omega), h2, show r + 1 + t = r + t + 1 by omega, jn_back hg hn h t r (k + 1) (by omega), pc_rs (by omega)]
/-- Up to the first that is none, a beginning of the data. -/
theorem jn_lost {y : Nat → ByteArray} {g : Int} {d : ByteArray} (hg : 1 ≤ g ∧ g ≤ 281474976710655) (hn : d.size / 55 ≤ 65535) {f : Nat} (hf : f ≤ d.size / 55) (h : ∀ j, j < f → y j = sp g 0 d j) (hx : jOk y g f = false) (t : Nat) :
    ∀ r k, k + r = f → jn y g k (r + t) = d.extract (55 * k) (55 * f)
  | 0, k, e => by
    obtain rfl : k = f := by omega
    rw [jn_no hx]
    symm
    apply ByteArray.ext
    apply Array.eq_empty_of_size_eq_zero
    show (d.extract (55 * k) (55 * k)).size = 0
    rw [ByteArray.size_extract]
    omega
  | r + 1, k, e => by
    obtain ⟨h1, h2⟩ := sp_jOk hg (by omega) (h k (by omega))
    rw [show r + 1 + t = (r + t) + 1 by omega, jn_on h1 (by rw [h2, pc_size]; omega), h2, jn_lost hg hn hf h hx t r (k + 1) (by omega)]
    unfold pc
    rw [Nat.min_eq_left (by omega), show 55 * (k + 1) = 55 * k + 55 by omega]
    exact ext_app d (by omega) (by omega)

/-- The newest generation of the first k sectors. -/
def nw (y : Nat → ByteArray) : Nat → Int
  | 0 => 0
  | k + 1 => if pOk (y k) = true then max (nw y k) (pG (y k)) else nw y k
theorem nw_yes {y : Nat → ByteArray} {k : Nat} (h : pOk (y k) = true) : nw y (k + 1) = max (nw y k) (pG (y k)) := if_pos h
theorem nw_no {y : Nat → ByteArray} {k : Nat} (h : pOk (y k) = false) : nw y (k + 1) = nw y k := by
  show (if pOk (y k) = true then _ else _) = _
  rw [h]
  rfl
theorem nw_range (y : Nat → ByteArray) : ∀ k, 0 ≤ nw y k ∧ nw y k ≤ 281474976710655
  | 0 => by
    show (0 : Int) ≤ 0 ∧ (0 : Int) ≤ 281474976710655
    decide
  | k + 1 => by
    have h := nw_range y k
    have h2 := pG_range (y k)
    cases c : pOk (y k) with
    | false => rw [nw_no c]; exact h
    | true => rw [nw_yes c]; omega
theorem nw_mono (y : Nat → ByteArray) (k : Nat) : nw y k ≤ nw y (k + 1) := by
  cases c : pOk (y k) with
  | false => rw [nw_no c]; exact Int.le_refl _
  | true => rw [nw_yes c]; omega
theorem nw_ge {y : Nat → ByteArray} {k : Nat} (h : pOk (y k) = true) : ∀ n, k < n → pG (y k) ≤ nw y n
  | 0, hk => by omega
  | n + 1, hk => by
    by_cases c : k = n
    · subst c
      rw [nw_yes h]
      omega
    · have := nw_ge h n (by omega)
      have := nw_mono y n
      omega
theorem nw_all {y : Nat → ByteArray} {g : Int} (hg : 0 ≤ g) : ∀ n, (∀ j, j < n → pOk (y j) = true ∧ pG (y j) = g) → 0 < n → nw y n = g
  | 0, _, h => by omega
  | n + 1, h, _ => by
    obtain ⟨h1, h2⟩ := h n (by omega)
    rw [nw_yes h1, h2]
    by_cases c : n = 0
    · subst c
      show max 0 g = g
      omega
    · rw [nw_all hg n (fun j hj => h j (by omega)) (by omega)]
      omega

end Go.Proofs.Ytaojoecmbgmhoaa.M

namespace Go.Proofs.Ytaojoecmbgmhoaa.M

/-- The state behind one bit. -/
def stp (c b : Nat) : Nat := if c % 2 = b % 2 then c / 2 else c / 2 ^^^ 2197175160
/-- The state behind the i lowest bits of a byte. -/
def cb (c x : Nat) : Nat → Nat
  | 0 => c
  | i + 1 => stp (cb c x i) (x / 2 ^ i)
/-- The byte at a place, as a Nat. -/
def bn (s : ByteArray) (j : Nat) : Nat := (bt s j).toNat
theorem bn_int (s : ByteArray) (j : Nat) : (bn s j : Int) = bt s j := by have := (bt_range s j).1; unfold bn; omega
theorem bn_lt (s : ByteArray) (j : Nat) : bn s j < 256 := by have := bt_range s j; unfold bn; omega
/-- The state behind i bytes of a text. -/
def ct (c : Nat) (s : ByteArray) : Nat → Nat
  | 0 => c
  | i + 1 => cb (ct c s i) (bn s i) 8
/-- The check sum of a text. -/
def crc (s : ByteArray) : Nat := 4294967295 - ct 4294967295 s s.size

theorem xor_lt {a b : Nat} (h1 : a < 4294967296) (h2 : b < 4294967296) : a ^^^ b < 4294967296 := Nat.xor_lt_two_pow (n := 32) h1 h2
theorem stp_lt {c : Nat} (b : Nat) (h : c < 4294967296) : stp c b < 4294967296 := by
  unfold stp
  split
  · omega
  · exact xor_lt (by omega) (by decide)
theorem cb_lt {c : Nat} (x : Nat) (h : c < 4294967296) : ∀ i, cb c x i < 4294967296
  | 0 => h
  | i + 1 => stp_lt _ (cb_lt x h i)
theorem ct_lt {c : Nat} (s : ByteArray) (h : c < 4294967296) : ∀ i, ct c s i < 4294967296
  | 0 => h
  | i + 1 => cb_lt _ (ct_lt s h i) 8
theorem crc_lt (s : ByteArray) : crc s < 4294967296 := by unfold crc; omega

theorem not_u32 (x : Int) (h0 : 0 ≤ x) (h1 : x < 4294967296) :
    bits .xor .u32 IntKind.u32.max x = 4294967295 - x := by
  obtain ⟨a, rfl⟩ := Int.eq_ofNat_of_zero_le h0
  have ha : a < 4294967296 := by omega
  have e0 : IntKind.u32.max = 4294967295 := by decide
  rw [e0]
  show IntKind.u32.wrap ((BitVec.ofInt 32 (4294967295) ^^^ BitVec.ofInt 32 (a : Int)).toNat : Int) = _
  have e : BitVec.ofInt 32 (4294967295) = BitVec.allOnes 32 := by decide
  rw [e, BitVec.allOnes_xor, BitVec.toNat_not, ofInt_u32 a ha, IntKind.wrap_u32]
  omega

theorem xor_mod2 (a b : Nat) : (a ^^^ b) % 2 = (a + b) % 2 := by
  have h := Nat.testBit_xor a b 0
  rw [Nat.testBit_zero, Nat.testBit_zero, Nat.testBit_zero] at h
  generalize hx : (a ^^^ b) = x at h ⊢
  rcases (show a % 2 = 0 ∨ a % 2 = 1 by omega) with ha | ha <;> rcases (show b % 2 = 0 ∨ b % 2 = 1 by omega) with hb | hb <;> rcases (show x % 2 = 0 ∨ x % 2 = 1 by omega) with hc | hc <;> rw [ha, hb, hc] at h <;> first | omega | exact absurd h (by decide)

/-- The bit that the code looks at. -/
theorem out_bit {c y : Nat} (h1 : c < 4294967296) (h2 : y < 4294967296) : bits .and .u32 (bits .xor .u32 (c : Int) (y : Int)) 1 = if c % 2 = y % 2 then 0 else 1 := by
  rw [u32_xor_nat c y h1 h2]
  rw [u32_and _ 1 (by omega) (by have := xor_lt h1 h2; omega) (by decide) (by decide)]
  have : (1 : Int).toNat = 1 := rfl
  rw [this, nat_mask1, Int.toNat_natCast, xor_mod2]
  split <;> omega
theorem out_same {c y : Nat} (h1 : c < 4294967296) (h2 : y < 4294967296) (h : c % 2 = y % 2) : bits .and .u32 (bits .xor .u32 (c : Int) (y : Int)) 1 = 0 := by rw [out_bit h1 h2, if_pos h]
theorem out_other {c y : Nat} (h1 : c < 4294967296) (h2 : y < 4294967296) (h : ¬ c % 2 = y % 2) : bits .and .u32 (bits .xor .u32 (c : Int) (y : Int)) 1 = 1 := by rw [out_bit h1 h2, if_neg h]
theorem stp_same {c b : Nat} (h : c % 2 = b % 2) : ((stp c b : Nat) : Int) = (c : Int) / 2 := by unfold stp; rw [if_pos h]; omega
theorem stp_other {c b : Nat} (h1 : c < 4294967296) (h : ¬ c % 2 = b % 2) : ((stp c b : Nat) : Int) = bits .xor .u32 ((c : Int) / 2) 2197175160 := by
  unfold stp
  rw [if_neg h, show (c : Int) / 2 = ((c / 2 : Nat) : Int) by omega]
  exact (u32_xor_nat (c / 2) 2197175160 (by omega) (by decide)).symm

/-- A text behind another one. -/
theorem ct_left (c : Nat) (a b : ByteArray) : ∀ i, i ≤ a.size → ct c (a ++ b) i = ct c a i
  | 0, _ => rfl
  | i + 1, h => by
    show cb (ct c (a ++ b) i) (bn (a ++ b) i) 8 = cb (ct c a i) (bn a i) 8
    rw [ct_left c a b i (by omega)]
    unfold bn
    rw [bt_left b (by omega)]
theorem ct_right (c : Nat) (a b : ByteArray) : ∀ i, ct c (a ++ b) (a.size + i) = ct (ct c a a.size) b i
  | 0 => ct_left c a b a.size (Nat.le_refl _)
  | i + 1 => by
    show cb (ct c (a ++ b) (a.size + i)) (bn (a ++ b) (a.size + i)) 8 = cb (ct (ct c a a.size) b i) (bn b i) 8
    rw [ct_right c a b i]
    unfold bn
    rw [bt_right a b (by omega), Nat.add_sub_cancel_left]
theorem ct_app (c : Nat) (a b : ByteArray) : ct c (a ++ b) (a ++ b).size = ct (ct c a a.size) b b.size := by
  rw [size_app]
  exact ct_right c a b b.size

/-- Unlike states stay unlike behind the same bit. -/
theorem stp_inj {c d b : Nat} (hc : c < 4294967296) (hd : d < 4294967296) (h : stp c b = stp d b) : c = d := by
  have key : ∀ x : Nat, x < 2147483648 → 2147483648 ≤ x ^^^ 2197175160 := fun x hx => by
    have h1 : (x ^^^ 2197175160).testBit 31 = true := by
      rw [Nat.testBit_xor, Nat.testBit_lt_two_pow (x := x) (i := 31) hx]
      decide
    exact Nat.ge_two_pow_of_testBit h1
  unfold stp at h
  by_cases h1 : c % 2 = b % 2
  · by_cases h2 : d % 2 = b % 2
    · rw [if_pos h1, if_pos h2] at h; omega
    · rw [if_pos h1, if_neg h2] at h
      have := key (d / 2) (by omega)
      omega
  · by_cases h2 : d % 2 = b % 2
    · rw [if_neg h1, if_pos h2] at h
      have := key (c / 2) (by omega)
      omega
    · rw [if_neg h1, if_neg h2] at h
      have h3 : (c / 2 ^^^ 2197175160) ^^^ 2197175160 = (d / 2 ^^^ 2197175160) ^^^ 2197175160 := by rw [h]
      rw [Nat.xor_assoc, Nat.xor_assoc, Nat.xor_self, Nat.xor_zero, Nat.xor_zero] at h3
      omega
theorem cb_inj {c d x : Nat} (hc : c < 4294967296) (hd : d < 4294967296) : ∀ i, cb c x i = cb d x i → c = d
  | 0, h => h
  | i + 1, h => cb_inj hc hd i (stp_inj (cb_lt x hc i) (cb_lt x hd i) h)
theorem ct_inj {c d : Nat} (s : ByteArray) (hc : c < 4294967296) (hd : d < 4294967296) : ∀ i, ct c s i = ct d s i → c = d
  | 0, h => h
  | i + 1, h => ct_inj s hc hd i (cb_inj (ct_lt s hc i) (ct_lt s hd i) 8 h)

end Go.Proofs.Ytaojoecmbgmhoaa.M

namespace Go.Proofs.Ytaojoecmbgmhoaa.M

/-- The error of a Put; 0: none. -/
def frE (b : ByteArray) : Int := if b.size = 0 then 2 else if 4096 < b.size then 5 else 0
/-- Two bytes that tell a length. -/
def two (b : ByteArray) : ByteArray := beB 2 (b.size : Int)
/-- The frame of a body of at least one and at most 4096 bytes. -/
def fr (b : ByteArray) : ByteArray := two b ++ beB 4 (crc (two b ++ b) : Int) ++ b
/-- The bytes of a Put. -/
def frB (b : ByteArray) : ByteArray := if frE b = 0 then fr b else ⟨#[]⟩
theorem two_size (b : ByteArray) : (two b).size = 2 := beB_size _ _
theorem fr_size (b : ByteArray) : (fr b).size = b.size + 6 := by
  unfold fr
  rw [size_app, size_app, two_size, beB_size]
  omega
theorem fr_none {b : ByteArray} (h : b.size = 0) : frE b = 2 ∧ frB b = ⟨#[]⟩ := by
  have e : frE b = 2 := by unfold frE; rw [if_pos h]
  exact ⟨e, by unfold frB; rw [e, if_neg (by decide)]⟩
theorem fr_long {b : ByteArray} (h0 : ¬ b.size = 0) (h : 4096 < b.size) : frE b = 5 ∧ frB b = ⟨#[]⟩ := by
  have e : frE b = 5 := by unfold frE; rw [if_neg h0, if_pos h]
  exact ⟨e, by unfold frB; rw [e, if_neg (by decide)]⟩
theorem fr_ok {b : ByteArray} (h0 : ¬ b.size = 0) (h : ¬ 4096 < b.size) : frE b = 0 ∧ frB b = fr b := by
  have e : frE b = 0 := by unfold frE; rw [if_neg h0, if_neg h]
  exact ⟨e, by unfold frB; rw [e, if_pos rfl]⟩

/-- The length that is told at a place. -/
def n2 (s : ByteArray) (A : Nat) : Nat := (num s A 2).toNat
/-- The check sum that is told there. -/
def n4 (s : ByteArray) (A : Nat) : Nat := (num s (A + 2) 4).toNat
theorem n2_int (s : ByteArray) (A : Nat) : (n2 s A : Int) = num s A 2 := by have := (num_range s A 2).1; unfold n2; omega
theorem n4_int (s : ByteArray) (A : Nat) : (n4 s A : Int) = num s (A + 2) 4 := by have := (num_range s (A + 2) 4).1; unfold n4; omega
theorem n2_lt (s : ByteArray) (A : Nat) : n2 s A < 65536 := by
  have := (num_range s A 2).2
  have e : (256 : Int) ^ 2 = 65536 := by decide
  have := n2_int s A
  omega
theorem n4_lt (s : ByteArray) (A : Nat) : n4 s A < 4294967296 := by
  have := (num_range s (A + 2) 4).2
  have e : (256 : Int) ^ 4 = 4294967296 := by decide
  have := n4_int s A
  omega
/-- The body that would stand there. -/
def bod (s : ByteArray) (A : Nat) : ByteArray := s.extract (A + 6) (A + 6 + n2 s A)
/-- Its check sum. -/
def chk (s : ByteArray) (A : Nat) : Nat := crc (s.extract A (A + 2) ++ bod s A)
/-- The error of a Get at a place ahead of at least two bytes; 0: none. -/
def qA (s : ByteArray) (A : Nat) : Int := if n2 s A = 0 then 13 else if 4096 < n2 s A then 5 else if s.size < A + 6 + n2 s A then 3 else if chk s A = n4 s A then 0 else 6
/-- The error of a Get; 0: none. -/
def qE (s : ByteArray) (at_ : Int) : Int := if gE s at_ 2 = 0 then qA s at_.toNat else gE s at_ 2
/-- The body of a Get. -/
def qB (s : ByteArray) (at_ : Int) : ByteArray := if qE s at_ = 0 then bod s at_.toNat else ⟨#[]⟩
/-- The place behind it. -/
def qX (s : ByteArray) (at_ : Int) : Int := if qE s at_ = 0 then ((at_.toNat + 6 + n2 s at_.toNat : Nat) : Int) else 0

theorem q_err {s : ByteArray} {at_ : Int} (h : ¬ qE s at_ = 0) : qB s at_ = ⟨#[]⟩ ∧ qX s at_ = 0 := by
  unfold qB qX
  rw [if_neg h, if_neg h]
  exact ⟨rfl, rfl⟩
theorem q_ok {s : ByteArray} {at_ : Int} (h : qE s at_ = 0) : qB s at_ = bod s at_.toNat ∧ qX s at_ = ((at_.toNat + 6 + n2 s at_.toNat : Nat) : Int) := by
  unfold qB qX
  rw [if_pos h, if_pos h]
  exact ⟨rfl, rfl⟩
/-- A Get of two bytes that goes well. -/
theorem g_place {s : ByteArray} {at_ : Int} (h : gE s at_ 2 = 0) : 0 ≤ at_ ∧ at_.toNat + 2 ≤ s.size := by
  by_cases c0 : (2 : Int) < 1 ∨ 8 < (2 : Int) ∨ at_ < 0 ∨ (s.size : Int) < at_
  · have := (g_arg c0).1; omega
  · by_cases c1 : (s.size : Int) - at_ < 2
    · have := (g_short c0 c1).1; omega
    · omega
theorem qA_val (s : ByteArray) (A : Nat) : (n2 s A = 0 → qA s A = 13) ∧ (¬ n2 s A = 0 → 4096 < n2 s A → qA s A = 5) ∧ (¬ n2 s A = 0 → ¬ 4096 < n2 s A → s.size < A + 6 + n2 s A → qA s A = 3) ∧
    (¬ n2 s A = 0 → ¬ 4096 < n2 s A → ¬ s.size < A + 6 + n2 s A → ¬ chk s A = n4 s A → qA s A = 6) ∧ (¬ n2 s A = 0 → ¬ 4096 < n2 s A → ¬ s.size < A + 6 + n2 s A → chk s A = n4 s A → qA s A = 0) := by
  unfold qA
  refine ⟨fun h => if_pos h, fun h h1 => ?_, fun h h1 h2 => ?_, fun h h1 h2 h3 => ?_, fun h h1 h2 h3 => ?_⟩
  · rw [if_neg h, if_pos h1]
  · rw [if_neg h, if_neg h1, if_pos h2]
  · rw [if_neg h, if_neg h1, if_neg h2, if_neg h3]
  · rw [if_neg h, if_neg h1, if_neg h2, if_pos h3]

end Go.Proofs.Ytaojoecmbgmhoaa.M

namespace Go.Proofs.Ytaojoecmbgmhoaa.M

/-- The place behind k frames. -/
def pl (s : ByteArray) : Nat → Nat
  | 0 => 0
  | k + 1 => pl s k + 6 + n2 s (pl s k)
/-- The body of frame k. -/
def bd (s : ByteArray) (k : Nat) : ByteArray := bod s (pl s k)
/-- The bodies of the first k frames, as values. -/
def bds (s : ByteArray) (k : Nat) : List Value := (List.range k).map fun j => .string (bd s j)
theorem bds_length (s : ByteArray) (k : Nat) : (bds s k).length = k := by simp [bds]
theorem bds_succ (s : ByteArray) (k : Nat) : bds s (k + 1) = bds s k ++ [.string (bd s k)] := by simp [bds, List.range_succ]
theorem bds_get {s : ByteArray} {k j : Nat} (h : j < k) : (bds s k)[j]? = some (.string (bd s j)) := by simp [bds, h]

/-- What a Get that goes well says of its place. -/
theorem q_place {s : ByteArray} {A : Nat} (h : qE s (A : Int) = 0) : 1 ≤ n2 s A ∧ n2 s A ≤ 4096 ∧ A + 6 + n2 s A ≤ s.size ∧ chk s A = n4 s A := by
  unfold qE at h
  by_cases c0 : gE s (A : Int) 2 = 0
  · rw [if_pos c0, Int.toNat_natCast] at h
    obtain ⟨v1, v2, v3, v4, v5⟩ := qA_val s A
    by_cases c1 : n2 s A = 0
    · have := v1 c1; omega
    · by_cases c2 : 4096 < n2 s A
      · have := v2 c1 c2; omega
      · by_cases c3 : s.size < A + 6 + n2 s A
        · have := v3 c1 c2 c3; omega
        · by_cases c4 : chk s A = n4 s A
          · exact ⟨by omega, by omega, by omega, c4⟩
          · have := v4 c1 c2 c3 c4; omega
  · rw [if_neg c0] at h
    exact absurd h c0
/-- When a Get goes well. -/
theorem q_well {s : ByteArray} {A : Nat} (h1 : 1 ≤ n2 s A) (h2 : n2 s A ≤ 4096) (h3 : A + 6 + n2 s A ≤ s.size) (h4 : chk s A = n4 s A) : qE s (A : Int) = 0 := by
  have c0 : gE s (A : Int) 2 = 0 := (get_ok (s := s) (a := A) (w := 2) (by omega) (by omega) (by omega)).1
  unfold qE
  rw [if_pos c0, Int.toNat_natCast]
  exact (qA_val s A).2.2.2.2 (by omega) (by omega) (by omega) h4

/-- k frames stand one behind the other. -/
def Up (s : ByteArray) (k : Nat) : Prop := ∀ j, j < k → qE s (pl s j : Int) = 0
/-- k frames stand one behind the other, and no more. -/
def Fst (s : ByteArray) (k : Nat) : Prop := Up s k ∧ ¬ qE s (pl s k : Int) = 0
theorem up_zero (s : ByteArray) : Up s 0 := fun j h => absurd h (Nat.not_lt_zero j)
theorem up_succ {s : ByteArray} {k : Nat} (h : Up s k) (h2 : qE s (pl s k : Int) = 0) : Up s (k + 1) := fun j hj => by
  by_cases c : j = k
  · rw [c]; exact h2
  · exact h j (by omega)
theorem fst_one {s : ByteArray} {a b : Nat} (ha : Fst s a) (hb : Fst s b) : a = b := by
  rcases Nat.lt_trichotomy a b with h | h | h
  · exact absurd (hb.1 a h) ha.2
  · exact h
  · exact absurd (ha.1 b h) hb.2
theorem pl_le {s : ByteArray} : ∀ {k : Nat}, Up s k → pl s k ≤ s.size ∧ 7 * k ≤ pl s k
  | 0, _ => ⟨Nat.zero_le _, Nat.zero_le _⟩
  | k + 1, h => by
    have h1 := pl_le (k := k) fun j hj => h j (by omega)
    have h2 := q_place (h k (by omega))
    show pl s k + 6 + n2 s (pl s k) ≤ s.size ∧ 7 * (k + 1) ≤ pl s k + 6 + n2 s (pl s k)
    omega
theorem bd_size (s : ByteArray) (k : Nat) : (bd s k).size ≤ s.size := by
  unfold bd bod
  rw [ByteArray.size_extract]
  omega

end Go.Proofs.Ytaojoecmbgmhoaa.M

namespace Go.Proofs.Ytaojoecmbgmhoaa.M

theorem app_empty (a : ByteArray) : a ++ ⟨#[]⟩ = a := by
  apply ByteArray.ext
  simp
theorem empty_app (a : ByteArray) : (⟨#[]⟩ : ByteArray) ++ a = a := by
  apply ByteArray.ext
  simp
/-- Frames, one behind the other. -/
def frs : List ByteArray → ByteArray
  | [] => ⟨#[]⟩
  | b :: l => fr b ++ frs l
theorem frs_app : ∀ (a b : List ByteArray), frs (a ++ b) = frs a ++ frs b
  | [], b => by simp [frs, empty_app]
  | x :: a, b => by
    show fr x ++ frs (a ++ b) = fr x ++ frs a ++ frs b
    rw [frs_app a b, ByteArray.append_assoc]
theorem frs_snoc (l : List ByteArray) (b : ByteArray) : frs (l ++ [b]) = frs l ++ fr b := by
  rw [frs_app]
  show frs l ++ (fr b ++ ⟨#[]⟩) = _
  rw [app_empty]
/-- Bodies that can be framed. -/
def Framable (l : List ByteArray) : Prop := ∀ b ∈ l, 1 ≤ b.size ∧ b.size ≤ 4096
theorem frs_size : ∀ (l : List ByteArray), Framable l → (frs l).size ≤ 4102 * l.length
  | [], _ => Nat.le_refl _
  | b :: l, h => by
    have h1 := frs_size l fun x hx => h x (List.mem_cons_of_mem _ hx)
    have h2 := h b (List.mem_cons_self ..)
    show (fr b ++ frs l).size ≤ 4102 * (l.length + 1)
    rw [size_app, fr_size]
    omega

theorem ext_mid {p t r : ByteArray} {n : Nat} (h : n = p.size + t.size) : (p ++ t ++ r).extract p.size n = t := by
  rw [h]
  exact extract_mid p t r

/-- Something laid as a frame at a place: a length, a check sum, a body. -/
theorem frame_at {p b x y r T : ByteArray} (hT : T = p ++ two b ++ x ++ y ++ r) (hx : x.size = 4) (hy : y.size = b.size) (hb : b.size < 65536) :
    n2 T p.size = b.size ∧ (n4 T p.size : Int) = num x 0 4 ∧ bod T p.size = y ∧ chk T p.size = crc (two b ++ y) ∧ p.size + 6 + b.size ≤ T.size := by
  have h2 := two_size b
  have e1 : T = p ++ two b ++ (x ++ y ++ r) := by rw [hT]; simp [ByteArray.append_assoc]
  have e2 : T = (p ++ two b) ++ x ++ (y ++ r) := by rw [hT]; simp [ByteArray.append_assoc]
  have e3 : T = (p ++ two b ++ x) ++ y ++ r := hT
  have z2 : (p ++ two b).size = p.size + 2 := by rw [size_app, h2]
  have z6 : (p ++ two b ++ x).size = p.size + 6 := by rw [size_app, z2, hx]
  have a1 : (n2 T p.size : Int) = (b.size : Int) := by
    rw [n2_int, e1, num_left _ _ _ _ (by rw [z2]; exact Nat.le_refl _), num_right]
    unfold two
    rw [num_whole (by omega)]
    have : ((256 ^ 2 : Nat) : Int) = 65536 := by decide
    rw [this]
    omega
  have a1' : n2 T p.size = b.size := by omega
  have a2 : (n4 T p.size : Int) = num x 0 4 := by
    rw [n4_int, ← z2, e2, num_left _ _ _ _ (by rw [size_app (p ++ two b) x, hx]; exact Nat.le_refl _), num_right]
  have a3 : bod T p.size = y := by
    unfold bod
    rw [a1', ← z6, e3]
    exact ext_mid (by rw [hy])
  have a4 : T.extract p.size (p.size + 2) = two b := by
    rw [e1]
    exact ext_mid (by rw [h2])
  refine ⟨a1', a2, a3, ?_, ?_⟩
  · unfold chk
    rw [a3, a4]
  · rw [e3, size_app, size_app, z6, hy]
    omega

theorem num_four {c : Nat} (h : c < 4294967296) : num (beB 4 (c : Int)) 0 4 = (c : Int) := by
  rw [num_whole (by omega)]
  have : ((256 ^ 4 : Nat) : Int) = 4294967296 := by decide
  rw [this]
  omega

/-- A frame is read where it was laid. -/
theorem frame_back {p b r T : ByteArray} (hT : T = p ++ fr b ++ r) (h1 : 1 ≤ b.size) (h2 : b.size ≤ 4096) :
    qE T (p.size : Int) = 0 ∧ n2 T p.size = b.size ∧ bod T p.size = b := by
  have hT' : T = p ++ two b ++ beB 4 (crc (two b ++ b) : Int) ++ b ++ r := by rw [hT]; unfold fr; simp [ByteArray.append_assoc]
  obtain ⟨a1, a2, a3, a4, a5⟩ := frame_at hT' (beB_size _ _) rfl (by omega)
  rw [num_four (crc_lt _)] at a2
  exact ⟨q_well (by omega) (by omega) (by omega) (by omega), a1, a3⟩

/-- Frames are read where they were laid, one behind the other. -/
theorem frames_back {l : List ByteArray} {r T : ByteArray} (hT : T = frs l ++ r) (hg : Framable l) : ∀ j, j ≤ l.length →
    Up T j ∧ pl T j = (frs (l.take j)).size ∧ ∀ i (h : i < l.length), i < j → bd T i = l[i]
  | 0, _ => ⟨up_zero T, rfl, fun i _ h => absurd h (Nat.not_lt_zero i)⟩
  | j + 1, hj => by
    obtain ⟨u, e, d⟩ := frames_back hT hg j (by omega)
    have hl : l = l.take j ++ (l[j]'(by omega) :: l.drop (j + 1)) := by
      rw [← List.drop_eq_getElem_cons (by omega), List.take_append_drop]
    have hT2 : T = frs (l.take j) ++ fr (l[j]'(by omega)) ++ (frs (l.drop (j + 1)) ++ r) := by
      rw [hT]
      conv => lhs; rw [hl]
      rw [frs_app]
      show frs (l.take j) ++ (fr (l[j]'(by omega)) ++ frs (l.drop (j + 1))) ++ r = _
      simp [ByteArray.append_assoc]
    obtain ⟨g1, g2⟩ := hg (l[j]'(by omega)) (List.getElem_mem _)
    obtain ⟨b1, b2, b3⟩ := frame_back hT2 g1 g2
    rw [← e] at b1 b2 b3
    refine ⟨up_succ u b1, ?_, fun i h hi => ?_⟩
    · show pl T j + 6 + n2 T (pl T j) = _
      rw [b2, List.take_succ_eq_append_getElem (by omega), frs_snoc, size_app, fr_size, e]
      omega
    · by_cases c : i = j
      · subst c
        exact b3
      · exact d i h (by omega)

/-- Noughts. -/
def zs (n : Nat) : ByteArray := ⟨(List.replicate n (0 : UInt8)).toArray⟩
theorem zs_size (n : Nat) : (zs n).size = n := by
  show (List.replicate n (0 : UInt8)).toArray.size = n
  simp
theorem bt_zs (n j : Nat) : bt (zs n) j = 0 := by
  unfold bt
  split
  · rename_i h
    have e : (zs n)[j] = 0 := by
      show (List.replicate n (0 : UInt8)).toArray[j]'_ = 0
      simp
    rw [e]
    rfl
  · rfl
/-- Where noughts stand, or nothing, there is no frame. -/
theorem no_frame (p : ByteArray) (n : Nat) : ¬ qE (p ++ zs n) (p.size : Int) = 0 := fun h => by
  obtain ⟨h1, _, h3, _⟩ := q_place h
  have e : (n2 (p ++ zs n) p.size : Int) = 0 := by
    rw [n2_int, num_right]
    show (0 * 256 + bt (zs n) (0 + 0)) * 256 + bt (zs n) (0 + 1) = 0
    rw [bt_zs, bt_zs]
    rfl
  omega

theorem back_fst {l : List ByteArray} {n : Nat} (hg : Framable l) : Fst (frs l ++ zs n) l.length ∧ pl (frs l ++ zs n) l.length = (frs l).size ∧ ∀ i (h : i < l.length), bd (frs l ++ zs n) i = l[i] := by
  obtain ⟨u, e, d⟩ := frames_back (T := frs l ++ zs n) rfl hg l.length (Nat.le_refl _)
  rw [List.take_length] at e
  exact ⟨⟨u, by rw [e]; exact no_frame _ n⟩, e, fun i h => d i h h⟩

end Go.Proofs.Ytaojoecmbgmhoaa.M

namespace Go.Proofs.Ytaojoecmbgmhoaa.M

/-- The byte at a place, as a plain number; behind the end: nought. -/
def bx (s : ByteArray) (j : Nat) : Nat := (bt s j).toNat
theorem bx_int (s : ByteArray) (j : Nat) : (bx s j : Int) = bt s j := by have := (bt_range s j).1; unfold bx; omega
theorem bx_lt (s : ByteArray) (j : Nat) : bx s j < 256 := by have := bt_range s j; unfold bx; omega
theorem bx_none {s : ByteArray} {j : Nat} (h : ¬ j < s.size) : bx s j = 0 := by unfold bx bt; rw [dif_neg h]; rfl
theorem bx_get {s : ByteArray} {j : Nat} (h : j < s.size) : bx s j = (s[j]'h).toNat := by unfold bx bt; rw [dif_pos h]; simp

theorem ext_bx {a b : ByteArray} (h : a.size = b.size) (hb : ∀ j, j < a.size → bx a j = bx b j) : a = b := by
  apply ByteArray.ext
  apply Array.ext h
  intro i h1 h2
  have h3 := hb i h1
  rw [bx_get (show i < a.size from h1), bx_get (show i < b.size from h2)] at h3
  exact UInt8.toNat.inj h3

theorem i64_xor_nat (a b : Nat) (ha : a < 9223372036854775808) (hb : b < 9223372036854775808) : bits .xor .i64 (a : Int) (b : Int) = ((a ^^^ b : Nat) : Int) := by
  have hx : a ^^^ b < 2 ^ 63 := Nat.xor_lt_two_pow (by omega) (by omega)
  show IntKind.i64.wrap ((BitVec.ofInt 64 (a : Int) ^^^ BitVec.ofInt 64 (b : Int)).toNat : Int) = _
  rw [BitVec.toNat_xor, ofInt_u64 a (by omega), ofInt_u64 b (by omega), IntKind.wrap_i64]
  omega
theorem i64_or_nat (a b : Nat) (ha : a < 9223372036854775808) (hb : b < 9223372036854775808) : bits .or .i64 (a : Int) (b : Int) = ((a ||| b : Nat) : Int) := by
  have hx : a ||| b < 2 ^ 63 := Nat.or_lt_two_pow (by omega) (by omega)
  show IntKind.i64.wrap ((BitVec.ofInt 64 (a : Int) ||| BitVec.ofInt 64 (b : Int)).toNat : Int) = _
  rw [BitVec.toNat_or, ofInt_u64 a (by omega), ofInt_u64 b (by omega), IntKind.wrap_i64]
  omega

/-- The lengths and the first i bytes of two texts, xored and gathered. -/
def dif (a b : ByteArray) : Nat → Nat
  | 0 => a.size ^^^ b.size
  | i + 1 => dif a b i ||| (bx a i ^^^ bx b i)
theorem xor_byte {x y : Nat} (hx : x < 256) (hy : y < 256) : x ^^^ y < 256 := Nat.xor_lt_two_pow (n := 8) hx hy
theorem dif_lt {a b : ByteArray} (ha : a.size ≤ 281474976710656) (hb : b.size ≤ 281474976710656) : ∀ i, dif a b i < 9223372036854775808
  | 0 => Nat.xor_lt_two_pow (n := 63) (by omega) (by omega)
  | i + 1 => by
    have := xor_byte (bx_lt a i) (bx_lt b i)
    exact Nat.or_lt_two_pow (n := 63) (dif_lt ha hb i) (by omega)
theorem xor_zero {x y : Nat} : x ^^^ y = 0 ↔ x = y := by
  constructor
  · intro h
    have h2 : x ^^^ (x ^^^ y) = x ^^^ 0 := by rw [h]
    rw [← Nat.xor_assoc, Nat.xor_self, Nat.zero_xor, Nat.xor_zero] at h2
    exact h2.symm
  · rintro rfl
    exact Nat.xor_self _
theorem or_zero {x y : Nat} : x ||| y = 0 ↔ x = 0 ∧ y = 0 := by
  constructor
  · intro h
    have h1 : x ≤ x ||| y := Nat.left_le_or
    have h2 : y ≤ x ||| y := Nat.right_le_or
    omega
  · rintro ⟨rfl, rfl⟩
    rfl
theorem dif_zero (a b : ByteArray) : ∀ i, dif a b i = 0 ↔ a.size = b.size ∧ ∀ j, j < i → bx a j = bx b j
  | 0 => by
    show a.size ^^^ b.size = 0 ↔ _
    rw [xor_zero]
    exact ⟨fun h => ⟨h, fun j hj => absurd hj (Nat.not_lt_zero _)⟩, fun h => h.1⟩
  | i + 1 => by
    show dif a b i ||| (bx a i ^^^ bx b i) = 0 ↔ _
    rw [or_zero, dif_zero a b i, xor_zero]
    constructor
    · rintro ⟨⟨h1, h2⟩, h3⟩
      refine ⟨h1, fun j hj => ?_⟩
      by_cases e : j = i
      · rw [e]; exact h3
      · exact h2 j (by omega)
    · rintro ⟨h1, h2⟩
      exact ⟨⟨h1, fun j hj => h2 j (by omega)⟩, h2 i (by omega)⟩
theorem dif_same {a b : ByteArray} {n : Nat} (hn : a.size ≤ n) : dif a b n = 0 ↔ a = b := by
  rw [dif_zero]
  constructor
  · rintro ⟨h1, h2⟩
    exact ext_bx h1 fun j hj => h2 j (by omega)
  · rintro rfl
    exact ⟨rfl, fun _ _ => rfl⟩

/-- A text with one byte put in another's place. -/
def setC (s : ByteArray) (i : Nat) (v : UInt8) : ByteArray := ⟨(s.data.toList.set i v).toArray⟩
theorem setC_size (s : ByteArray) (i : Nat) (v : UInt8) : (setC s i v).size = s.size := by
  show (s.data.toList.set i v).toArray.size = s.data.size
  simp
theorem setC_other {s : ByteArray} {i : Nat} {v : UInt8} (hi : i < s.size) (hv : ¬ v = s[i]'hi) : ¬ s = setC s i v := by
  intro h
  have h1 : s.data.toList[i]'(by simpa using hi) = (s.data.toList.set i v)[i]'(by simpa using hi) := by
    have h2 : s.data.toList = s.data.toList.set i v := by
      have := congrArg (fun x : ByteArray => x.data.toList) h
      simpa [setC] using this
    exact List.getElem_of_eq h2 _
  rw [List.getElem_set_self] at h1
  apply hv
  rw [← h1]
  show _ = s.data[i]'_
  simp
theorem app_other (a : ByteArray) : ¬ a = a ++ ⟨#[0]⟩ := by
  intro h
  have := congrArg ByteArray.size h
  rw [ByteArray.size_append] at this
  have e : (⟨#[0]⟩ : ByteArray).size = 1 := rfl
  omega
theorem pre_other (a : ByteArray) : ¬ (⟨#[0]⟩ ++ a : ByteArray) = a := by
  intro h
  have := congrArg ByteArray.size h
  rw [ByteArray.size_append] at this
  have e : (⟨#[0]⟩ : ByteArray).size = 1 := rfl
  omega

end Go.Proofs.Ytaojoecmbgmhoaa.M

namespace Go.Proofs.Ytaojoecmbgmhoaa.M

/-- One value put in a family. -/
def upd {α : Type} (s : Nat → α) (k : Nat) (v : α) : Nat → α := fun j => if j = k then v else s j
theorem upd_at {α : Type} (s : Nat → α) (k : Nat) (v : α) : upd s k v k = v := if_pos rfl
theorem upd_off {α : Type} (s : Nat → α) {k j : Nat} (v : α) (h : j ≠ k) : upd s k v j = s j := if_neg h

/-- A region: how many sectors, what lasts, what stands in the queue. -/
structure Rg where
  n : Nat
  s : Nat → ByteArray
  q : List (Nat × ByteArray)

structure Rg.ok (r : Rg) : Prop where
  n : r.n ≤ 4096
  s : ∀ k, (r.s k).size = 64
  q : ∀ x ∈ r.q, x.1 < r.n ∧ x.2.size = 64

/-- The k-th write. -/
def qx (q : List (Nat × ByteArray)) (k : Nat) : Nat × ByteArray := q.getD k (0, ⟨#[]⟩)
theorem qx_mem {q : List (Nat × ByteArray)} {k : Nat} (h : k < q.length) : qx q k ∈ q := by
  unfold qx
  rw [List.getD_eq_getElem?_getD, List.getElem?_eq_getElem h]
  exact List.getElem_mem h
theorem qx_app {q : List (Nat × ByteArray)} {x : Nat × ByteArray} {k : Nat} (h : k < q.length) : qx (q ++ [x]) k = qx q k := by
  unfold qx
  rw [List.getD_eq_getElem?_getD, List.getD_eq_getElem?_getD, List.getElem?_append_left h]
theorem qx_last (q : List (Nat × ByteArray)) (x : Nat × ByteArray) : qx (q ++ [x]) q.length = x := by
  unfold qx
  rw [List.getD_eq_getElem?_getD, List.getElem?_append_right (Nat.le_refl _)]
  simp

/-- What a sector is read as, by the first k writes. -/
def rdk (r : Rg) (sec : Nat) : Nat → ByteArray
  | 0 => r.s sec
  | k + 1 => if (qx r.q k).1 = sec then (qx r.q k).2 else rdk r sec k
def Rg.rd (r : Rg) (sec : Nat) : ByteArray := rdk r sec r.q.length

theorem rdk_none (r : Rg) (sec a : Nat) : ∀ m, a ≤ m → (∀ j, a ≤ j → j < m → (qx r.q j).1 ≠ sec) → rdk r sec m = rdk r sec a
  | 0, h, _ => by rw [Nat.le_zero.1 h]
  | m + 1, h, hn => by
    by_cases c : a = m + 1
    · rw [c]
    · show (if (qx r.q m).1 = sec then _ else _) = _
      rw [if_neg (hn m (by omega) (by omega))]
      exact rdk_none r sec a m (by omega) fun j h1 h2 => hn j h1 (by omega)
theorem rdk_hit (r : Rg) (sec k : Nat) (h : (qx r.q k).1 = sec) : rdk r sec (k + 1) = (qx r.q k).2 := if_pos h
theorem rdk_size {r : Rg} (h : r.ok) (sec : Nat) : ∀ k, k ≤ r.q.length → (rdk r sec k).size = 64
  | 0, _ => h.s sec
  | k + 1, hk => by
    show (if (qx r.q k).1 = sec then (qx r.q k).2 else rdk r sec k).size = 64
    split
    · exact (h.q _ (qx_mem hk)).2
    · exact rdk_size h sec k (by omega)
theorem rd_size {r : Rg} (h : r.ok) (sec : Nat) : (r.rd sec).size = 64 := rdk_size h sec _ (Nat.le_refl _)

/-- What lasts behind the first k writes, of which some are kept. -/
def stL (kp : Nat → Bool) (s : Nat → ByteArray) (q : List (Nat × ByteArray)) : Nat → (Nat → ByteArray)
  | 0 => s
  | k + 1 => if kp k = true then upd (stL kp s q k) (qx q k).1 (qx q k).2 else stL kp s q k
theorem stL_yes {kp : Nat → Bool} {k : Nat} (h : kp k = true) (s : Nat → ByteArray) (q : List (Nat × ByteArray)) : stL kp s q (k + 1) = upd (stL kp s q k) (qx q k).1 (qx q k).2 := if_pos h
theorem stL_no {kp : Nat → Bool} {k : Nat} (h : kp k = false) (s : Nat → ByteArray) (q : List (Nat × ByteArray)) : stL kp s q (k + 1) = stL kp s q k := if_neg (by rw [h]; decide)
theorem stL_size {kp : Nat → Bool} {s : Nat → ByteArray} {q : List (Nat × ByteArray)} (hs : ∀ k, (s k).size = 64) (hq : ∀ x ∈ q, x.2.size = 64) : ∀ k, k ≤ q.length → ∀ j, (stL kp s q k j).size = 64
  | 0, _, j => hs j
  | k + 1, hk, j => by
    by_cases c : kp k = true
    · rw [stL_yes c]
      unfold upd
      split
      · exact hq _ (qx_mem hk)
      · exact stL_size hs hq k (by omega) j
    · rw [stL_no (by simpa using c)]
      exact stL_size hs hq k (by omega) j

/-- Which writes of region i are kept by the numbers K. -/
def kb (K : List Int) (i m : Nat) : Bool := if i < K.length then bitB (K.getD i 0) ((m % 64 : Nat) : Int) else false

/-- A region settled. -/
def Rg.set (r : Rg) (kp : Nat → Bool) : Rg := { r with s := stL kp r.s r.q r.q.length, q := [] }
theorem Rg.set_ok {r : Rg} (h : r.ok) (kp : Nat → Bool) : (r.set kp).ok :=
  ⟨h.n, fun k => stL_size h.s (fun x hx => (h.q x hx).2) _ (Nat.le_refl _) k, fun x hx => by cases hx⟩
/-- A region with one write more. -/
def Rg.put (r : Rg) (sec : Nat) (x : ByteArray) : Rg := { r with q := r.q ++ [(sec, x)] }
theorem Rg.put_ok {r : Rg} (h : r.ok) {sec : Nat} {x : ByteArray} (h1 : sec < r.n) (h2 : x.size = 64) : (r.put sec x).ok :=
  ⟨h.n, h.s, fun y hy => by
    rcases List.mem_append.1 hy with h3 | h3
    · exact h.q y h3
    · rw [List.mem_singleton] at h3; subst h3; exact ⟨h1, h2⟩⟩

/-- Sixty-four bytes of a text, from a place on, with noughts behind. -/
def cut64 (x : ByteArray) (a : Nat) : ByteArray := ⟨((List.range 64).map fun j => UInt8.ofNat (bx x (a + j))).toArray⟩
theorem cut64_size (x : ByteArray) (a : Nat) : (cut64 x a).size = 64 := by
  show ((List.range 64).map _).toArray.size = 64
  simp
theorem bt_bx (x : ByteArray) (j : Nat) : bt x j = (bx x j : Int) := (bx_int x j).symm
theorem list_bx (f : Nat → Nat) (n j : Nat) (hf : f j < 256) (h : j < n) : bx ⟨((List.range n).map fun j => UInt8.ofNat (f j)).toArray⟩ j = f j := by
  have hs : j < (⟨((List.range n).map fun j => UInt8.ofNat (f j)).toArray⟩ : ByteArray).size := by
    show j < ((List.range n).map _).toArray.size
    simpa using h
  rw [bx_get hs]
  show ((((List.range n).map fun j => UInt8.ofNat (f j)).toArray)[j]).toNat = _
  simp
  omega
theorem cut64_bx (x : ByteArray) (a j : Nat) (h : j < 64) : bx (cut64 x a) j = bx x (a + j) := list_bx (fun j => bx x (a + j)) 64 j (bx_lt _ _) h
/-- A region laid. -/
def Rg.lay (r : Rg) (x : ByteArray) : Rg := { r with s := fun k => cut64 x (64 * k), q := [] }
theorem Rg.lay_ok {r : Rg} (h : r.ok) (x : ByteArray) : (r.lay x).ok := ⟨h.n, fun k => cut64_size _ _, fun x hx => by cases hx⟩

/-- The bytes of a region that last. -/
def img (s : Nat → ByteArray) (n : Nat) : ByteArray := ⟨((List.range (64 * n)).map fun j => UInt8.ofNat (bx (s (j / 64)) (j % 64))).toArray⟩
theorem img_size (s : Nat → ByteArray) (n : Nat) : (img s n).size = 64 * n := by
  show ((List.range (64 * n)).map _).toArray.size = _
  simp
theorem img_bx (s : Nat → ByteArray) (n j : Nat) (h : j < 64 * n) : bx (img s n) j = bx (s (j / 64)) (j % 64) := list_bx (fun j => bx (s (j / 64)) (j % 64)) _ j (bx_lt _ _) h

/-- The cells of lasting bytes. -/
def lc (s : Nat → ByteArray) (n : Nat) : List Value := (List.range (64 * n)).map fun j => .int .u8 (bt (s (j / 64)) (j % 64))
theorem lc_length (s : Nat → ByteArray) (n : Nat) : (lc s n).length = 64 * n := by simp [lc]
theorem lc_get (s : Nat → ByteArray) (n j : Nat) (h : j < 64 * n) : (lc s n)[j]? = some (.int .u8 (bt (s (j / 64)) (j % 64))) := by
  unfold lc
  rw [List.getElem?_map, List.getElem?_range h]
  rfl
/-- The cells of a write's bytes. -/
def dc (b : ByteArray) : List Value := (List.range 64).map fun j => .int .u8 (bt b j)
theorem dc_length (b : ByteArray) : (dc b).length = 64 := by simp [dc]
theorem dc_get (b : ByteArray) (j : Nat) (h : j < 64) : (dc b)[j]? = some (.int .u8 (bt b j)) := by
  unfold dc
  rw [List.getElem?_map, List.getElem?_range h]
  rfl
/-- The cells of a queue. -/
def qc : List (Nat × ByteArray) → List Value
  | [] => []
  | x :: q => (.int .i64 (x.1 : Int) :: dc x.2) ++ qc q
theorem qc_length : ∀ q, (qc q).length = 65 * q.length
  | [] => rfl
  | x :: q => by
    show ((.int .i64 (x.1 : Int) :: dc x.2) ++ qc q).length = _
    rw [List.length_append, qc_length q, List.length_cons, dc_length, List.length_cons]
    omega
theorem qc_app : ∀ (q p : List (Nat × ByteArray)), qc (q ++ p) = qc q ++ qc p
  | [], p => rfl
  | x :: q, p => by
    show _ ++ qc (q ++ p) = _ ++ qc q ++ qc p
    rw [qc_app q p]
    simp
theorem qc_get : ∀ (q : List (Nat × ByteArray)) (k j : Nat), k < q.length → j < 65 → (qc q)[65 * k + j]? = (.int .i64 ((qx q k).1 : Int) :: dc (qx q k).2)[j]?
  | x :: q, 0, j, _, hj => by
    show ((.int .i64 (x.1 : Int) :: dc x.2) ++ qc q)[65 * 0 + j]? = _
    rw [List.getElem?_append_left (by rw [List.length_cons, dc_length]; omega), Nat.mul_zero, Nat.zero_add]
    rfl
  | x :: q, k + 1, j, hk, hj => by
    show ((.int .i64 (x.1 : Int) :: dc x.2) ++ qc q)[65 * (k + 1) + j]? = _
    rw [List.getElem?_append_right (by rw [List.length_cons, dc_length]; omega), List.length_cons, dc_length]
    have e : 65 * (k + 1) + j - (64 + 1) = 65 * k + j := by omega
    rw [e, qc_get q k j (by simpa using hk) hj]
    rfl
theorem qc_sec (q : List (Nat × ByteArray)) (k : Nat) (hk : k < q.length) : (qc q)[65 * k]? = some (.int .i64 ((qx q k).1 : Int)) := qc_get q k 0 hk (by omega)
theorem qc_byte (q : List (Nat × ByteArray)) (k j : Nat) (hk : k < q.length) (hj : j < 64) : (qc q)[65 * k + 1 + j]? = some (.int .u8 (bt (qx q k).2 j)) := by
  have h := qc_get q k (1 + j) hk (by omega)
  rw [← Nat.add_assoc] at h
  rw [h, Nat.add_comm 1 j, List.getElem?_cons_succ]
  exact dc_get _ j hj

/-- Laying a write over the lasting bytes. -/
theorem lc_splice (s : Nat → ByteArray) (n k : Nat) (b : ByteArray) (hk : k < n) : (lc s n).take (64 * k) ++ (dc b ++ (lc s n).drop (64 * k + 64)) = lc (upd s k b) n := by
  have hl := lc_length s n
  apply List.ext_getElem?
  intro j
  by_cases hj : j < 64 * n
  · rw [lc_get _ _ _ hj]
    by_cases h1 : j < 64 * k
    · rw [List.getElem?_append_left (by rw [List.length_take]; omega), List.getElem?_take, if_pos h1, lc_get _ _ _ hj, upd_off _ _ (by omega)]
    · rw [List.getElem?_append_right (by rw [List.length_take]; omega), List.length_take, hl, Nat.min_eq_left (by omega)]
      by_cases h2 : j < 64 * k + 64
      · rw [List.getElem?_append_left (by rw [dc_length]; omega), dc_get _ _ (by omega)]
        have e1 : j / 64 = k := by omega
        have e2 : j % 64 = j - 64 * k := by omega
        rw [e1, e2, upd_at]
      · rw [List.getElem?_append_right (by rw [dc_length]; omega), dc_length, List.getElem?_drop]
        have e : 64 * k + 64 + (j - 64 * k - 64) = j := by omega
        rw [e, lc_get _ _ _ hj, upd_off _ _ (by omega)]
  · rw [List.getElem?_eq_none (by simp only [List.length_append, List.length_take, List.length_drop, dc_length, hl]; omega), List.getElem?_eq_none (by rw [lc_length]; omega)]

/-- From cells to a text. -/
theorem str_img (s : Nat → ByteArray) (n : Nat) : strOfNums ((List.range (64 * n)).map fun j => bt (s (j / 64)) (j % 64)) = img s n := by
  unfold strOfNums img
  rw [List.map_map]
  rfl
theorem str_dc (b : ByteArray) (h : b.size = 64) : strOfNums ((List.range 64).map fun j => bt b j) = b := by
  apply ext_bx
  · rw [strOfNums_size, h]; simp
  · intro j hj
    rw [strOfNums_size] at hj
    have hj' : j < 64 := by simpa using hj
    have e : strOfNums ((List.range 64).map fun j => bt b j) = ⟨((List.range 64).map fun j => UInt8.ofNat (bx b j)).toArray⟩ := by
      unfold strOfNums
      rw [List.map_map]
      rfl
    rw [e]
    exact list_bx (fun j => bx b j) 64 j (bx_lt _ _) hj'

/-- A disk: its regions, the power, what was asked for: region, calls, numbers. -/
structure Dk where
  k : Nat
  r : Nat → Rg
  off : Bool
  ask : Option (Nat × Nat × List Int)

def K64 (K : List Int) : Prop := ∀ x ∈ K, 0 ≤ x ∧ x < 18446744073709551616

structure Dk.ok (d : Dk) : Prop where
  k : d.k ≤ 8
  r : ∀ i, i < d.k → (d.r i).ok
  ask : ∀ a l K, d.ask = some (a, l, K) → a < d.k ∧ l < 9223372036854775808 ∧ K64 K

/-- What is asked, as the code's cells have it. -/
def aR : Option (Nat × Nat × List Int) → Int
  | none => 0
  | some (a, _, _) => a
def aL : Option (Nat × Nat × List Int) → Int
  | none => 0
  | some (_, l, _) => l
def aK : Option (Nat × Nat × List Int) → List Int
  | none => []
  | some (_, _, K) => K

/-- A loss of power. -/
def Dk.lose (d : Dk) (K : List Int) : Dk := { d with r := fun i => (d.r i).set (kb K i) }
/-- A region turned. -/
def Dk.at (d : Dk) (i : Nat) (r : Rg) : Dk := { d with r := upd d.r i r }
/-- Does the power fail at a call of region a? -/
def Dk.now (d : Dk) (a : Nat) : Bool := match d.ask with
  | none => false
  | some (b, l, _) => decide (b = a ∧ l = 1)
/-- The disk behind that question. -/
def Dk.cnt (d : Dk) (a : Nat) : Dk := match d.ask with
  | none => d
  | some (b, l, K) => if b = a then (if l = 1 then { d.lose K with off := true, ask := none } else { d with ask := some (b, l - 1, K) }) else d
def Dk.on (d : Dk) : Dk := { d with off := false, ask := none }
/-- Is there such a region, and such a sector? -/
def Dk.has (d : Dk) (a : Int) : Bool := decide (0 ≤ a ∧ a < d.k)
def Dk.hasS (d : Dk) (a b : Int) : Bool := d.has a && decide (0 ≤ b ∧ b < (d.r a.toNat).n)
/-- Read. -/
def Dk.readE (d : Dk) (a b : Int) : Int := if d.off then 11 else if d.hasS a b then 0 else 10
def Dk.readB (d : Dk) (a b : Int) : ByteArray := if d.readE a b = 0 then (d.r a.toNat).rd b.toNat else ⟨#[]⟩
/-- Write. -/
def Dk.preW (d : Dk) (a b : Int) (x : ByteArray) : Int := if d.readE a b = 0 then (if x.size = 64 then 0 else 2) else d.readE a b
def Dk.put (d : Dk) (a b : Int) (x : ByteArray) : Dk := d.at a.toNat ((d.r a.toNat).put b.toNat x)
def Dk.writeE (d : Dk) (a b : Int) (x : ByteArray) : Int := if d.preW a b x = 0 then (if (d.put a b x).now a.toNat then 11 else 0) else d.preW a b x
def Dk.write (d : Dk) (a b : Int) (x : ByteArray) : Dk := if d.preW a b x = 0 then (d.put a b x).cnt a.toNat else d
/-- Flush. -/
def Dk.preF (d : Dk) (a : Int) : Int := if d.off then 11 else if d.has a then 0 else 10
def Dk.flushE (d : Dk) (a : Int) : Int := if d.preF a = 0 then (if d.now a.toNat then 11 else 0) else d.preF a
def Dk.flush (d : Dk) (a : Int) : Dk := if d.preF a = 0 then (if d.now a.toNat then d.cnt a.toNat else (d.cnt a.toNat).at a.toNat ((d.r a.toNat).set fun _ => true)) else d
def Dk.cut (d : Dk) (a n : Int) (K : List Int) : Dk := { d with ask := if 1 ≤ n ∧ d.has a = true then some (a.toNat, n.toNat, K) else none }
def Dk.crash (d : Dk) (K : List Int) : Dk := (d.lose K).on
def Dk.lay (d : Dk) (a : Int) (x : ByteArray) : Dk := if d.has a then d.at a.toNat ((d.r a.toNat).lay x) else d
def Dk.secs (d : Dk) (a : Int) : Nat := if d.has a then (d.r a.toNat).n else 0
def Dk.image (d : Dk) (a : Int) : ByteArray := if d.has a then img (d.r a.toNat).s (d.r a.toNat).n else ⟨#[]⟩

/-- A size as it is taken. -/
def szN (x : Int) : Nat := (min (max x 0) 4096).toNat
def noB : ByteArray := ⟨Array.replicate 64 (0 : UInt8)⟩
theorem noB_size : noB.size = 64 := by decide
theorem noB_bt (j : Nat) : bt noB j = 0 := by
  rw [bt_bx]
  by_cases h : j < noB.size
  · rw [bx_get h]
    have : noB[j] = 0 := by
      show (Array.replicate 64 (0 : UInt8))[j] = 0
      exact Array.getElem_replicate _
    rw [this]
    rfl
  · rw [bx_none h]; rfl
def newR (x : Int) : Rg := { n := szN x, s := fun _ => noB, q := [] }
theorem newR_ok (x : Int) : (newR x).ok := ⟨by show szN x ≤ 4096; unfold szN; omega, fun _ => noB_size, fun x hx => by cases hx⟩
/-- A new disk. -/
def newD (z : Nat → Int) (k : Nat) : Dk := { k := k, r := fun i => newR (z i), off := false, ask := none }
theorem newD_ok (z : Nat → Int) (k : Nat) (h : k ≤ 8) : (newD z k).ok := ⟨h, fun i _ => newR_ok _, fun a l K h => by cases h⟩

theorem Dk.at_ok {d : Dk} (h : d.ok) (i : Nat) {r : Rg} (hr : r.ok) : (d.at i r).ok := ⟨h.k, fun j hj => by
    show (upd d.r i r j).ok
    unfold upd
    split
    · exact hr
    · exact h.r j hj, h.ask⟩
theorem Dk.lose_ok {d : Dk} (h : d.ok) (K : List Int) : (d.lose K).ok := ⟨h.k, fun i hi => Rg.set_ok (h.r i hi) _, h.ask⟩
theorem Dk.on_ok {d : Dk} (h : d.ok) : d.on.ok := ⟨h.k, h.r, fun a l K e => by cases e⟩

end Go.Proofs.Ytaojoecmbgmhoaa.M
