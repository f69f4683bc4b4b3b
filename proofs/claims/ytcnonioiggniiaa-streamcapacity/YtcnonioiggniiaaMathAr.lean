/-
  Plain facts on cells and sectors: 'sec' (the sector of a cell), 'mE', 'mB' (Make), 'pOk', 'pG', 'pI', 'pD' (Parse), 'pc' (a piece of data), 'jn' (Join), 'nw' (Newest). Nothing is asked but the bounds that each fact names.
-/
import Derived.WalkKit
import Derived.Test.YtcnonioiggniiaaMathK
namespace Go.Proofs.Ytcnonioiggniiaa.M

/-- Noughts. -/
def zz (n : Nat) : ByteArray := ⟨(List.replicate n (0 : UInt8)).toArray⟩
theorem zz_size (n : Nat) : (zz n).size = n := by
  show (List.replicate n (0 : UInt8)).toArray.size = n
  simp
theorem zz_succ (n : Nat) : zz n ++ ⟨#[0]⟩ = zz (n + 1) := by
  apply ByteArray.ext
  rw [ByteArray.data_append]
  show (List.replicate n (0 : UInt8)).toArray ++ [(0 : UInt8)].toArray = (List.replicate (n + 1) (0 : UInt8)).toArray
  rw [List.replicate_succ', ← List.append_toArray]

theorem app_none (a : ByteArray) : a ++ zz 0 = a := by
  apply ByteArray.ext
  simp [zz]

/-- What stands ahead of a cell's data. -/
def hdr (g i : Int) (n : Nat) : ByteArray := beB 6 g ++ beB 2 i ++ beB 1 (n : Int)
theorem hdr_size (g i : Int) (n : Nat) : (hdr g i n).size = 9 := by
  unfold hdr
  rw [size_app, size_app, beB_size, beB_size, beB_size]
/-- The sector of a cell. -/
def sec (g i : Int) (d : ByteArray) : ByteArray := hdr g i d.size ++ d ++ zz (55 - d.size)
theorem sec_size {g i : Int} {d : ByteArray} (h : d.size ≤ 55) : (sec g i d).size = 64 := by
  unfold sec
  rw [size_app, size_app, hdr_size, zz_size]
  omega

/-- Within the bounds. -/
@[reducible] def Wt (g i : Int) : Prop := 1 ≤ g ∧ g ≤ 281474976710655 ∧ 0 ≤ i ∧ i ≤ 65535
/-- The error of a Make; 0: none. -/
def mE (g i : Int) (d : ByteArray) : Int := if Wt g i then if 55 < d.size then 5 else 0 else 2
def mB (g i : Int) (d : ByteArray) : ByteArray := if mE g i d = 0 then sec g i d else ⟨#[]⟩
theorem m_arg {g i : Int} {d : ByteArray} (h : ¬ Wt g i) : mE g i d = 2 ∧ mB g i d = ⟨#[]⟩ := by
  have e : mE g i d = 2 := if_neg h
  unfold mB
  rw [e]
  exact ⟨rfl, rfl⟩
theorem m_long {g i : Int} {d : ByteArray} (h : Wt g i) (h2 : 55 < d.size) : mE g i d = 5 ∧ mB g i d = ⟨#[]⟩ := by
  have e : mE g i d = 5 := by unfold mE; rw [if_pos h, if_pos h2]
  unfold mB
  rw [e]
  exact ⟨rfl, rfl⟩
theorem m_ok {g i : Int} {d : ByteArray} (h : Wt g i) (h2 : ¬ 55 < d.size) : mE g i d = 0 ∧ mB g i d = sec g i d := by
  have e : mE g i d = 0 := by unfold mE; rw [if_pos h, if_neg h2]
  unfold mB
  rw [e]
  exact ⟨rfl, rfl⟩

/-- The parts that a sector tells. -/
def pG (s : ByteArray) : Int := num s 0 6
def pI (s : ByteArray) : Int := num s 6 2
def pN (s : ByteArray) : Nat := (bt s 8).toNat
def pD (s : ByteArray) : ByteArray := s.extract 9 (9 + pN s)
/-- Whether a sector is a cell's. -/
def pOk (s : ByteArray) : Bool := decide (s.size = 64 ∧ pN s ≤ 55 ∧ mE (pG s) (pI s) (pD s) = 0 ∧ sec (pG s) (pI s) (pD s) = s)
def cG (s : ByteArray) : Int := if pOk s = true then pG s else 0
def cI (s : ByteArray) : Int := if pOk s = true then pI s else 0
def cD (s : ByteArray) : ByteArray := if pOk s = true then pD s else ⟨#[]⟩

theorem pG_range (s : ByteArray) : 0 ≤ pG s ∧ pG s ≤ 281474976710655 := by
  have h := num_range s 0 6
  have e : (256 : Int) ^ 6 = 281474976710656 := by decide
  unfold pG
  omega
theorem pI_range (s : ByteArray) : 0 ≤ pI s ∧ pI s ≤ 65535 := by
  have h := num_range s 6 2
  have e : (256 : Int) ^ 2 = 65536 := by decide
  unfold pI
  omega
theorem pN_int (s : ByteArray) : (pN s : Int) = bt s 8 := by
  have := bt_range s 8
  unfold pN
  omega
theorem pN_num (s : ByteArray) : num s 8 1 = (pN s : Int) := by
  rw [pN_int]
  show 0 * 256 + bt s (8 + 0) = _
  simp
theorem pD_size {s : ByteArray} (h : s.size = 64) (h2 : pN s ≤ 55) : (pD s).size = pN s := by
  unfold pD
  rw [ByteArray.size_extract]
  omega
theorem p_of {s : ByteArray} (h : pOk s = true) : s.size = 64 ∧ pN s ≤ 55 ∧ Wt (pG s) (pI s) ∧ sec (pG s) (pI s) (pD s) = s ∧ (pD s).size ≤ 55 := by
  obtain ⟨h1, h2, h3, h4⟩ := of_decide_eq_true h
  refine ⟨h1, h2, ?_, h4, by rw [pD_size h1 h2]; exact h2⟩
  apply Classical.byContradiction
  intro c
  rw [(m_arg (d := pD s) c).1] at h3
  cases h3
theorem p_no {s : ByteArray} (h : pOk s = false) : cG s = 0 ∧ cI s = 0 ∧ cD s = ⟨#[]⟩ := by
  unfold cG cI cD
  rw [h]
  exact ⟨rfl, rfl, rfl⟩
theorem p_yes {s : ByteArray} (h : pOk s = true) : cG s = pG s ∧ cI s = pI s ∧ cD s = pD s := by
  unfold cG cI cD
  rw [h]
  exact ⟨rfl, rfl, rfl⟩
theorem cD_size (s : ByteArray) : (cD s).size ≤ 55 := by
  cases h : pOk s with
  | true => rw [(p_yes h).2.2]; exact (p_of h).2.2.2.2
  | false => rw [(p_no h).2.2]; decide
theorem cG_range (s : ByteArray) : 0 ≤ cG s ∧ cG s ≤ 281474976710655 := by
  cases h : pOk s with
  | true => rw [(p_yes h).1]; exact pG_range s
  | false => rw [(p_no h).1]; decide
theorem cI_range (s : ByteArray) : 0 ≤ cI s ∧ cI s ≤ 65535 := by
  cases h : pOk s with
  | true => rw [(p_yes h).2.1]; exact pI_range s
  | false => rw [(p_no h).2.1]; decide
/-- Why a sector isn't one. -/
theorem p_short {s : ByteArray} (h : ¬ s.size = 64) : pOk s = false := decide_eq_false fun c => h c.1
theorem p_big {s : ByteArray} (h : ¬ pN s ≤ 55) : pOk s = false := decide_eq_false fun c => h c.2.1
theorem p_err {s : ByteArray} (h : ¬ mE (pG s) (pI s) (pD s) = 0) : pOk s = false := decide_eq_false fun c => h c.2.2.1
theorem p_other {s : ByteArray} (h : ¬ sec (pG s) (pI s) (pD s) = s) : pOk s = false := decide_eq_false fun c => h c.2.2.2
theorem p_mk {s : ByteArray} (h1 : s.size = 64) (h2 : pN s ≤ 55) (h3 : mE (pG s) (pI s) (pD s) = 0) (h4 : sec (pG s) (pI s) (pD s) = s) : pOk s = true := decide_eq_true ⟨h1, h2, h3, h4⟩

/-- A cell is read back from its sector. -/
theorem sec_back {g i : Int} {d : ByteArray} (h : Wt g i) (hd : d.size ≤ 55) : pOk (sec g i d) = true ∧ pG (sec g i d) = g ∧ pI (sec g i d) = i ∧ pD (sec g i d) = d := by
  obtain ⟨h1, h2, h3, h4⟩ := h
  have hz := sec_size (g := g) (i := i) hd
  have e0 : sec g i d = beB 6 g ++ (beB 2 i ++ (beB 1 (d.size : Int) ++ (d ++ zz (55 - d.size)))) := by
    unfold sec hdr
    simp [ByteArray.append_assoc]
  have e1 : sec g i d = beB 6 g ++ beB 2 i ++ (beB 1 (d.size : Int) ++ (d ++ zz (55 - d.size))) := by
    rw [e0]
    simp [ByteArray.append_assoc]
  have e2 : sec g i d = (beB 6 g ++ beB 2 i) ++ beB 1 (d.size : Int) ++ (d ++ zz (55 - d.size)) := by
    rw [e0]
    simp [ByteArray.append_assoc]
  have z8 : (beB 6 g ++ beB 2 i).size = 8 := by rw [size_app, beB_size, beB_size]
  have a1 : pG (sec g i d) = g := by
    unfold pG
    rw [e0, num_left _ _ _ _ (by rw [beB_size]; exact Nat.le_refl _), num_whole (by omega)]
    have : ((256 ^ 6 : Nat) : Int) = 281474976710656 := by decide
    rw [this]
    omega
  have a2 : pI (sec g i d) = i := by
    have z6 := beB_size 6 g
    unfold pI
    have := num_right (beB 6 g) (beB 2 i ++ (beB 1 (d.size : Int) ++ (d ++ zz (55 - d.size)))) 2
    rw [z6, ← e0] at this
    rw [this, num_left _ _ _ _ (by rw [beB_size]; exact Nat.le_refl _), num_whole (by omega)]
    have : ((256 ^ 2 : Nat) : Int) = 65536 := by decide
    rw [this]
    omega
  have a3 : pN (sec g i d) = d.size := by
    have hn := pN_num (sec g i d)
    have := num_right (beB 6 g ++ beB 2 i) (beB 1 (d.size : Int) ++ (d ++ zz (55 - d.size))) 1
    rw [z8, ← e1] at this
    rw [this, num_left _ _ _ _ (by rw [beB_size]; exact Nat.le_refl _), num_whole (by omega)] at hn
    have : ((256 ^ 1 : Nat) : Int) = 256 := by decide
    rw [this] at hn
    omega
  have a4 : pD (sec g i d) = d := by
    unfold pD
    rw [a3]
    have := extract_mid (hdr g i d.size) d (zz (55 - d.size))
    rw [hdr_size] at this
    exact this
  refine ⟨p_mk hz (by omega) ?_ ?_, a1, a2, a4⟩
  · rw [a1, a2, a4]
    exact (m_ok ⟨h1, h2, h3, h4⟩ (by omega)).1
  · rw [a1, a2, a4]

/-- A piece of data. -/
def pc (d : ByteArray) (j : Nat) : ByteArray := d.extract (55 * j) (min (55 * j + 55) d.size)
/-- What is left of data. -/
def rs (d : ByteArray) (j : Nat) : ByteArray := d.extract (55 * j) d.size
theorem pc_size (d : ByteArray) (j : Nat) : (pc d j).size = min (55 * j + 55) d.size - 55 * j := by
  unfold pc
  rw [ByteArray.size_extract]
  omega
theorem pc_le (d : ByteArray) (j : Nat) : (pc d j).size ≤ 55 := by
  rw [pc_size]
  omega
theorem rs_size (d : ByteArray) (j : Nat) : (rs d j).size = d.size - 55 * j := by
  unfold rs
  rw [ByteArray.size_extract]
  omega
theorem rs_zero (d : ByteArray) : rs d 0 = d := by
  unfold rs
  exact ByteArray.extract_zero_size
theorem ext_ext (d : ByteArray) {a b i j : Nat} (hj : a + j ≤ b) : (d.extract a b).extract i j = d.extract (a + i) (a + j) := by
  apply ByteArray.ext
  rw [ByteArray.data_extract, ByteArray.data_extract, ByteArray.data_extract, Array.extract_extract]
  rw [Nat.min_eq_left hj]
theorem rs_pc {d : ByteArray} {j : Nat} (h : 55 * j + 55 ≤ d.size) : (rs d j).extract 0 55 = pc d j := by
  unfold rs pc
  rw [ext_ext d h, Nat.min_eq_left h, Nat.add_zero]
theorem rs_succ {d : ByteArray} {j : Nat} (h : 55 * j + 55 ≤ d.size) : (rs d j).extract 55 (rs d j).size = rs d (j + 1) := by
  rw [rs_size]
  unfold rs
  rw [ext_ext d (by omega), show 55 * j + 55 = 55 * (j + 1) by omega, show 55 * j + (d.size - 55 * j) = d.size by omega]
theorem rs_last {d : ByteArray} {j : Nat} (h : d.size < 55 * j + 55) : rs d j = pc d j := by
  unfold rs pc
  rw [Nat.min_eq_right (by omega)]
theorem ext_app (d : ByteArray) {a b c : Nat} (h1 : a ≤ b) (h2 : b ≤ c) : d.extract a b ++ d.extract b c = d.extract a c := by
  apply ByteArray.ext
  rw [ByteArray.data_append, ByteArray.data_extract, ByteArray.data_extract, ByteArray.data_extract, Array.extract_append_extract, Nat.min_eq_left h1, Nat.max_eq_right h2]
theorem pc_rs {d : ByteArray} {j : Nat} (h : 55 * j + 55 ≤ d.size) : pc d j ++ rs d (j + 1) = rs d j := by
  unfold pc rs
  rw [Nat.min_eq_left h, show 55 * (j + 1) = 55 * j + 55 by omega]
  exact ext_app d (by omega) h

/-- The sectors of data. -/
def sp (g f : Int) (d : ByteArray) (j : Nat) : ByteArray := sec g (f + (j : Int)) (pc d j)
/-- The first n of them as values. -/
def spv (g f : Int) (d : ByteArray) (n : Nat) : List Value := (List.range n).map fun j => .string (sp g f d j)
theorem spv_succ (g f : Int) (d : ByteArray) (n : Nat) : spv g f d (n + 1) = spv g f d n ++ [.string (sp g f d n)] := by
  unfold spv
  rw [List.range_succ, List.map_append]
  rfl
theorem spv_length (g f : Int) (d : ByteArray) (n : Nat) : (spv g f d n).length = n := by simp [spv]
theorem spv_get (g f : Int) (d : ByteArray) {n j : Nat} (h : j < n) : (spv g f d n)[j]? = some (.string (sp g f d j)) := by
  unfold spv
  rw [List.getElem?_map, List.getElem?_range h]
  rfl
/-- The error of a Split. -/
def sE (g f : Int) (d : ByteArray) : Int := if Wt g f then if 65535 - f < ((d.size / 55 : Nat) : Int) then 5 else 0 else 2
/-- How many sectors. -/
def sN (g f : Int) (d : ByteArray) : Nat := if sE g f d = 0 then d.size / 55 + 1 else 0

/-- Whether a sector is a cell of the generation, at its place. -/
def jOk (y : Nat → ByteArray) (g : Int) (k : Nat) : Bool := pOk (y k) && (pG (y k) == g && pI (y k) == (k : Int))
/-- What sectors hold together, from the k-th on, of which there are m. -/
def jn (y : Nat → ByteArray) (g : Int) : Nat → Nat → ByteArray
  | _, 0 => ⟨#[]⟩
  | k, m + 1 => if jOk y g k = true then if (pD (y k)).size < 55 then pD (y k) else pD (y k) ++ jn y g (k + 1) m else ⟨#[]⟩
theorem jn_no {y : Nat → ByteArray} {g : Int} {k m : Nat} (h : jOk y g k = false) : jn y g k m = ⟨#[]⟩ := by
  cases m with
  | zero => rfl
  | succ m =>
    show (if jOk y g k = true then _ else _) = _
    rw [h]
    rfl
theorem jn_end {y : Nat → ByteArray} {g : Int} {k m : Nat} (h : jOk y g k = true) (hs : (pD (y k)).size < 55) : jn y g k (m + 1) = pD (y k) := by
  show (if jOk y g k = true then _ else _) = _
  rw [if_pos h, if_pos hs]
theorem jn_on {y : Nat → ByteArray} {g : Int} {k m : Nat} (h : jOk y g k = true) (hs : ¬ (pD (y k)).size < 55) : jn y g k (m + 1) = pD (y k) ++ jn y g (k + 1) m := by
  show (if jOk y g k = true then _ else _) = _
  rw [if_pos h, if_neg hs]
theorem j_of {y : Nat → ByteArray} {g : Int} {k : Nat} (h : jOk y g k = true) : pOk (y k) = true ∧ pG (y k) = g ∧ pI (y k) = (k : Int) := by
  unfold jOk at h
  simp only [Bool.and_eq_true, beq_iff_eq] at h
  exact h
theorem j_mk {y : Nat → ByteArray} {g : Int} {k : Nat} (h1 : pOk (y k) = true) (h2 : pG (y k) = g) (h3 : pI (y k) = (k : Int)) : jOk y g k = true := by
  unfold jOk
  simp only [Bool.and_eq_true, beq_iff_eq]
  exact ⟨h1, h2, h3⟩
theorem jn_size (y : Nat → ByteArray) (g : Int) : ∀ m k, (jn y g k m).size ≤ 55 * m
  | 0, _ => Nat.le_refl _
  | m + 1, k => by
    cases c : jOk y g k with
    | false => rw [jn_no c]; exact Nat.zero_le _
    | true =>
      have h := (p_of (j_of c).1).2.2.2.2
      by_cases hs : (pD (y k)).size < 55
      · rw [jn_end c hs]; omega
      · rw [jn_on c hs, size_app]
        have := jn_size y g m (k + 1)
        omega
theorem app_nil (a : ByteArray) : a ++ ⟨#[]⟩ = a := by
  apply ByteArray.ext
  simp
theorem nil_app (a : ByteArray) : (⟨#[]⟩ : ByteArray) ++ a = a := by
  apply ByteArray.ext
  simp
/-- A sector of data is a cell of its generation, at its place. -/
theorem sp_back {g : Int} {d : ByteArray} {j : Nat} (hg : 1 ≤ g ∧ g ≤ 281474976710655) (hj : j ≤ 65535) : pOk (sp g 0 d j) = true ∧ pG (sp g 0 d j) = g ∧ pI (sp g 0 d j) = (j : Int) ∧ pD (sp g 0 d j) = pc d j := by
  obtain ⟨h1, h2, h3, h4⟩ := sec_back (g := g) (i := 0 + (j : Int)) (d := pc d j) ⟨hg.1, hg.2, by omega, by omega⟩ (pc_le d j)
  exact ⟨h1, h2, by unfold sp; rw [h3]; omega, h4⟩
theorem sp_jOk {y : Nat → ByteArray} {g : Int} {d : ByteArray} {j : Nat} (hg : 1 ≤ g ∧ g ≤ 281474976710655) (hj : j ≤ 65535) (h : y j = sp g 0 d j) : jOk y g j = true ∧ pD (y j) = pc d j := by
  obtain ⟨h1, h2, h3, h4⟩ := sp_back (d := d) hg hj
  exact ⟨j_mk (by rw [h]; exact h1) (by rw [h]; exact h2) (by rw [h]; exact h3), by rw [h]; exact h4⟩
/-- The sectors of data hold it together, whatever stands behind them. -/
theorem jn_back {y : Nat → ByteArray} {g : Int} {d : ByteArray} (hg : 1 ≤ g ∧ g ≤ 281474976710655) (hn : d.size / 55 ≤ 65535) (h : ∀ j, j ≤ d.size / 55 → y j = sp g 0 d j) (t : Nat) :
    ∀ r k, k + r = d.size / 55 → jn y g k (r + t + 1) = rs d k
  | 0, k, e => by
    obtain ⟨h1, h2⟩ := sp_jOk hg (by omega) (h k (by omega))
    rw [jn_end h1 (by rw [h2, pc_size]; omega), h2, rs_last (by omega)]
  | r + 1, k, e => by
    obtain ⟨h1, h2⟩ := sp_jOk hg (by omega) (h k (by omega))
    rw [jn_on h1 (by rw [h2, pc_size]; omega), h2, show r + 1 + t = r + t + 1 by omega, jn_back hg hn h t r (k + 1) (by omega), pc_rs (by omega)]
/-- Up to the first that is none, a beginning of the data. -/
theorem jn_lost {y : Nat → ByteArray} {g : Int} {d : ByteArray} (hg : 1 ≤ g ∧ g ≤ 281474976710655) (hn : d.size / 55 ≤ 65535) {f : Nat} (hf : f ≤ d.size / 55) (h : ∀ j, j < f → y j = sp g 0 d j) (hx : jOk y g f = false) (t : Nat) :
    ∀ r k, k + r = f → jn y g k (r + t) = d.extract (55 * k) (55 * f)
  | 0, k, e => by
    obtain rfl : k = f := by omega
    rw [jn_no hx]
    symm
    apply ByteArray.ext
    apply Array.eq_empty_of_size_eq_zero
    show (d.extract (55 * k) (55 * k)).size = 0
    rw [ByteArray.size_extract]
    omega
  | r + 1, k, e => by
    obtain ⟨h1, h2⟩ := sp_jOk hg (by omega) (h k (by omega))
    rw [show r + 1 + t = (r + t) + 1 by omega, jn_on h1 (by rw [h2, pc_size]; omega), h2, jn_lost hg hn hf h hx t r (k + 1) (by omega)]
    unfold pc
    rw [Nat.min_eq_left (by omega), show 55 * (k + 1) = 55 * k + 55 by omega]
    exact ext_app d (by omega) (by omega)

/-- The newest generation of the first k sectors. -/
def nw (y : Nat → ByteArray) : Nat → Int
  | 0 => 0
  | k + 1 => if pOk (y k) = true then max (nw y k) (pG (y k)) else nw y k
theorem nw_yes {y : Nat → ByteArray} {k : Nat} (h : pOk (y k) = true) : nw y (k + 1) = max (nw y k) (pG (y k)) := if_pos h
theorem nw_no {y : Nat → ByteArray} {k : Nat} (h : pOk (y k) = false) : nw y (k + 1) = nw y k := by
  show (if pOk (y k) = true then _ else _) = _
  rw [h]
  rfl
theorem nw_range (y : Nat → ByteArray) : ∀ k, 0 ≤ nw y k ∧ nw y k ≤ 281474976710655
  | 0 => by
    show (0 : Int) ≤ 0 ∧ (0 : Int) ≤ 281474976710655
    decide
  | k + 1 => by
    have h := nw_range y k
    have h2 := pG_range (y k)
    cases c : pOk (y k) with
    | false => rw [nw_no c]; exact h
    | true => rw [nw_yes c]; omega
theorem nw_mono (y : Nat → ByteArray) (k : Nat) : nw y k ≤ nw y (k + 1) := by
  cases c : pOk (y k) with
  | false => rw [nw_no c]; exact Int.le_refl _
  | true => rw [nw_yes c]; omega
theorem nw_ge {y : Nat → ByteArray} {k : Nat} (h : pOk (y k) = true) : ∀ n, k < n → pG (y k) ≤ nw y n
  | 0, hk => by omega
  | n + 1, hk => by
    by_cases c : k = n
    · subst c
      rw [nw_yes h]
      omega
    · have := nw_ge h n (by omega)
      have := nw_mono y n
      omega
theorem nw_all {y : Nat → ByteArray} {g : Int} (hg : 0 ≤ g) : ∀ n, (∀ j, j < n → pOk (y j) = true ∧ pG (y j) = g) → 0 < n → nw y n = g
  | 0, _, h => by omega
  | n + 1, h, _ => by
    obtain ⟨h1, h2⟩ := h n (by omega)
    rw [nw_yes h1, h2]
    by_cases c : n = 0
    · subst c
      show max 0 g = g
      omega
    · rw [nw_all hg n (fun j hj => h j (by omega)) (by omega)]
      omega

end Go.Proofs.Ytcnonioiggniiaa.M
