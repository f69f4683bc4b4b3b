/-
  Plain facts on one turned bit: of frames in which one bit of a check sum or a body is turned just those ahead are read. Nothing is asked but the bounds that each fact names.
-/
import Derived.WalkKit
import Derived.Test.YtimgeopinokklaaMathY
namespace Go.Proofs.Ytimgeopinokklaa.M

/-- A text with one byte put in another's place. -/
def setB (s : ByteArray) (i : Nat) (v : UInt8) : ByteArray := ⟨(s.data.toList.set i v).toArray⟩
theorem setB_size (s : ByteArray) (i : Nat) (v : UInt8) : (setB s i v).size = s.size := by
  show (s.data.toList.set i v).toArray.size = s.data.size
  simp
theorem setB_left {a : ByteArray} (b : ByteArray) {i : Nat} (v : UInt8) (h : i < a.size) : setB (a ++ b) i v = setB a i v ++ b := by
  apply ByteArray.ext
  apply Array.toList_inj.1
  show ((a ++ b).data.toList.set i v).toArray.toList = (setB a i v ++ b).data.toList
  rw [ByteArray.data_append, ByteArray.data_append]
  simp only [Array.toList_append]
  rw [List.set_append_left _ _ (by simpa using h)]
  rfl
theorem setB_right (a b : ByteArray) {i : Nat} (v : UInt8) (h : a.size ≤ i) : setB (a ++ b) i v = a ++ setB b (i - a.size) v := by
  apply ByteArray.ext
  apply Array.toList_inj.1
  show ((a ++ b).data.toList.set i v).toArray.toList = (a ++ setB b (i - a.size) v).data.toList
  rw [ByteArray.data_append, ByteArray.data_append]
  simp only [Array.toList_append]
  rw [List.set_append_right _ _ (by simpa using h)]
  have e : a.data.toList.length = a.size := Array.length_toList
  rw [e]
  rfl
theorem bt_set (s : ByteArray) (i j : Nat) (v : UInt8) : bt (setB s i v) j = if i = j ∧ j < s.size then (v.toNat : Int) else bt s j := by
  unfold bt
  by_cases c : j < s.size
  · rw [dif_pos (by rw [setB_size]; exact c), dif_pos c]
    have e : (setB s i v)[j]'(by rw [setB_size]; exact c) = (s.data.toList.set i v)[j]'(by simpa using c) := rfl
    rw [e, List.getElem_set]
    by_cases c2 : i = j
    · rw [if_pos c2, if_pos ⟨c2, c⟩]
    · rw [if_neg c2, if_neg (fun h => c2 h.1)]
      rfl
  · rw [dif_neg (by rw [setB_size]; exact c), dif_neg c, if_neg (fun h => c h.2)]

/-- The value of a byte with bit r turned. -/
theorem flip_lt {x r : Nat} (hx : x < 256) (hr : r < 8) : x ^^^ 2 ^ r < 256 := by
  have h : (2 : Nat) ^ r < 2 ^ 8 := Nat.pow_lt_pow_right (by decide) hr
  exact Nat.xor_lt_two_pow (n := 8) hx h
theorem bit_same {x r i : Nat} (h : i ≠ r) : (x ^^^ 2 ^ r) / 2 ^ i % 2 = x / 2 ^ i % 2 := by
  have e := Nat.testBit_xor x (2 ^ r) i
  rw [Nat.testBit_two_pow, decide_eq_false (fun h2 => h h2.symm), Bool.xor_false, Nat.testBit_eq_decide_div_mod_eq, Nat.testBit_eq_decide_div_mod_eq] at e
  have e2 := decide_eq_decide.1 e
  omega
theorem bit_other (x r : Nat) : ¬ (x ^^^ 2 ^ r) / 2 ^ r % 2 = x / 2 ^ r % 2 := by
  have e := Nat.testBit_xor x (2 ^ r) r
  rw [Nat.testBit_two_pow, decide_eq_true rfl, Bool.xor_true, Nat.testBit_eq_decide_div_mod_eq, Nat.testBit_eq_decide_div_mod_eq] at e
  intro h
  rw [h] at e
  cases hd : decide (x / 2 ^ r % 2 = 1) <;> rw [hd] at e <;> cases e
theorem stp_mod {c b d : Nat} (h : b % 2 = d % 2) : stp c b = stp c d := by unfold stp; rw [h]
theorem stp_bit {c b d : Nat} (h : ¬ b % 2 = d % 2) : ¬ stp c b = stp c d := by
  have key : ∀ y : Nat, ¬ y = y ^^^ 2197175160 := fun y hy => by
    have h2 : y ^^^ y = y ^^^ (y ^^^ 2197175160) := by rw [← hy]
    rw [← Nat.xor_assoc, Nat.xor_self, Nat.zero_xor] at h2
    omega
  unfold stp
  by_cases c1 : c % 2 = b % 2
  · rw [if_pos c1, if_neg (by omega)]
    exact key _
  · rw [if_neg c1, if_pos (by omega)]
    exact fun h2 => key _ h2.symm
theorem cb_flip {c : Nat} (x : Nat) {r : Nat} (hc : c < 4294967296) : ∀ i, (i ≤ r → cb c x i = cb c (x ^^^ 2 ^ r) i) ∧ (r < i → ¬ cb c x i = cb c (x ^^^ 2 ^ r) i)
  | 0 => ⟨fun _ => rfl, fun h => absurd h (Nat.not_lt_zero r)⟩
  | i + 1 => by
    obtain ⟨h1, h2⟩ := cb_flip x (r := r) hc i
    refine ⟨fun h => ?_, fun h => ?_⟩
    · show stp (cb c x i) (x / 2 ^ i) = stp (cb c (x ^^^ 2 ^ r) i) ((x ^^^ 2 ^ r) / 2 ^ i)
      rw [← h1 (by omega)]
      exact stp_mod (bit_same (by omega)).symm
    · show ¬ stp (cb c x i) (x / 2 ^ i) = stp (cb c (x ^^^ 2 ^ r) i) ((x ^^^ 2 ^ r) / 2 ^ i)
      by_cases c2 : i = r
      · subst c2
        rw [← h1 (Nat.le_refl _)]
        exact stp_bit fun h3 => bit_other x i h3.symm
      · intro h3
        rw [stp_mod (bit_same (x := x) (r := r) c2)] at h3
        exact h2 (by omega) (stp_inj (cb_lt _ hc i) (cb_lt _ hc i) h3)
theorem ct_flip {c : Nat} {s : ByteArray} {q r : Nat} {v : UInt8} (hc : c < 4294967296) (hr : r < 8) (hv : v.toNat = bn s q ^^^ 2 ^ r) (hq : q < s.size) :
    ∀ i, (i ≤ q → ct c s i = ct c (setB s q v) i) ∧ (q < i → i ≤ s.size → ¬ ct c s i = ct c (setB s q v) i)
  | 0 => ⟨fun _ => rfl, fun h => absurd h (Nat.not_lt_zero q)⟩
  | i + 1 => by
    obtain ⟨h1, h2⟩ := ct_flip (c := c) hc hr hv hq i
    refine ⟨fun h => ?_, fun h hs => ?_⟩
    · show cb (ct c s i) (bn s i) 8 = cb (ct c (setB s q v) i) (bn (setB s q v) i) 8
      have e : bn (setB s q v) i = bn s i := by unfold bn; rw [bt_set, if_neg (fun h2 => by omega)]
      rw [← h1 (by omega), e]
    · show ¬ cb (ct c s i) (bn s i) 8 = cb (ct c (setB s q v) i) (bn (setB s q v) i) 8
      by_cases c2 : i = q
      · subst c2
        have e : bn (setB s i v) i = bn s i ^^^ 2 ^ r := by
          rw [← hv]
          unfold bn
          rw [bt_set, if_pos ⟨rfl, hq⟩]
          omega
        rw [← h1 (Nat.le_refl _), e]
        exact (cb_flip (bn s i) (ct_lt s hc i) 8).2 hr
      · have e : bn (setB s q v) i = bn s i := by unfold bn; rw [bt_set, if_neg (fun h3 => c2 h3.1.symm)]
        rw [e]
        exact fun h3 => h2 (by omega) (by omega) (cb_inj (ct_lt s hc i) (ct_lt _ hc i) 8 h3)
theorem crc_flip {t s : ByteArray} {q r : Nat} {v : UInt8} (hr : r < 8) (hv : v.toNat = bn s q ^^^ 2 ^ r) (hq : q < s.size) : ¬ crc (t ++ s) = crc (t ++ setB s q v) := by
  intro h
  unfold crc at h
  rw [ct_app, ct_app, setB_size] at h
  have h0 : ct 4294967295 t t.size < 4294967296 := ct_lt t (by decide) t.size
  have h1 : ct (ct 4294967295 t t.size) s s.size < 4294967296 := ct_lt s h0 s.size
  have h2 : ct (ct 4294967295 t t.size) (setB s q v) s.size < 4294967296 := ct_lt _ h0 s.size
  exact (ct_flip h0 hr hv hq s.size).2 hq (Nat.le_refl _) (by omega)
theorem num_flip {x : ByteArray} {q : Nat} {v : UInt8} (hq : q < 4) (hx : x.size = 4) (hv : ¬ (v.toNat : Int) = bt x q) : ¬ num x 0 4 = num (setB x q v) 0 4 := by
  have e : ∀ s : ByteArray, num s 0 4 = (((0 * 256 + bt s (0 + 0)) * 256 + bt s (0 + 1)) * 256 + bt s (0 + 2)) * 256 + bt s (0 + 3) := fun s => rfl
  rw [e, e]
  have r0 := bt_range x (0 + 0)
  have r1 := bt_range x (0 + 1)
  have r2 := bt_range x (0 + 2)
  have r3 := bt_range x (0 + 3)
  have hvl := v.toNat_lt
  have g := bt_set x q
  rcases (show q = 0 ∨ q = 1 ∨ q = 2 ∨ q = 3 by omega) with h | h | h | h
  · subst h
    have g0 := g (0 + 0) v; have g1 := g (0 + 1) v; have g2 := g (0 + 2) v; have g3 := g (0 + 3) v
    rw [if_pos ⟨rfl, by omega⟩] at g0
    rw [if_neg (by omega)] at g1 g2 g3
    simp only [Nat.zero_add] at *
    omega
  · subst h
    have g0 := g (0 + 0) v; have g1 := g (0 + 1) v; have g2 := g (0 + 2) v; have g3 := g (0 + 3) v
    rw [if_pos ⟨rfl, by omega⟩] at g1
    rw [if_neg (by omega)] at g0 g2 g3
    simp only [Nat.zero_add] at *
    omega
  · subst h
    have g0 := g (0 + 0) v; have g1 := g (0 + 1) v; have g2 := g (0 + 2) v; have g3 := g (0 + 3) v
    rw [if_pos ⟨rfl, by omega⟩] at g2
    rw [if_neg (by omega)] at g0 g1 g3
    simp only [Nat.zero_add] at *
    omega
  · subst h
    have g0 := g (0 + 0) v; have g1 := g (0 + 1) v; have g2 := g (0 + 2) v; have g3 := g (0 + 3) v
    rw [if_pos ⟨rfl, by omega⟩] at g3
    rw [if_neg (by omega)] at g0 g1 g2
    simp only [Nat.zero_add] at *
    omega

theorem flip_ne (x r : Nat) : ¬ x ^^^ 2 ^ r = x := fun h => bit_other x r (by rw [h])

/-- A frame in whose check sum or body one bit is turned is none. -/
theorem frame_spoilt {p b r : ByteArray} {q u : Nat} {v : UInt8} (h2 : b.size ≤ 4096) (hu : u < 8) (hq : q < b.size + 4) (hv : v.toNat = bn (p ++ fr b ++ r) (p.size + 2 + q) ^^^ 2 ^ u) :
    ¬ qE (setB (p ++ fr b ++ r) (p.size + 2 + q) v) (p.size : Int) = 0 := by
  have e0 : p ++ fr b ++ r = (p ++ two b) ++ (beB 4 (crc (two b ++ b) : Int) ++ (b ++ r)) := by unfold fr; simp [ByteArray.append_assoc]
  have z2 : (p ++ two b).size = p.size + 2 := by rw [size_app, two_size]
  have hx := beB_size 4 (crc (two b ++ b) : Int)
  have hn := num_four (crc_lt (two b ++ b))
  rw [e0] at hv ⊢
  generalize hX : beB 4 (crc (two b ++ b) : Int) = x at *
  rw [setB_right _ _ _ (by omega), z2, Nat.add_sub_cancel_left]
  have hv' : v.toNat = bn (x ++ (b ++ r)) q ^^^ 2 ^ u := by
    rw [hv]
    unfold bn
    rw [bt_right _ _ (by omega), z2, Nat.add_sub_cancel_left]
  intro h
  by_cases c : q < 4
  · rw [setB_left _ _ (by omega)] at h
    have hT : (p ++ two b) ++ (setB x q v ++ (b ++ r)) = p ++ two b ++ setB x q v ++ b ++ r := by simp [ByteArray.append_assoc]
    obtain ⟨a1, a2, a3, a4, a5⟩ := frame_at hT (by rw [setB_size]; exact hx) rfl (by omega)
    have hp := (q_place h).2.2.2
    have hvx : ¬ (v.toNat : Int) = bt x q := by
      have hb : bn (x ++ (b ++ r)) q = bn x q := by unfold bn; rw [bt_left _ (by omega)]
      rw [hb] at hv'
      rw [← bn_int]
      have := flip_ne (bn x q) u
      omega
    exact num_flip c hx hvx (by omega)
  · rw [setB_right _ _ _ (by omega), hx, setB_left _ _ (by omega)] at h
    have hT : (p ++ two b) ++ (x ++ (setB b (q - 4) v ++ r)) = p ++ two b ++ x ++ setB b (q - 4) v ++ r := by simp [ByteArray.append_assoc]
    obtain ⟨a1, a2, a3, a4, a5⟩ := frame_at hT hx (setB_size _ _ _) (by omega)
    have hp := (q_place h).2.2.2
    have hvb : v.toNat = bn b (q - 4) ^^^ 2 ^ u := by
      rw [hv']
      unfold bn
      rw [bt_right _ _ (by omega), hx, bt_left _ (by omega)]
    exact crc_flip (t := two b) hu hvb (by omega) (by omega)

/-- Of frames in which one bit of a check sum or a body is turned just those ahead are read. -/
theorem bits_fst {l : List ByteArray} (hg : Framable l) {k q u : Nat} {v : UInt8} (hk : k < l.length) (hu : u < 8) (hq : q < (l[k]'hk).size + 4)
    (hv : v.toNat = bn (frs l) ((frs (l.take k)).size + 2 + q) ^^^ 2 ^ u) :
    Fst (setB (frs l) ((frs (l.take k)).size + 2 + q) v) k ∧ pl (setB (frs l) ((frs (l.take k)).size + 2 + q) v) k = (frs (l.take k)).size ∧ ∀ i (h : i < l.length), i < k → bd (setB (frs l) ((frs (l.take k)).size + 2 + q) v) i = l[i] := by
  have hl : l = l.take k ++ (l[k] :: l.drop (k + 1)) := by
    rw [← List.drop_eq_getElem_cons hk, List.take_append_drop]
  have hS : frs l = frs (l.take k) ++ fr l[k] ++ frs (l.drop (k + 1)) := by
    conv => lhs; rw [hl]
    rw [frs_app]
    show frs (l.take k) ++ (fr l[k] ++ frs (l.drop (k + 1))) = _
    simp [ByteArray.append_assoc]
  have hT : setB (frs l) ((frs (l.take k)).size + 2 + q) v = frs (l.take k) ++ setB (fr l[k] ++ frs (l.drop (k + 1))) (2 + q) v := by
    rw [hS, ByteArray.append_assoc, setB_right _ _ _ (by omega)]
    congr 2
    omega
  have hg2 : Framable (l.take k) := fun b hb => hg b (List.mem_of_mem_take hb)
  have hlen : (l.take k).length = k := by rw [List.length_take]; omega
  obtain ⟨f1, f2, f3⟩ := frames_back hT hg2 k (by omega)
  rw [List.take_take, Nat.min_self] at f2
  refine ⟨⟨f1, ?_⟩, f2, fun i h hi => ?_⟩
  · rw [f2]
    have hb := hg l[k] (List.getElem_mem _)
    rw [hS] at hv ⊢
    exact frame_spoilt hb.2 hu hq hv
  · rw [f3 i (by omega) hi, List.getElem_take]

end Go.Proofs.Ytimgeopinokklaa.M
