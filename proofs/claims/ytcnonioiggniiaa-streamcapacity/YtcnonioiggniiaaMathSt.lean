/-
  Plain facts on streams: a head ('hdS', 'hG', 'hH'), the records of a region's sectors ('dtOf', 'Bods', 'Recs'), the greatest generation ('gg'), a region that a stream has laid ('Gd'), and what is left of it behind a loss of power. Nothing is asked but what each fact names.
-/
import Derived.Test.YtcnonioiggniiaaMathAr
import Derived.Test.YtcnonioiggniiaaMathY
import Derived.Test.YtcnonioiggniiaaMathDk
namespace Go.Proofs.Ytcnonioiggniiaa.M

/-- These bodies stand in a text, frame by frame, and no more. -/
def Bods (T : ByteArray) (L : List ByteArray) : Prop := Fst T L.length ∧ ∀ i (h : i < L.length), bd T i = L[i]
theorem bods_one {T : ByteArray} {L K : List ByteArray} (h : Bods T L) (k : Bods T K) : L = K := by
  have e := fst_one h.1 k.1
  apply List.ext_getElem e
  intro i h1 h2
  rw [← h.2 i h1, ← k.2 i h2]
theorem bods_of {L : List ByteArray} {r T : ByteArray} (hT : T = frs L ++ r) (hg : Framable L) (hr : ¬ qE T ((frs L).size : Int) = 0) : Bods T L := by
  obtain ⟨u, e, d⟩ := frames_back hT hg L.length (Nat.le_refl _)
  rw [List.take_length] at e
  exact ⟨⟨u, by rw [e]; exact hr⟩, fun i h => d i h h⟩
theorem bods_whole {L : List ByteArray} (hg : Framable L) : Bods (frs L) L := by
  refine bods_of (r := ⟨#[]⟩) (app_empty _).symm hg fun h => ?_
  have := q_place h
  omega
theorem fr_two (b : ByteArray) (p r : ByteArray) (hb : b.size ≤ 4096) : n2 (p ++ (fr b ++ r)) p.size = b.size := by
  have h1 : (n2 (p ++ (fr b ++ r)) p.size : Int) = (b.size : Int) := by
    rw [n2_int, num_right]
    have e : fr b ++ r = two b ++ (beB 4 (crc (two b ++ b) : Int) ++ b ++ r) := by
      unfold fr
      simp [ByteArray.append_assoc]
    rw [e, num_left _ _ _ _ (by rw [two_size]; exact Nat.le_refl _)]
    unfold two
    rw [num_whole (by omega)]
    have : ((256 ^ 2 : Nat) : Int) = 65536 := by decide
    rw [this]
    omega
  omega
theorem num_ext (a b : ByteArray) (p : Nat) : ∀ k, (∀ j, j < k → bt a (p + j) = bt b (p + j)) → num a p k = num b p k
  | 0, _ => rfl
  | k + 1, h => by
    show num a p k * 256 + bt a (p + k) = num b p k * 256 + bt b (p + k)
    rw [num_ext a b p k fun j hj => h j (by omega), h k (by omega)]
theorem bt_ext (a : ByteArray) (t : Nat) {j : Nat} (h : j < t) : bt (a.extract 0 t) j = bt a j := by
  unfold bt
  by_cases c : j < a.size
  · have c2 : j < (a.extract 0 t).size := by rw [ByteArray.size_extract]; omega
    rw [dif_pos c, dif_pos c2, ByteArray.getElem_extract]
    simp
  · have c2 : ¬ j < (a.extract 0 t).size := by rw [ByteArray.size_extract]; omega
    rw [dif_neg c, dif_neg c2]
/-- A frame that is cut off is none. -/
theorem no_cut (p b : ByteArray) (hb : b.size ≤ 4096) {t : Nat} (ht : t < (fr b).size) : ¬ qE (p ++ (fr b).extract 0 t) (p.size : Int) = 0 := fun h => by
  obtain ⟨h1, _, h3, _⟩ := q_place h
  have hz : ((fr b).extract 0 t).size = t := by rw [ByteArray.size_extract]; omega
  rw [size_app, hz] at h3
  have e : n2 (p ++ (fr b).extract 0 t) p.size = b.size := by
    have h2 := fr_two b p ⟨#[]⟩ hb
    rw [app_empty] at h2
    rw [← h2]
    have : num (p ++ (fr b).extract 0 t) p.size 2 = num (p ++ fr b) p.size 2 := by
      rw [num_right, num_right]
      exact num_ext _ _ 0 2 fun j hj => bt_ext _ _ (by omega)
    unfold n2
    rw [this]
  rw [fr_size] at ht
  omega
theorem bods_cut {L : List ByteArray} (hg : Framable L) (b : ByteArray) (hb : b.size ≤ 4096) {t : Nat} (ht : t < (fr b).size) : Bods (frs L ++ (fr b).extract 0 t) L :=
  bods_of rfl hg (no_cut _ b hb ht)

/-- A head. -/
def nameB : ByteArray := ⟨#[80, 82, 69, 67, 73, 78, 67, 84]⟩
def hdS (g : Int) (half : Nat) : ByteArray := nameB ++ beB 6 g ++ oneB (half : Int) ++ zz 49
theorem hdS_size (g : Int) (half : Nat) : (hdS g half).size = 64 := by
  unfold hdS
  rw [size_app, size_app, size_app, beB_size, oneB_size, zz_size]
  rfl
def hNum (s : ByteArray) : Int := num s 8 6
def hIs (s : ByteArray) (half : Nat) : Bool := decide (0 < hNum s ∧ hdS (hNum s) half = s)
/-- Its generation; 0: it is none. -/
def hG (s : ByteArray) : Int := if hIs s 0 = true ∨ hIs s 1 = true then hNum s else 0
def hH (s : ByteArray) : Nat := if hIs s 0 = true then 0 else 1
theorem hNum_range (s : ByteArray) : 0 ≤ hNum s ∧ hNum s ≤ 281474976710655 := by
  have h := num_range s 8 6
  have e : (256 : Int) ^ 6 = 281474976710656 := by decide
  unfold hNum
  omega
theorem hG_range (s : ByteArray) : 0 ≤ hG s ∧ hG s ≤ 281474976710655 := by
  have := hNum_range s
  unfold hG
  split
  · exact this
  · omega
theorem hH_lt (s : ByteArray) : hH s < 2 := by unfold hH; split <;> omega
theorem hNum_back {g : Int} (hg : 0 ≤ g ∧ g ≤ 281474976710655) (half : Nat) : hNum (hdS g half) = g := by
  have e : hdS g half = nameB ++ (beB 6 g ++ (oneB (half : Int) ++ zz 49)) := by
    unfold hdS
    simp [ByteArray.append_assoc]
  have := num_right nameB (beB 6 g ++ (oneB (half : Int) ++ zz 49)) 6
  have z : nameB.size = 8 := rfl
  rw [z, ← e] at this
  unfold hNum
  rw [this, num_left _ _ _ _ (by rw [beB_size]; exact Nat.le_refl _), num_whole (by omega)]
  have : ((256 ^ 6 : Nat) : Int) = 281474976710656 := by decide
  rw [this]
  omega
theorem hdS_byte (g : Int) (half : Nat) : bt (hdS g half) 14 = bt (oneB (half : Int)) 0 := by
  have z : (nameB ++ beB 6 g).size = 14 := by rw [size_app, beB_size]; rfl
  unfold hdS
  rw [bt_left _ (by rw [size_app, z, oneB_size]; omega), bt_right _ _ (by rw [z]; omega), z]
theorem hdS_halves (g : Int) : ¬ hdS g 0 = hdS g 1 := fun e => by
  have h0 := hdS_byte g 0
  have h1 := hdS_byte g 1
  rw [← e, h0] at h1
  revert h1
  decide
theorem head_back {g : Int} (hg : 1 ≤ g ∧ g ≤ 281474976710655) {half : Nat} (hh : half < 2) : hG (hdS g half) = g ∧ hH (hdS g half) = half := by
  have hn := hNum_back ⟨by omega, hg.2⟩ half
  have y : hIs (hdS g half) half = true := decide_eq_true ⟨by rw [hn]; omega, by rw [hn]⟩
  have n : half = 1 → hIs (hdS g half) 0 = false := fun e => by
    subst e
    refine decide_eq_false fun c => ?_
    rw [hn] at c
    exact hdS_halves g c.2
  unfold hG hH
  match half, hh, y, n, hn with
  | 0, _, y, _, hn => rw [if_pos (.inl y), if_pos y]; exact ⟨hn, rfl⟩
  | 1, _, y, n, hn => rw [if_pos (.inr y), n rfl]; exact ⟨hn, rfl⟩

/-- What a region's sectors hold together. -/
def dtOf (y : Nat → ByteArray) (h : Nat) : ByteArray := if 0 < hG (y 0) then jn (fun j => y (1 + hH (y 0) * h + j)) (hG (y 0)) 0 h else ⟨#[]⟩
/-- Its records. -/
def Recs (y : Nat → ByteArray) (h : Nat) (L : List ByteArray) : Prop := Bods (dtOf y h) L
/-- The greatest generation. -/
def gg (y : Nat → ByteArray) (h : Nat) : Int := max (hG (y 0)) (nw (fun j => y (1 + j)) (2 * h))

theorem jn_congr {y z : Nat → ByteArray} {g : Int} : ∀ m k, (∀ j, k ≤ j → j < k + m → y j = z j) → jn y g k m = jn z g k m
  | 0, _, _ => rfl
  | m + 1, k, h => by
    have e := h k (Nat.le_refl _) (by omega)
    have ih := jn_congr m (k + 1) (y := y) (z := z) (g := g) fun j h1 h2 => h j (by omega) (by omega)
    have ej : jOk y g k = jOk z g k := by unfold jOk; rw [e]
    cases c : jOk y g k with
    | false => rw [jn_no c, jn_no (by rw [← ej]; exact c)]
    | true =>
      by_cases hs : (pD (y k)).size < 55
      · rw [jn_end c hs, jn_end (by rw [← ej]; exact c) (by rw [← e]; exact hs), e]
      · rw [jn_on c hs, jn_on (by rw [← ej]; exact c) (by rw [← e]; exact hs), e, ih]
theorem dt_congr {y z : Nat → ByteArray} {h : Nat} (h0 : y 0 = z 0) (hc : ∀ j, j < h → y (1 + hH (y 0) * h + j) = z (1 + hH (y 0) * h + j)) : dtOf y h = dtOf z h := by
  unfold dtOf
  rw [← h0]
  by_cases c : 0 < hG (y 0)
  · rw [if_pos c, if_pos c]
    exact jn_congr h 0 fun j _ hj => hc j (by omega)
  · rw [if_neg c, if_neg c]
theorem nw_le {y : Nat → ByteArray} {G : Int} (hG : 0 ≤ G) : ∀ n, (∀ j, j < n → pOk (y j) = true → pG (y j) ≤ G) → nw y n ≤ G
  | 0, _ => hG
  | n + 1, h => by
    have ih := nw_le hG n fun j hj => h j (by omega)
    cases c : pOk (y n) with
    | false => rw [nw_no c]; exact ih
    | true =>
      rw [nw_yes c]
      have := h n (by omega) c
      omega

end Go.Proofs.Ytcnonioiggniiaa.M
