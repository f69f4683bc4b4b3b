/-
  Plain facts, several texts in one: MathSt MathSu MathSv MathSw MathSx MathSy MathSz MathTa MathTb. Nothing is asked but what each fact names.
-/
import Derived.Test.YtaojoecmbgmhoaaPa
namespace Go.Proofs.Ytaojoecmbgmhoaa.M

/-- These bodies stand in a text, frame by frame, and no more. -/
def Bods (T : ByteArray) (L : List ByteArray) : Prop := Fst T L.length ∧ ∀ i (h : i < L.length), bd T i = L[i]
theorem bods_one {T : ByteArray} {L K : List ByteArray} (h : Bods T L) (k : Bods T K) : L = K := by
  have e := fst_one h.1 k.1
  apply List.ext_getElem e
  intro i h1 h2
  rw [← h.2 i h1, ← k.2 i h2]
theorem bods_of {L : List ByteArray} {r T : ByteArray} (hT : T = frs L ++ r) (hg : Framable L) (hr : ¬ qE T ((frs L).size : Int) = 0) : Bods T L := by
  obtain ⟨u, e, d⟩ := frames_back hT hg L.length (Nat.le_refl _)
  rw [List.take_length] at e
  exact ⟨⟨u, by rw [e]; exact hr⟩, fun i h => d i h h⟩
theorem bods_whole {L : List ByteArray} (hg : Framable L) : Bods (frs L) L := by
  refine bods_of (r := ⟨#[]⟩) (app_empty _).symm hg fun h => ?_
  have := q_place h
  omega
theorem fr_two (b : ByteArray) (p r : ByteArray) (hb : b.size ≤ 4096) : n2 (p ++ (fr b ++ r)) p.size = b.size := by
  have h1 : (n2 (p ++ (fr b ++ r)) p.size : Int) = (b.size : Int) := by
    rw [n2_int, num_right]
    have e : fr b ++ r = two b ++ (beB 4 (crc (two b ++ b) : Int) ++ b ++ r) := by
      unfold fr
      simp [ByteArray.append_assoc]
    rw [e, num_left _ _ _ _ (by rw [two_size]; exact Nat.le_refl _)]
    unfold two
    rw [num_whole (by omega)]
    have : ((256 ^ 2 : Nat) : Int) = 65536 := by decide
    rw [this]
    omega
  omega
theorem num_ext (a b : ByteArray) (p : Nat) : ∀ k, (∀ j, j < k → bt a (p + j) = bt b (p + j)) → num a p k = num b p k
  | 0, _ => rfl
  | k + 1, h => by
    show num a p k * 256 + bt a (p + k) = num b p k * 256 + bt b (p + k)
    rw [num_ext a b p k fun j hj => h j (by omega), h k (by omega)]
theorem bt_ext (a : ByteArray) (t : Nat) {j : Nat} (h : j < t) : bt (a.extract 0 t) j = bt a j := by
  unfold bt
  by_cases c : j < a.size
  · have c2 : j < (a.extract 0 t).size := by rw [ByteArray.size_extract]; omega
    rw [dif_pos c, dif_pos c2, ByteArray.getElem_extract]
    simp
  · have c2 : ¬ j < (a.extract 0 t).size := by rw [ByteArray.size_extract]; omega
    rw [dif_neg c, dif_neg c2]
/-- A frame that is cut off is none. -/
theorem no_cut (p b : ByteArray) (hb : b.size ≤ 4096) {t : Nat} (ht : t < (fr b).size) : ¬ qE (p ++ (fr b).extract 0 t) (p.size : Int) = 0 := fun h => by
  obtain ⟨h1, _, h3, _⟩ := q_place h
  have hz : ((fr b).extract 0 t).size = t := by rw [ByteArray.size_extract]; omega
  rw [size_app, hz] at h3
  have e : n2 (p ++ (fr b).extract 0 t) p.size = b.size := by
    have h2 := fr_two b p ⟨#[]⟩ hb
    rw [app_empty] at h2
    rw [← h2]
    have : num (p ++ (fr b).extract 0 t) p.size 2 = num (p ++ fr b) p.size 2 := by
      rw [num_right, num_right]
      exact num_ext _ _ 0 2 fun j hj => bt_ext _ _ (by omega)
    unfold n2
    rw [this]
  rw [fr_size] at ht
  omega
theorem bods_cut {L : List ByteArray} (hg : Framable L) (b : ByteArray) (hb : b.size ≤ 4096) {t : Nat} (ht : t < (fr b).size) : Bods (frs L ++ (fr b).extract 0 t) L :=
  bods_of rfl hg (no_cut _ b hb ht)

/-- A head. -/
def nameB : ByteArray := ⟨#[80, 82, 69, 67, 73, 78, 67, 84]⟩
def hdS (g : Int) (half : Nat) : ByteArray := nameB ++ beB 6 g ++ oneB (half : Int) ++ zz 49
theorem hdS_size (g : Int) (half : Nat) : (hdS g half).size = 64 := by
  unfold hdS
  rw [size_app, size_app, size_app, beB_size, oneB_size, zz_size]
  rfl
def hNum (s : ByteArray) : Int := num s 8 6
def hIs (s : ByteArray) (half : Nat) : Bool := decide (0 < hNum s ∧ hdS (hNum s) half = s)
/-- Its generation; 0: it is none. -/
def hG (s : ByteArray) : Int := if hIs s 0 = true ∨ hIs s 1 = true then hNum s else 0
def hH (s : ByteArray) : Nat := if hIs s 0 = true then 0 else 1
theorem hNum_range (s : ByteArray) : 0 ≤ hNum s ∧ hNum s ≤ 281474976710655 := by
  have h := num_range s 8 6
  have e : (256 : Int) ^ 6 = 281474976710656 := by decide
  unfold hNum
  omega
theorem hG_range (s : ByteArray) : 0 ≤ hG s ∧ hG s ≤ 281474976710655 := by
  have := hNum_range s
  unfold hG
  split
  · exact this
  · omega
theorem hH_lt (s : ByteArray) : hH s < 2 := by unfold hH; split <;> omega
theorem hNum_back {g : Int} (hg : 0 ≤ g ∧ g ≤ 281474976710655) (half : Nat) : hNum (hdS g half) = g := by
  have e : hdS g half = nameB ++ (beB 6 g ++ (oneB (half : Int) ++ zz 49)) := by
    unfold hdS
    simp [ByteArray.append_assoc]
  have := num_right nameB (beB 6 g ++ (oneB (half : Int) ++ zz 49)) 6
  have z : nameB.size = 8 := rfl
  rw [z, ← e] at this
  unfold hNum
  rw [this, num_left _ _ _ _ (by rw [beB_size]; exact Nat.le_refl _), num_whole (by omega)]
  have : ((256 ^ 6 : Nat) : Int) = 281474976710656 := by decide
  rw [this]
  omega
theorem hdS_byte (g : Int) (half : Nat) : bt (hdS g half) 14 = bt (oneB (half : Int)) 0 := by
  have z : (nameB ++ beB 6 g).size = 14 := by rw [size_app, beB_size]; rfl
  unfold hdS
  rw [bt_left _ (by rw [size_app, z, oneB_size]; omega), bt_right _ _ (by rw [z]; omega), z]
theorem hdS_halves (g : Int) : ¬ hdS g 0 = hdS g 1 := fun e => by
  have h0 := hdS_byte g 0
  have h1 := hdS_byte g 1
  rw [← e, h0] at h1
  revert h1
  decide
theorem head_back {g : Int} (hg : 1 ≤ g ∧ g ≤ 281474976710655) {half : Nat} (hh : half < 2) : hG (hdS g half) = g ∧ hH (hdS g half) = half := by
  have hn := hNum_back ⟨by omega, hg.2⟩ half
  have y : hIs (hdS g half) half = true := decide_eq_true ⟨by rw [hn]; omega, by rw [hn]⟩
  have n : half = 1 → hIs (hdS g half) 0 = false := fun e => by
    subst e
    refine decide_eq_false fun c => ?_
    rw [hn] at c
    exact hdS_halves g c.2
  unfold hG hH
  match half, hh, y, n, hn with
  | 0, _, y, _, hn => rw [if_pos (.inl y), if_pos y]; exact ⟨hn, rfl⟩
  | 1, _, y, n, hn => rw [if_pos (.inr y), n rfl]; exact ⟨hn, rfl⟩

/-- What a region's sectors hold together. -/
def dtOf (y : Nat → ByteArray) (h : Nat) : ByteArray := if 0 < hG (y 0) then jn (fun j => y (1 + hH (y 0) * h + j)) (hG (y 0)) 0 h else ⟨#[]⟩
/-- Its records. -/
def Recs (y : Nat → ByteArray) (h : Nat) (L : List ByteArray) : Prop := Bods (dtOf y h) L
/-- The greatest generation. -/
def gg (y : Nat → ByteArray) (h : Nat) : Int := max (hG (y 0)) (nw (fun j => y (1 + j)) (2 * h))

theorem jn_congr {y z : Nat → ByteArray} {g : Int} : ∀ m k, (∀ j, k ≤ j → j < k + m → y j = z j) → jn y g k m = jn z g k m
  | 0, _, _ => rfl
  | m + 1, k, h => by
    have e := h k (Nat.le_refl _) (by omega)
    have ih := jn_congr m (k + 1) (y := y) (z := z) (g := g) fun j h1 h2 => h j (by omega) (by omega)
    have ej : jOk y g k = jOk z g k := by unfold jOk; rw [e]
    cases c : jOk y g k with
    | false => rw [jn_no c, jn_no (by rw [← ej]; exact c)]
    | true =>
      by_cases hs : (pD (y k)).size < 55
      · rw [jn_end c hs, jn_end (by rw [← ej]; exact c) (by rw [← e]; exact hs), e]
      · rw [jn_on c hs, jn_on (by rw [← ej]; exact c) (by rw [← e]; exact hs), e, ih]
theorem dt_congr {y z : Nat → ByteArray} {h : Nat} (h0 : y 0 = z 0) (hc : ∀ j, j < h → y (1 + hH (y 0) * h + j) = z (1 + hH (y 0) * h + j)) : dtOf y h = dtOf z h := by
  unfold dtOf
  rw [← h0]
  by_cases c : 0 < hG (y 0)
  · rw [if_pos c, if_pos c]
    exact jn_congr h 0 fun j _ hj => hc j (by omega)
  · rw [if_neg c, if_neg c]
theorem nw_le {y : Nat → ByteArray} {G : Int} (hG : 0 ≤ G) : ∀ n, (∀ j, j < n → pOk (y j) = true → pG (y j) ≤ G) → nw y n ≤ G
  | 0, _ => hG
  | n + 1, h => by
    have ih := nw_le hG n fun j hj => h j (by omega)
    cases c : pOk (y n) with
    | false => rw [nw_no c]; exact ih
    | true =>
      rw [nw_yes c]
      have := h n (by omega) c
      omega

end Go.Proofs.Ytaojoecmbgmhoaa.M

namespace Go.Proofs.Ytaojoecmbgmhoaa.M

/-- A region of two halves of h sectors, in which a stream has laid its records, with this generation, in this half. -/
structure Gd (y : Nat → ByteArray) (h : Nat) (g : Int) (half : Nat) (L : List ByteArray) : Prop where
  g1 : 1 ≤ g ∧ g ≤ 281474976710655
  hf : half < 2
  hh : h ≤ 2047
  head : y 0 = hdS g half
  fr : Framable L
  cap : (frs L).size + 1 ≤ 55 * h
  cells : ∀ j, j ≤ (frs L).size / 55 → y (1 + half * h + j) = sp g 0 (frs L) j
  rest : ∀ j, (frs L).size / 55 < j → j < h → ¬ (pOk (y (1 + half * h + j)) = true ∧ pG (y (1 + half * h + j)) = g)
  gens : ∀ j, j < 2 * h → pOk (y (1 + j)) = true → pG (y (1 + j)) ≤ g

theorem dt_head {y : Nat → ByteArray} {h : Nat} {g : Int} {half : Nat} (h0 : y 0 = hdS g half) (hg : 1 ≤ g ∧ g ≤ 281474976710655) (hf : half < 2) : dtOf y h = jn (fun j => y (1 + half * h + j)) g 0 h := by
  obtain ⟨e1, e2⟩ := head_back hg hf
  unfold dtOf
  rw [h0, e1, e2, if_pos (by omega)]
theorem Gd.data {y : Nat → ByteArray} {h : Nat} {g : Int} {half : Nat} {L : List ByteArray} (G : Gd y h g half L) : dtOf y h = frs L := by
  have hc := G.cap
  have hh := G.hh
  rw [dt_head G.head G.g1 G.hf]
  have := jn_back (y := fun j => y (1 + half * h + j)) (d := frs L) G.g1 (by omega) G.cells (h - 1 - (frs L).size / 55) ((frs L).size / 55) 0 (by omega)
  rw [rs_zero, show (frs L).size / 55 + (h - 1 - (frs L).size / 55) + 1 = h by omega] at this
  exact this
theorem Gd.recs {y : Nat → ByteArray} {h : Nat} {g : Int} {half : Nat} {L : List ByteArray} (G : Gd y h g half L) : Recs y h L := by
  unfold Recs
  rw [G.data]
  exact bods_whole G.fr
theorem Gd.gg {y : Nat → ByteArray} {h : Nat} {g : Int} {half : Nat} {L : List ByteArray} (G : Gd y h g half L) : gg y h = g := by
  have hn := nw_le (y := fun j => y (1 + j)) (G := g) (by have := G.g1; omega) (2 * h) G.gens
  unfold M.gg
  rw [G.head, (head_back G.g1 G.hf).1]
  omega

/-- The pieces of data that more stands behind. -/
theorem pc_more (d f : ByteArray) {j : Nat} (h : 55 * j + 55 ≤ d.size) : pc (d ++ f) j = pc d j := by
  unfold pc
  have hs := size_app d f
  rw [Nat.min_eq_left h, Nat.min_eq_left (by omega)]
  apply ByteArray.ext
  rw [ByteArray.data_extract, ByteArray.data_extract, ByteArray.data_append, Array.extract_append]
  have e : f.data.extract (55 * j - d.data.size) (55 * j + 55 - d.data.size) = #[] := by
    apply Array.eq_empty_of_size_eq_zero
    rw [Array.size_extract]
    have : d.data.size = d.size := rfl
    omega
  rw [e]
  simp
theorem sp_more (g : Int) (d f : ByteArray) {j : Nat} (h : 55 * j + 55 ≤ d.size) : sp g 0 (d ++ f) j = sp g 0 d j := by
  unfold sp
  rw [pc_more d f h]
theorem ext_more (d f : ByteArray) {t : Nat} (h : d.size ≤ t) : (d ++ f).extract 0 t = d ++ f.extract 0 (t - d.size) := by
  apply ByteArray.ext
  rw [ByteArray.data_extract, ByteArray.data_append, ByteArray.data_append, ByteArray.data_extract, Array.extract_append]
  have e : d.data.extract 0 t = d.data := by
    have : d.data.size = d.size := rfl
    apply Array.ext
    · rw [Array.size_extract]; omega
    · intro i h1 h2
      simp
  have e2 : d.data.size = d.size := rfl
  rw [e, e2, Nat.zero_sub]

/-- The first index, from k on, at which something doesn't hold. -/
theorem first_not (P : Nat → Prop) (n : Nat) : ∀ k, k ≤ n → (∀ j, j < k → P j) → (∀ j, j < n → P j) ∨ ∃ e, k ≤ e ∧ e < n ∧ ¬ P e ∧ ∀ j, j < e → P j := by
  intro k hk hP
  obtain ⟨m, hm⟩ : ∃ m, n = k + m := ⟨n - k, by omega⟩
  induction m generalizing k with
  | zero => exact .inl fun j hj => hP j (by omega)
  | succ m ih =>
    by_cases c : P k
    · rcases ih (k + 1) (by omega) (fun j hj => by
        by_cases e : j = k
        · rw [e]; exact c
        · exact hP j (by omega)) (by omega) with h | ⟨e, h1, h2, h3⟩
      · exact .inl h
      · exact .inr ⟨e, by omega, h2, h3⟩
    · exact .inr ⟨k, Nat.le_refl _, by omega, c, hP⟩

/-- Behind a loss of power in an Append: of the sectors that it writes each is the new one or what was there. -/
theorem Gd.mix {y z : Nat → ByteArray} {h : Nat} {g : Int} {half : Nat} {L : List ByteArray} (G : Gd y h g half L) {b : ByteArray} (hb : 1 ≤ b.size ∧ b.size ≤ 4096) (hc : (frs (L ++ [b])).size + 1 ≤ 55 * h)
    (hout : ∀ k, (k < 1 + half * h + (frs L).size / 55 ∨ 1 + half * h + h ≤ k) → z k = y k)
    (hin : ∀ j, (frs L).size / 55 ≤ j → j < h → z (1 + half * h + j) = y (1 + half * h + j) ∨ (j ≤ (frs (L ++ [b])).size / 55 ∧ z (1 + half * h + j) = sp g 0 (frs (L ++ [b])) j)) :
    (Recs z h L ∨ Recs z h (L ++ [b])) ∧ M.gg z h = g := by
  have hD : frs (L ++ [b]) = frs L ++ M.fr b := frs_snoc L b
  have hs : (frs (L ++ [b])).size = (frs L).size + (b.size + 6) := by rw [hD, size_app, fr_size]
  have hh := G.hh
  have hcap := G.cap
  have hf := G.hf
  have h0 : z 0 = hdS g half := by rw [hout 0 (.inl (by omega)), G.head]
  have hfr : Framable (L ++ [b]) := fun x hx => by
    rcases List.mem_append.1 hx with hx | hx
    · exact G.fr x hx
    · rw [List.mem_singleton] at hx
      subst hx
      exact hb
  constructor
  · have hdt := dt_head (y := z) (h := h) h0 G.g1 hf
    have hlow : ∀ j, j < (frs L).size / 55 → z (1 + half * h + j) = sp g 0 (frs (L ++ [b])) j := fun j hj => by
      rw [hout _ (.inl (by omega)), G.cells j (by omega), hD, sp_more _ _ _ (by omega)]
    rcases hin ((frs L).size / 55) (Nat.le_refl _) (by omega) with ho | ⟨_, hn⟩
    · -- the last cell is as it was
      left
      unfold Recs
      have : dtOf z h = frs L := by
        rw [hdt]
        have := jn_back (y := fun j => z (1 + half * h + j)) (d := frs L) G.g1 (by omega) (fun j hj => by
          by_cases e : j = (frs L).size / 55
          · subst e
            show z (1 + half * h + (frs L).size / 55) = _
            rw [ho]
            exact G.cells _ (Nat.le_refl _)
          · show z (1 + half * h + j) = _
            rw [hout _ (.inl (by omega))]
            exact G.cells j hj) (h - 1 - (frs L).size / 55) ((frs L).size / 55) 0 (by omega)
        rw [rs_zero, show (frs L).size / 55 + (h - 1 - (frs L).size / 55) + 1 = h by omega] at this
        exact this
      rw [this]
      exact bods_whole G.fr
    · -- it is the new one
      rcases first_not (fun j => z (1 + half * h + j) = sp g 0 (frs (L ++ [b])) j) ((frs (L ++ [b])).size / 55 + 1) ((frs L).size / 55 + 1) (by omega) (fun j hj => by
        by_cases e : j = (frs L).size / 55
        · rw [e]; exact hn
        · exact hlow j (by omega)) with hall | ⟨e, e1, e2, e3, e4⟩
      · right
        unfold Recs
        have : dtOf z h = frs (L ++ [b]) := by
          rw [hdt]
          have := jn_back (y := fun j => z (1 + half * h + j)) (d := frs (L ++ [b])) G.g1 (by omega) (fun j hj => hall j (by omega)) (h - 1 - (frs (L ++ [b])).size / 55) ((frs (L ++ [b])).size / 55) 0 (by omega)
          rw [rs_zero, show (frs (L ++ [b])).size / 55 + (h - 1 - (frs (L ++ [b])).size / 55) + 1 = h by omega] at this
          exact this
        rw [this]
        exact bods_whole hfr
      · have hno : jOk (fun j => z (1 + half * h + j)) g e = false := by
          rw [Bool.eq_false_iff]
          intro c
          obtain ⟨c1, c2, _⟩ := j_of c
          rcases hin e (by omega) (by omega) with ho | ⟨_, hn2⟩
          · have c1' : pOk (z (1 + half * h + e)) = true := c1
            have c2' : pG (z (1 + half * h + e)) = g := c2
            rw [ho] at c1' c2'
            exact G.rest e (by omega) (by omega) ⟨c1', c2'⟩
          · exact e3 hn2
        have hjn := jn_lost (y := fun j => z (1 + half * h + j)) (d := frs (L ++ [b])) G.g1 (by omega) (f := e) (by omega) (fun j hj => e4 j hj) hno (h - e) e 0 (by omega)
        rw [show e + (h - e) = h by omega, Nat.mul_zero] at hjn
        rw [hjn] at hdt
        by_cases ce : 55 * e = (frs (L ++ [b])).size
        · right
          unfold Recs
          rw [hdt, ce, ByteArray.extract_zero_size]
          exact bods_whole hfr
        · left
          unfold Recs
          rw [hdt, hD, ext_more _ _ (by omega)]
          exact bods_cut G.fr b hb.2 (by rw [fr_size]; omega)
  · have hn := nw_le (y := fun j => z (1 + j)) (G := g) (by have := G.g1; omega) (2 * h) (fun j hj hok => by
      by_cases c : 1 + j < 1 + half * h + (frs L).size / 55 ∨ 1 + half * h + h ≤ 1 + j
      · have e := hout (1 + j) c
        have hok' : pOk (z (1 + j)) = true := hok
        show pG (z (1 + j)) ≤ g
        rw [e] at hok' ⊢
        exact G.gens j hj hok'
      · obtain ⟨i, hi⟩ : ∃ i, 1 + j = 1 + half * h + i := ⟨j - half * h, by omega⟩
        have hok' : pOk (z (1 + j)) = true := hok
        show pG (z (1 + j)) ≤ g
        rcases hin i (by omega) (by omega) with ho | ⟨h1, h2⟩
        · rw [← hi] at ho
          rw [ho] at hok' ⊢
          exact G.gens j hj hok'
        · rw [← hi] at h2
          rw [h2, (sp_back G.g1 (by omega)).2.1]
          exact Int.le_refl _)
    unfold M.gg
    rw [h0, (head_back G.g1 hf).1]
    omega

end Go.Proofs.Ytaojoecmbgmhoaa.M

namespace Go.Proofs.Ytaojoecmbgmhoaa.M

theorem Gd.append {y z : Nat → ByteArray} {h : Nat} {g : Int} {half : Nat} {L : List ByteArray} (G : Gd y h g half L) {b : ByteArray} (hb : 1 ≤ b.size ∧ b.size ≤ 4096) (hc : (frs (L ++ [b])).size + 1 ≤ 55 * h)
    (hout : ∀ k, (k < 1 + half * h + (frs L).size / 55 ∨ 1 + half * h + (frs (L ++ [b])).size / 55 < k) → z k = y k)
    (hin : ∀ j, (frs L).size / 55 ≤ j → j ≤ (frs (L ++ [b])).size / 55 → z (1 + half * h + j) = sp g 0 (frs (L ++ [b])) j) : Gd z h g half (L ++ [b]) := by
  have hD : frs (L ++ [b]) = frs L ++ M.fr b := frs_snoc L b
  have hs : (frs (L ++ [b])).size = (frs L).size + (b.size + 6) := by rw [hD, size_app, fr_size]
  have hh := G.hh
  have hcap := G.cap
  have hf := G.hf
  refine ⟨G.g1, hf, hh, by rw [hout 0 (.inl (by omega)), G.head], ?_, hc, ?_, ?_, ?_⟩
  · intro x hx
    rcases List.mem_append.1 hx with hx | hx
    · exact G.fr x hx
    · rw [List.mem_singleton] at hx
      subst hx
      exact hb
  · intro j hj
    by_cases c : (frs L).size / 55 ≤ j
    · exact hin j c hj
    · rw [hout _ (.inl (by omega)), G.cells j (by omega), hD, sp_more _ _ _ (by omega)]
  · intro j h1 h2
    rw [hout _ (.inr (by omega))]
    exact G.rest j (by omega) h2
  · intro j hj hok
    by_cases c : 1 + j < 1 + half * h + (frs L).size / 55 ∨ 1 + half * h + (frs (L ++ [b])).size / 55 < 1 + j
    · rw [hout _ c] at hok ⊢
      exact G.gens j hj hok
    · obtain ⟨i, hi⟩ : ∃ i, 1 + j = 1 + half * h + i := ⟨j - half * h, by omega⟩
      rw [hi, hin i (by omega) (by omega), (sp_back G.g1 (by omega)).2.1]
      exact Int.le_refl _

/-- Records laid anew, with a generation that no cell has reached. -/
theorem gd_reset {y z : Nat → ByteArray} {h : Nat} {g : Int} {half : Nat} {L : List ByteArray} (hg : 1 ≤ g ∧ g ≤ 281474976710655) (hf : half < 2) (hh : h ≤ 2047) (hL : Framable L) (hc : (frs L).size + 1 ≤ 55 * h)
    (hgen : ∀ j, j < 2 * h → pOk (y (1 + j)) = true → pG (y (1 + j)) < g) (h0 : z 0 = hdS g half)
    (hout : ∀ k, 0 < k → (k < 1 + half * h ∨ 1 + half * h + (frs L).size / 55 < k) → z k = y k)
    (hin : ∀ j, j ≤ (frs L).size / 55 → z (1 + half * h + j) = sp g 0 (frs L) j) : Gd z h g half L := by
  refine ⟨hg, hf, hh, h0, hL, hc, hin, ?_, ?_⟩
  · intro j h1 h2 h3
    rw [hout _ (by omega) (.inr (by omega))] at h3
    have e : 1 + half * h + j = 1 + (half * h + j) := by omega
    rw [e] at h3
    have h4 : half * h + j < 2 * h := by
      match half, hf with
      | 0, _ => omega
      | 1, _ => omega
    have := hgen (half * h + j) h4 h3.1
    omega
  · intro j hj hok
    by_cases c : 1 + j < 1 + half * h ∨ 1 + half * h + (frs L).size / 55 < 1 + j
    · rw [hout _ (by omega) c] at hok ⊢
      exact Int.le_of_lt (hgen j hj hok)
    · obtain ⟨i, hi⟩ : ∃ i, 1 + j = 1 + half * h + i := ⟨j - half * h, by omega⟩
      rw [hi, hin i (by omega), (sp_back hg (by omega)).2.1]
      exact Int.le_refl _
/-- As long as the head isn't laid the records are what they were. -/
theorem dt_reset {y z : Nat → ByteArray} {h half : Nat} (hf : half < 2) (hne : hH (y 0) ≠ half) (h0 : z 0 = y 0) (hout : ∀ k, (k < 1 + half * h ∨ 1 + half * h + h ≤ k) → z k = y k) : dtOf z h = dtOf y h := by
  symm
  refine dt_congr h0.symm fun j hj => (hout _ ?_).symm
  have := hH_lt (y 0)
  generalize hH (y 0) = q at *
  rcases (by omega : (q = 0 ∧ half = 1) ∨ (q = 1 ∧ half = 0)) with ⟨rfl, rfl⟩ | ⟨rfl, rfl⟩
  · left; omega
  · right; omega
theorem gg_reset {y z : Nat → ByteArray} {h half : Nat} {g : Int} {L : List ByteArray} (hg : 1 ≤ g ∧ g ≤ 281474976710655) (hf : half < 2) (hL : (frs L).size / 55 ≤ 65535) (hy : gg y h ≤ g) (h0 : z 0 = y 0 ∨ z 0 = hdS g half)
    (hz : ∀ k, 0 < k → z k = y k ∨ ∃ j, j ≤ (frs L).size / 55 ∧ z k = sp g 0 (frs L) j) : gg z h ≤ g := by
  unfold gg at *
  have h1 : hG (z 0) ≤ g := by
    rcases h0 with e | e
    · rw [e]; omega
    · rw [e, (head_back hg hf).1]; exact Int.le_refl _
  have h2 := nw_le (y := fun j => z (1 + j)) (G := g) (by omega) (2 * h) (fun j hj hok => by
    have hok' : pOk (z (1 + j)) = true := hok
    show pG (z (1 + j)) ≤ g
    rcases hz (1 + j) (by omega) with e | ⟨i, hi, e⟩
    · rw [e] at hok' ⊢
      have := nw_ge (y := fun j => y (1 + j)) hok' (2 * h) hj
      have h3 : pG (y (1 + j)) ≤ nw (fun j => y (1 + j)) (2 * h) := this
      omega
    · rw [e, (sp_back hg (by omega)).2.1]
      exact Int.le_refl _)
  omega
theorem gens_lt {y : Nat → ByteArray} {h : Nat} {g : Int} (hg : gg y h < g) : ∀ j, j < 2 * h → pOk (y (1 + j)) = true → pG (y (1 + j)) < g := fun j hj hok => by
  have h3 : pG (y (1 + j)) ≤ nw (fun j => y (1 + j)) (2 * h) := nw_ge (y := fun j => y (1 + j)) hok (2 * h) hj
  unfold gg at hg
  omega

/-- The first m writes of texts, sector by sector, from one on. -/
def qs (a : Nat) (c : Nat → ByteArray) : Nat → List (Nat × ByteArray)
  | 0 => []
  | m + 1 => qs a c m ++ [(a + m, c m)]
theorem qs_length (a : Nat) (c : Nat → ByteArray) : ∀ m, (qs a c m).length = m
  | 0 => rfl
  | m + 1 => by
    show (qs a c m ++ [_]).length = _
    rw [List.length_append, qs_length a c m]
    rfl
theorem qs_get (a : Nat) (c : Nat → ByteArray) : ∀ m j, j < m → qx (qs a c m) j = (a + j, c j)
  | m + 1, j, h => by
    by_cases e : j = m
    · subst e
      have := qx_last (qs a c j) (a + j, c j)
      rw [qs_length] at this
      exact this
    · show qx (qs a c m ++ [_]) j = _
      rw [qx_app (by rw [qs_length]; omega)]
      exact qs_get a c m j (by omega)
/-- What lasts of them. -/
theorem stL_qs (kp : Nat → Bool) (s : Nat → ByteArray) (a : Nat) (c : Nat → ByteArray) (m : Nat) : ∀ t, t ≤ m → ∀ k, stL kp s (qs a c m) t k = if a ≤ k ∧ k < a + t ∧ kp (k - a) = true then c (k - a) else s k
  | 0, _, k => by
    show s k = _
    rw [if_neg (by omega)]
  | t + 1, ht, k => by
    have ih := stL_qs kp s a c m t (by omega) k
    have eq := qs_get a c m t (by omega)
    cases hk : kp t with
    | false =>
      rw [stL_no hk, ih]
      by_cases c1 : a ≤ k ∧ k < a + t ∧ kp (k - a) = true
      · rw [if_pos c1, if_pos ⟨c1.1, by omega, c1.2.2⟩]
      · rw [if_neg c1, if_neg]
        rintro ⟨h1, h2, h3⟩
        by_cases e : k = a + t
        · subst e
          rw [show a + t - a = t by omega, hk] at h3
          cases h3
        · exact c1 ⟨h1, by omega, h3⟩
    | true =>
      rw [stL_yes hk, eq]
      by_cases e : k = a + t
      · subst e
        rw [upd_at, if_pos ⟨by omega, by omega, by rw [show a + t - a = t by omega]; exact hk⟩, show a + t - a = t by omega]
      · rw [upd_off _ _ e, ih]
        by_cases c1 : a ≤ k ∧ k < a + t ∧ kp (k - a) = true
        · rw [if_pos c1, if_pos ⟨c1.1, by omega, c1.2.2⟩]
        · rw [if_neg c1, if_neg]
          rintro ⟨h1, h2, h3⟩
          exact c1 ⟨h1, by omega, h3⟩

end Go.Proofs.Ytaojoecmbgmhoaa.M

namespace Go.Proofs.Ytaojoecmbgmhoaa.M

/-- A disk with its power on, and a region of n sectors. -/
structure Live (d : Dk) (i n : Nat) : Prop where
  off : d.off = false
  hi : i < d.k
  n : (d.r i).n = n
/-- One call less. -/
def dec (o : Option (Nat × Nat × List Int)) (i : Nat) : Option (Nat × Nat × List Int) := match o with
  | none => none
  | some (b, l, K) => if b = i then some (b, l - 1, K) else some (b, l, K)
theorem dec_none (i : Nat) : dec none i = none := rfl
theorem dec_some {o : Option (Nat × Nat × List Int)} {i : Nat} (h : ¬ o = none) : ¬ dec o i = none := by
  rcases o with _ | ⟨b, l, K⟩
  · exact absurd rfl h
  · unfold dec
    simp only
    split <;> simp

theorem Live.has {d : Dk} {i n : Nat} (h : Live d i n) : d.has (i : Int) = true := by
  unfold Dk.has
  have := h.hi
  exact decide_eq_true ⟨by omega, by omega⟩
theorem Live.readE {d : Dk} {i n : Nat} (h : Live d i n) {a : Nat} (ha : a < n) : d.readE (i : Int) (a : Int) = 0 := by
  unfold Dk.readE Dk.hasS
  rw [h.off, h.has, Int.toNat_natCast, h.n, decide_eq_true (show 0 ≤ (a : Int) ∧ (a : Int) < (n : Int) by omega)]
  rfl
theorem cnt_not {d : Dk} {i : Nat} (h : d.now i = false) : d.cnt i = { d with ask := dec d.ask i } := by
  rcases d with ⟨k, r, off, ask⟩
  unfold Dk.now at h
  unfold Dk.cnt dec
  rcases ask with _ | ⟨b, l, K⟩
  · rfl
  · simp only at h ⊢
    by_cases c : b = i
    · have c2 : ¬ l = 1 := fun e => by
        rw [decide_eq_true ⟨c, e⟩] at h
        cases h
      rw [if_pos c, if_neg c2, if_pos c]
    · rw [if_neg c, if_neg c]
theorem cnt_now {d : Dk} {i : Nat} (h : d.now i = true) : ∃ K, d.ask = some (i, 1, K) ∧ d.cnt i = { d.lose K with off := true, ask := none } := by
  rcases d with ⟨k, r, off, ask⟩
  unfold Dk.now at h
  rcases ask with _ | ⟨b, l, K⟩
  · simp only at h
    cases h
  · simp only at h
    obtain ⟨rfl, rfl⟩ := of_decide_eq_true h
    refine ⟨K, rfl, ?_⟩
    unfold Dk.cnt
    simp only [if_true]

/-- A write. -/
theorem Live.write {d : Dk} {i n : Nat} (h : Live d i n) {a : Nat} (ha : a < n) {x : ByteArray} (hx : x.size = 64) :
    (d.now i = false → d.writeE (i : Int) (a : Int) x = 0 ∧ d.write (i : Int) (a : Int) x = { d.at i ((d.r i).put a x) with ask := dec d.ask i }) ∧
    (d.now i = true → ∃ K, d.ask = some (i, 1, K) ∧ d.writeE (i : Int) (a : Int) x = 11 ∧ d.write (i : Int) (a : Int) x = { (d.at i ((d.r i).put a x)).lose K with off := true, ask := none }) := by
  have hp : d.preW (i : Int) (a : Int) x = 0 := by
    unfold Dk.preW
    rw [if_pos (h.readE ha), if_pos hx]
  have hput : d.put (i : Int) (a : Int) x = d.at i ((d.r i).put a x) := by
    unfold Dk.put
    rw [Int.toNat_natCast, Int.toNat_natCast]
  have hE : d.writeE (i : Int) (a : Int) x = if (d.at i ((d.r i).put a x)).now i then 11 else 0 := by
    unfold Dk.writeE
    rw [if_pos hp, hput, Int.toNat_natCast]
  have hW : d.write (i : Int) (a : Int) x = (d.at i ((d.r i).put a x)).cnt i := by
    unfold Dk.write
    rw [if_pos hp, hput, Int.toNat_natCast]
  have hn : (d.at i ((d.r i).put a x)).now i = d.now i := rfl
  constructor
  · intro c
    rw [hE, hW, hn, c]
    exact ⟨rfl, cnt_not (by rw [hn]; exact c)⟩
  · intro c
    obtain ⟨K, k1, k2⟩ := cnt_now (d := d.at i ((d.r i).put a x)) (i := i) (by rw [hn]; exact c)
    exact ⟨K, k1, by rw [hE, hn, c]; rfl, by rw [hW, k2]⟩
/-- A flush. -/
theorem Live.flush {d : Dk} {i n : Nat} (h : Live d i n) :
    (d.now i = false → d.flushE (i : Int) = 0 ∧ d.flush (i : Int) = { d.at i ((d.r i).set fun _ => true) with ask := dec d.ask i }) ∧
    (d.now i = true → ∃ K, d.ask = some (i, 1, K) ∧ d.flushE (i : Int) = 11 ∧ d.flush (i : Int) = { d.lose K with off := true, ask := none }) := by
  have hp : d.preF (i : Int) = 0 := by
    unfold Dk.preF
    rw [h.off, h.has]
    rfl
  have hE : d.flushE (i : Int) = if d.now i then 11 else 0 := by
    unfold Dk.flushE
    rw [if_pos hp, Int.toNat_natCast]
  have hF : d.flush (i : Int) = if d.now i then d.cnt i else (d.cnt i).at i ((d.r i).set fun _ => true) := by
    unfold Dk.flush
    rw [if_pos hp, Int.toNat_natCast]
  constructor
  · intro c
    rw [hE, hF, c]
    refine ⟨rfl, ?_⟩
    show (d.cnt i).at i _ = _
    rw [cnt_not c]
    rfl
  · intro c
    obtain ⟨K, k1, k2⟩ := cnt_now c
    rw [hE, hF, c]
    exact ⟨K, k1, rfl, k2⟩

/-- Texts laid from a sector on, the m-th first, r of them; then a flush. -/
def layD (i a : Nat) (c : Nat → ByteArray) : Nat → Nat → Dk → Dk
  | _, 0, d => d.flush (i : Int)
  | m, r + 1, d => if d.writeE (i : Int) ((a + m : Nat) : Int) (c m) = 0 then layD i a c (m + 1) r (d.write (i : Int) ((a + m : Nat) : Int) (c m)) else d.write (i : Int) ((a + m : Nat) : Int) (c m)
/-- The error of that; 0: none. -/
def layX (i a : Nat) (c : Nat → ByteArray) : Nat → Nat → Dk → Int
  | _, 0, d => d.flushE (i : Int)
  | m, r + 1, d => if d.writeE (i : Int) ((a + m : Nat) : Int) (c m) = 0 then layX i a c (m + 1) r (d.write (i : Int) ((a + m : Nat) : Int) (c m)) else d.writeE (i : Int) ((a + m : Nat) : Int) (c m)

/-- What lasts once all is laid. -/
def laid (s : Nat → ByteArray) (a : Nat) (c : Nat → ByteArray) (m : Nat) : Nat → ByteArray := fun k => if a ≤ k ∧ k < a + m then c (k - a) else s k

/-- It goes well. -/
structure LayOk (d e : Dk) (i n a m : Nat) (c : Nat → ByteArray) (s : Nat → ByteArray) : Prop where
  live : Live e i n
  k : e.k = d.k
  r : e.r i = ⟨n, laid s a c m, []⟩
  other : ∀ j, j ≠ i → e.r j = d.r j
  ask : d.ask = none → e.ask = none
/-- The power fails on the way. -/
structure LayNo (d e : Dk) (i n a m : Nat) (c : Nat → ByteArray) (s : Nat → ByteArray) : Prop where
  had : ¬ d.ask = none
  off : e.off = true
  ask : e.ask = none
  k : e.k = d.k
  r : ∃ K t, t ≤ m ∧ e.r i = ⟨n, stL (kb K i) s (qs a c t) t, []⟩ ∧ ∀ j, j ≠ i → e.r j = (d.r j).set (kb K j)

theorem lay_out {i n a : Nat} {c : Nat → ByteArray} {s : Nat → ByteArray} : ∀ r m (d : Dk), Live d i n → d.r i = ⟨n, s, qs a c m⟩ → a + m + r ≤ n → (∀ j, (c j).size = 64) →
    (layX i a c m r d = 0 ∧ LayOk d (layD i a c m r d) i n a (m + r) c s) ∨ (layX i a c m r d = 11 ∧ LayNo d (layD i a c m r d) i n a (m + r) c s)
  | 0, m, d, hl, hr, hn, hc => by
    have hs : ∀ kp, (d.r i).set kp = ⟨n, stL kp s (qs a c m) m, []⟩ := fun kp => by
      rw [hr]
      show Rg.mk n (stL kp s (qs a c m) (qs a c m).length) [] = _
      rw [qs_length]
    obtain ⟨f1, f2⟩ := hl.flush
    cases hnow : d.now i with
    | false =>
      obtain ⟨e1, e2⟩ := f1 hnow
      left
      refine ⟨e1, ?_⟩
      show LayOk d (d.flush (i : Int)) i n a (m + 0) c s
      rw [e2]
      have er : (d.at i ((d.r i).set fun _ => true)).r i = ⟨n, laid s a c (m + 0), []⟩ := by
        show upd d.r i _ i = _
        rw [upd_at, hs]
        have : stL (fun _ => true) s (qs a c m) m = laid s a c (m + 0) := by
          funext k
          rw [stL_qs _ s a c m m (Nat.le_refl _) k]
          unfold laid
          by_cases ck : a ≤ k ∧ k < a + m
          · rw [if_pos ⟨ck.1, ck.2, rfl⟩, if_pos ⟨ck.1, by omega⟩]
          · rw [if_neg (fun h => ck ⟨h.1, h.2.1⟩), if_neg (fun h => ck ⟨h.1, by omega⟩)]
        rw [this]
      refine ⟨⟨hl.off, hl.hi, ?_⟩, rfl, er, fun j hj => upd_off _ _ hj, fun h => ?_⟩
      · show ((d.at i ((d.r i).set fun _ => true)).r i).n = n
        rw [er]
      · show dec d.ask i = none
        rw [h]
        rfl
    | true =>
      obtain ⟨K, k1, e1, e2⟩ := f2 hnow
      right
      refine ⟨e1, ?_⟩
      show LayNo d (d.flush (i : Int)) i n a (m + 0) c s
      rw [e2]
      exact ⟨by rw [k1]; simp, rfl, rfl, rfl, K, m, by omega, hs _, fun j _ => rfl⟩
  | r + 1, m, d, hl, hr, hn, hc => by
    obtain ⟨f1, f2⟩ := hl.write (a := a + m) (by omega) (hc m)
    have hput : (d.r i).put (a + m) (c m) = ⟨n, s, qs a c (m + 1)⟩ := by
      rw [hr]
      rfl
    cases hnow : d.now i with
    | false =>
      obtain ⟨e1, e2⟩ := f1 hnow
      have u1 : layD i a c m (r + 1) d = layD i a c (m + 1) r (d.write (i : Int) ((a + m : Nat) : Int) (c m)) := if_pos e1
      have u2 : layX i a c m (r + 1) d = layX i a c (m + 1) r (d.write (i : Int) ((a + m : Nat) : Int) (c m)) := if_pos e1
      have er : (d.write (i : Int) ((a + m : Nat) : Int) (c m)).r i = ⟨n, s, qs a c (m + 1)⟩ := by
        rw [e2]
        show upd d.r i _ i = _
        rw [upd_at, hput]
      have hl2 : Live (d.write (i : Int) ((a + m : Nat) : Int) (c m)) i n := ⟨by rw [e2]; exact hl.off, by rw [e2]; exact hl.hi, by rw [er]⟩
      have hother : ∀ j, j ≠ i → (d.write (i : Int) ((a + m : Nat) : Int) (c m)).r j = d.r j := fun j hj => by
        rw [e2]
        exact upd_off _ _ hj
      have hask : (d.write (i : Int) ((a + m : Nat) : Int) (c m)).ask = dec d.ask i := by rw [e2]
      have hk : (d.write (i : Int) ((a + m : Nat) : Int) (c m)).k = d.k := by rw [e2]; rfl
      rw [u1, u2]
      rcases lay_out r (m + 1) _ hl2 er (by omega) hc with ⟨x, o⟩ | ⟨x, o⟩
      · left
        refine ⟨x, ⟨o.live, o.k.trans hk, by rw [o.r, show m + 1 + r = m + (r + 1) by omega], fun j hj => (o.other j hj).trans (hother j hj), fun h => o.ask ?_⟩⟩
        rw [hask, h]
        rfl
      · right
        obtain ⟨K, t, t1, t2, t3⟩ := o.r
        refine ⟨x, ⟨fun h => o.had (by rw [hask, h]; rfl), o.off, o.ask, o.k.trans hk, K, t, by omega, t2, fun j hj => ?_⟩⟩
        rw [t3 j hj, hother j hj]
    | true =>
      obtain ⟨K, k1, e1, e2⟩ := f2 hnow
      have u1 : layD i a c m (r + 1) d = d.write (i : Int) ((a + m : Nat) : Int) (c m) := if_neg (by rw [e1]; decide)
      have u2 : layX i a c m (r + 1) d = d.writeE (i : Int) ((a + m : Nat) : Int) (c m) := if_neg (by rw [e1]; decide)
      right
      rw [u1, u2]
      refine ⟨e1, ?_⟩
      rw [e2]
      refine ⟨by rw [k1]; simp, rfl, rfl, rfl, K, m + 1, by omega, ?_, fun j hj => ?_⟩
      · show (upd d.r i _ i).set (kb K i) = _
        rw [upd_at, hput]
        show Rg.mk n (stL (kb K i) s (qs a c (m + 1)) (qs a c (m + 1)).length) [] = _
        rw [qs_length]
      · show (upd d.r i _ j).set (kb K j) = _
        rw [upd_off _ _ hj]

end Go.Proofs.Ytaojoecmbgmhoaa.M

namespace Go.Proofs.Ytaojoecmbgmhoaa.M

/-- The power has failed: the region's sectors are z, the other regions have what their numbers kept. -/
structure Gone (d e : Dk) (i n : Nat) (z : Nat → ByteArray) : Prop where
  had : ¬ d.ask = none
  off : e.off = true
  ask : e.ask = none
  k : e.k = d.k
  r : e.r i = ⟨n, z, []⟩
  other : ∃ K, ∀ j, j ≠ i → e.r j = (d.r j).set (kb K j)
/-- All went well: the region's sectors are z, the other regions are as they were. -/
structure Went (d e : Dk) (i n : Nat) (z : Nat → ByteArray) : Prop where
  live : Live e i n
  k : e.k = d.k
  r : e.r i = ⟨n, z, []⟩
  other : ∀ j, j ≠ i → e.r j = d.r j
  ask : d.ask = none → e.ask = none

theorem LayOk.went {d e : Dk} {i n a m : Nat} {c s : Nat → ByteArray} (h : LayOk d e i n a m c s) : Went d e i n (laid s a c m) := ⟨h.live, h.k, h.r, h.other, h.ask⟩
theorem LayNo.gone {d e : Dk} {i n a m : Nat} {c s : Nat → ByteArray} (h : LayNo d e i n a m c s) : ∃ kp t, t ≤ m ∧ Gone d e i n (stL kp s (qs a c t) t) := by
  obtain ⟨K, t, h1, h2, h3⟩ := h.r
  exact ⟨kb K i, t, h1, h.had, h.off, h.ask, h.k, h2, K, h3⟩

theorem sp_64 (g : Int) (d : ByteArray) (j : Nat) : (sp g 0 d j).size = 64 := sec_size (pc_le d j)

/-- How many sectors an Append writes. -/
def apN (L : List ByteArray) (b : ByteArray) : Nat := (frs (L ++ [b])).size / 55 + 1 - (frs L).size / 55
/-- Where, and what. -/
def apA (h half : Nat) (L : List ByteArray) : Nat := 1 + half * h + (frs L).size / 55
def apC (g : Int) (L : List ByteArray) (b : ByteArray) (j : Nat) : ByteArray := sp g 0 (frs (L ++ [b])) ((frs L).size / 55 + j)

theorem append_out {d : Dk} {i n h : Nat} {g : Int} {half : Nat} {L : List ByteArray} {y : Nat → ByteArray} (hl : Live d i n) (hn : 1 + 2 * h ≤ n) (hr : d.r i = ⟨n, y, []⟩) (G : Gd y h g half L) {b : ByteArray} (hb : 1 ≤ b.size ∧ b.size ≤ 4096) (hc : (frs (L ++ [b])).size + 1 ≤ 55 * h) :
    (layX i (apA h half L) (apC g L b) 0 (apN L b) d = 0 ∧ ∃ z, Went d (layD i (apA h half L) (apC g L b) 0 (apN L b) d) i n z ∧ Gd z h g half (L ++ [b])) ∨
    (layX i (apA h half L) (apC g L b) 0 (apN L b) d = 11 ∧ ∃ z, Gone d (layD i (apA h half L) (apC g L b) 0 (apN L b) d) i n z ∧ (Recs z h L ∨ Recs z h (L ++ [b])) ∧ gg z h = g) := by
  have hs : (frs (L ++ [b])).size = (frs L).size + (b.size + 6) := by rw [frs_snoc, size_app, fr_size]
  have hcap := G.cap
  have hh : half * h ≤ h := by
    have := G.hf
    rcases (by omega : half = 0 ∨ half = 1) with rfl | rfl <;> omega
  have hle : (frs L).size / 55 ≤ (frs (L ++ [b])).size / 55 := Nat.div_le_div_right (by omega)
  have hlt : (frs (L ++ [b])).size / 55 < h := by omega
  have hN : apN L b = (frs (L ++ [b])).size / 55 + 1 - (frs L).size / 55 := rfl
  have hA : apA h half L = 1 + half * h + (frs L).size / 55 := rfl
  rcases lay_out (a := apA h half L) (c := apC g L b) (apN L b) 0 d hl hr (by rw [hN, hA]; omega) (fun j => sp_64 _ _ _) with ⟨x, o⟩ | ⟨x, o⟩
  · left
    refine ⟨x, _, o.went, G.append hb hc (fun k hk => ?_) (fun j h1 h2 => ?_)⟩
    · unfold laid
      rw [if_neg (by rw [hA, hN]; omega)]
    · unfold laid
      rw [if_pos (by rw [hA, hN]; omega), hA]
      unfold apC
      congr 1
      omega
  · right
    obtain ⟨kp, t, t1, t2⟩ := o.gone
    refine ⟨x, _, t2, G.mix hb hc (fun k hk => ?_) (fun j h1 h2 => ?_)⟩
    · rw [stL_qs kp y _ _ t t (Nat.le_refl _) k, if_neg]
      rintro ⟨c1, c2, _⟩
      rw [hA] at c1 c2
      omega
    · rw [stL_qs kp y _ _ t t (Nat.le_refl _)]
      by_cases c : apA h half L ≤ 1 + half * h + j ∧ 1 + half * h + j < apA h half L + t ∧ kp (1 + half * h + j - apA h half L) = true
      · right
        rw [if_pos c]
        obtain ⟨c1, c2, _⟩ := c
        rw [hA] at c1 c2 ⊢
        refine ⟨by omega, ?_⟩
        unfold apC
        congr 1
        omega
      · left
        rw [if_neg c]

/-- Records laid anew: cells, and then the head. -/
def rsC (g : Int) (L : List ByteArray) (j : Nat) : ByteArray := sp (g + 1) 0 (frs L) j
def rsX (i h : Nat) (g : Int) (half : Nat) (L : List ByteArray) (d : Dk) : Int :=
  if layX i (1 + (1 - half) * h) (rsC g L) 0 ((frs L).size / 55 + 1) d = 0 then layX i 0 (fun _ => hdS (g + 1) (1 - half)) 0 1 (layD i (1 + (1 - half) * h) (rsC g L) 0 ((frs L).size / 55 + 1) d)
  else layX i (1 + (1 - half) * h) (rsC g L) 0 ((frs L).size / 55 + 1) d
def rsD (i h : Nat) (g : Int) (half : Nat) (L : List ByteArray) (d : Dk) : Dk :=
  if layX i (1 + (1 - half) * h) (rsC g L) 0 ((frs L).size / 55 + 1) d = 0 then layD i 0 (fun _ => hdS (g + 1) (1 - half)) 0 1 (layD i (1 + (1 - half) * h) (rsC g L) 0 ((frs L).size / 55 + 1) d)
  else layD i (1 + (1 - half) * h) (rsC g L) 0 ((frs L).size / 55 + 1) d

theorem reset_out {d : Dk} {i n h : Nat} {g : Int} {half : Nat} {L : List ByteArray} {y : Nat → ByteArray} (hl : Live d i n) (hn : 1 + 2 * h ≤ n) (hr : d.r i = ⟨n, y, []⟩) (hh : h ≤ 2047) (hf : hH (y 0) = half) (hgy : gg y h ≤ g) (hg : 0 ≤ g ∧ g < 281474976710655) (hL : Framable L) (hc : (frs L).size + 1 ≤ 55 * h) :
    (rsX i h g half L d = 0 ∧ ∃ z, Went d (rsD i h g half L d) i n z ∧ Gd z h (g + 1) (1 - half) L) ∨
    (rsX i h g half L d = 11 ∧ ∃ z, Gone d (rsD i h g half L d) i n z ∧ (dtOf z h = dtOf y h ∨ dtOf z h = frs L) ∧ gg z h ≤ g + 1) := by
  have hf2 : half < 2 := by rw [← hf]; exact hH_lt _
  have hg1 : 1 ≤ g + 1 ∧ g + 1 ≤ 281474976710655 := by omega
  have hh2 : (1 - half) * h ≤ h := by
    rcases (by omega : half = 0 ∨ half = 1) with rfl | rfl <;> omega
  have hlt : (frs L).size / 55 < h := by omega
  have hgens := gens_lt (y := y) (h := h) (g := g + 1) (by omega)
  have hcell : ∀ kp t, ∀ k, 0 < k → stL kp y (qs (1 + (1 - half) * h) (rsC g L) t) t k = y k ∨ (t ≤ (frs L).size / 55 + 1 → ∃ j, j ≤ (frs L).size / 55 ∧ stL kp y (qs (1 + (1 - half) * h) (rsC g L) t) t k = sp (g + 1) 0 (frs L) j) := fun kp t k _ => by
    rw [stL_qs kp y _ _ t t (Nat.le_refl _) k]
    by_cases c : 1 + (1 - half) * h ≤ k ∧ k < 1 + (1 - half) * h + t ∧ kp (k - (1 + (1 - half) * h)) = true
    · right
      intro ht
      rw [if_pos c]
      exact ⟨k - (1 + (1 - half) * h), by omega, rfl⟩
    · left
      rw [if_neg c]
  rcases lay_out (a := 1 + (1 - half) * h) (c := rsC g L) ((frs L).size / 55 + 1) 0 d hl hr (by omega) (fun j => sp_64 _ _ _) with ⟨x, o⟩ | ⟨x, o⟩
  · have hX : rsX i h g half L d = layX i 0 (fun _ => hdS (g + 1) (1 - half)) 0 1 (layD i (1 + (1 - half) * h) (rsC g L) 0 ((frs L).size / 55 + 1) d) := if_pos x
    have hD : rsD i h g half L d = layD i 0 (fun _ => hdS (g + 1) (1 - half)) 0 1 (layD i (1 + (1 - half) * h) (rsC g L) 0 ((frs L).size / 55 + 1) d) := if_pos x
    rw [hX, hD]
    have w1 := o.went
    rw [Nat.zero_add] at w1
    generalize layD i (1 + (1 - half) * h) (rsC g L) 0 ((frs L).size / 55 + 1) d = d1 at *
    -- what is laid once the cells are
    have G1 : ∀ z : Nat → ByteArray, z 0 = hdS (g + 1) (1 - half) → (∀ k, 0 < k → z k = laid y (1 + (1 - half) * h) (rsC g L) ((frs L).size / 55 + 1) k) → Gd z h (g + 1) (1 - half) L := fun z z0 zk =>
      gd_reset hg1 (by omega) hh hL hc hgens z0 (fun k k0 hk => by
        rw [zk k k0]
        unfold laid
        rw [if_neg (by omega)]) (fun j hj => by
        rw [zk _ (by omega)]
        unfold laid
        rw [if_pos (by omega)]
        unfold rsC
        congr 1
        omega)
    rcases lay_out (a := 0) (c := fun _ => hdS (g + 1) (1 - half)) 1 0 d1 w1.live w1.r (by omega) (fun j => hdS_size _ _) with ⟨x2, o2⟩ | ⟨x2, o2⟩
    · left
      have w2 := o2.went
      refine ⟨x2, _, ⟨w2.live, w2.k.trans w1.k, w2.r, fun j hj => (w2.other j hj).trans (w1.other j hj), fun h => w2.ask (w1.ask h)⟩, G1 _ ?_ fun k k0 => ?_⟩
      · unfold laid
        rw [if_pos (by omega)]
      · show laid _ 0 _ (0 + 1) k = _
        unfold laid
        rw [if_neg (by omega)]
    · right
      obtain ⟨kp, t, t1, t2⟩ := o2.gone
      obtain ⟨K, hK⟩ := t2.other
      refine ⟨x2, _, ⟨fun h => t2.had (w1.ask h), t2.off, t2.ask, t2.k.trans w1.k, t2.r, K, fun j hj => by rw [hK j hj, w1.other j hj]⟩, ?_⟩
      have zk : ∀ k, stL kp (laid y (1 + (1 - half) * h) (rsC g L) ((frs L).size / 55 + 1)) (qs 0 (fun _ => hdS (g + 1) (1 - half)) t) t k = if 0 ≤ k ∧ k < 0 + t ∧ kp (k - 0) = true then hdS (g + 1) (1 - half) else laid y (1 + (1 - half) * h) (rsC g L) ((frs L).size / 55 + 1) k := fun k => stL_qs kp _ 0 _ t t (Nat.le_refl _) k
      generalize stL kp (laid y (1 + (1 - half) * h) (rsC g L) ((frs L).size / 55 + 1)) (qs 0 (fun _ => hdS (g + 1) (1 - half)) t) t = z at *
      have zpos : ∀ k, 0 < k → z k = laid y (1 + (1 - half) * h) (rsC g L) ((frs L).size / 55 + 1) k := fun k k0 => by
        rw [zk k, if_neg (by omega)]
      by_cases c : 0 < 0 + t ∧ kp (0 - 0) = true
      · have z0 : z 0 = hdS (g + 1) (1 - half) := by rw [zk 0, if_pos ⟨Nat.le_refl _, c.1, c.2⟩]
        have Gz := G1 z z0 zpos
        exact ⟨.inr Gz.data, by rw [Gz.gg]; exact Int.le_refl _⟩
      · have z0 : z 0 = y 0 := by
          rw [zk 0, if_neg (fun h => c ⟨h.2.1, h.2.2⟩)]
          unfold laid
          rw [if_neg (by omega)]
        refine ⟨.inl (dt_reset (half := 1 - half) (by omega) (by omega) z0 fun k hk => ?_), gg_reset (y := y) (half := 1 - half) (L := L) hg1 (by omega) (by omega) (by omega) (.inl z0) fun k k0 => ?_⟩
        · by_cases k0 : k = 0
          · rw [k0]; exact z0
          · rw [zpos k (by omega)]
            unfold laid
            rw [if_neg (by omega)]
        · rw [zpos k k0]
          unfold laid
          by_cases ck : 1 + (1 - half) * h ≤ k ∧ k < 1 + (1 - half) * h + ((frs L).size / 55 + 1)
          · right
            rw [if_pos ck]
            exact ⟨k - (1 + (1 - half) * h), by omega, rfl⟩
          · left
            rw [if_neg ck]
  · have hX : rsX i h g half L d = layX i (1 + (1 - half) * h) (rsC g L) 0 ((frs L).size / 55 + 1) d := if_neg (by rw [x]; decide)
    have hD : rsD i h g half L d = layD i (1 + (1 - half) * h) (rsC g L) 0 ((frs L).size / 55 + 1) d := if_neg (by rw [x]; decide)
    rw [hX, hD]
    right
    obtain ⟨kp, t, t1, t2⟩ := o.gone
    have z0 : stL kp y (qs (1 + (1 - half) * h) (rsC g L) t) t 0 = y 0 := by
      rw [stL_qs kp y _ _ t t (Nat.le_refl _) 0, if_neg (by omega)]
    refine ⟨x, _, t2, .inl (dt_reset (half := 1 - half) (by omega) (by omega) z0 fun k hk => ?_), gg_reset (y := y) (half := 1 - half) (L := L) hg1 (by omega) (by omega) (by omega) (.inl z0) fun k k0 => ?_⟩
    · rw [stL_qs kp y _ _ t t (Nat.le_refl _) k, if_neg (by omega)]
    · rcases hcell kp t k k0 with e | e
      · exact .inl e
      · exact .inr (e (by omega))

end Go.Proofs.Ytaojoecmbgmhoaa.M

namespace Go.Proofs.Ytaojoecmbgmhoaa.M

/-- How many frames a text begins with. -/
def cntF (T : ByteArray) : Nat → Nat → Nat
  | 0, k => k
  | f + 1, k => if qE T (pl T k : Int) = 0 then cntF T f (k + 1) else k
theorem cntF_fst (T : ByteArray) : ∀ f k, Up T k → T.size < k + f + 1 → Fst T (cntF T f k)
  | 0, k, hu, hs => by
    have h := pl_le hu
    refine ⟨hu, fun c => ?_⟩
    have := q_place c
    show False
    have h3 : cntF T 0 k = k := rfl
    rw [h3] at c
    have := q_place c
    omega
  | f + 1, k, hu, hs => by
    by_cases c : qE T (pl T k : Int) = 0
    · have : cntF T (f + 1) k = cntF T f (k + 1) := if_pos c
      rw [this]
      exact cntF_fst T f (k + 1) (up_succ hu c) (by omega)
    · have : cntF T (f + 1) k = k := if_neg c
      rw [this]
      exact ⟨hu, c⟩
/-- The bodies of the frames that a text begins with. -/
def recs (T : ByteArray) : List ByteArray := (List.range (cntF T T.size 0)).map (bd T)
theorem recs_fst (T : ByteArray) : Fst T (cntF T T.size 0) := cntF_fst T T.size 0 (up_zero T) (by omega)
theorem recs_length (T : ByteArray) : (recs T).length = cntF T T.size 0 := by simp [recs]
theorem bods_recs (T : ByteArray) : Bods T (recs T) := by
  refine ⟨by rw [recs_length]; exact recs_fst T, fun i h => ?_⟩
  simp [recs]
theorem recs_eq {T : ByteArray} {L : List ByteArray} (h : Bods T L) : recs T = L := bods_one (bods_recs T) h

theorem bd_n2 {T : ByteArray} {k : Nat} (h : qE T (pl T k : Int) = 0) : (bd T k).size = n2 T (pl T k) ∧ 1 ≤ n2 T (pl T k) ∧ n2 T (pl T k) ≤ 4096 := by
  obtain ⟨h1, h2, h3, _⟩ := q_place h
  refine ⟨?_, h1, h2⟩
  unfold bd bod
  rw [ByteArray.size_extract]
  omega
theorem bods_fr {T : ByteArray} {L : List ByteArray} (h : Bods T L) : Framable L ∧ (frs L).size ≤ T.size := by
  have hsz : ∀ i (hi : i < L.length), (L[i]).size = n2 T (pl T i) ∧ 1 ≤ n2 T (pl T i) ∧ n2 T (pl T i) ≤ 4096 := fun i hi => by
    rw [← h.2 i hi]
    exact bd_n2 (h.1.1 i hi)
  have hf : Framable L := fun b hb => by
    obtain ⟨i, hi, e⟩ := List.getElem_of_mem hb
    have := hsz i hi
    rw [e] at this
    omega
  refine ⟨hf, ?_⟩
  have key : ∀ k, k ≤ L.length → (frs (L.take k)).size = pl T k := by
    intro k
    induction k with
    | zero => intro _; rfl
    | succ k ih =>
      intro hk
      rw [List.take_succ_eq_append_getElem (by omega), frs_snoc, size_app, fr_size, ih (by omega), (hsz k (by omega)).1]
      show _ = pl T k + 6 + n2 T (pl T k)
      omega
  have := key L.length (Nat.le_refl _)
  rw [List.take_length] at this
  rw [this]
  exact (pl_le h.1.1).1

/-- A stream: its region, how many sectors a half has, its generation, its half, its records, whether it had an error of the disk. -/
structure Sm where
  i : Nat
  h : Nat
  g : Int
  half : Nat
  L : List ByteArray
  br : Bool

/-- The error of the first body that has one. -/
def fE : List ByteArray → Int
  | [] => 0
  | b :: l => if frE b = 0 then fE l else frE b
theorem frE_ok {b : ByteArray} : frE b = 0 ↔ 1 ≤ b.size ∧ b.size ≤ 4096 := by
  unfold frE
  by_cases c0 : b.size = 0
  · rw [if_pos c0]; constructor
    · intro h; cases h
    · omega
  · rw [if_neg c0]
    by_cases c1 : 4096 < b.size
    · rw [if_pos c1]; constructor
      · intro h; cases h
      · omega
    · rw [if_neg c1]; constructor
      · intro _; omega
      · intro _; rfl
theorem fE_ok : ∀ {l : List ByteArray}, fE l = 0 ↔ Framable l
  | [] => ⟨fun _ b hb => (by cases hb), fun _ => rfl⟩
  | b :: l => by
    have ih := fE_ok (l := l)
    show (if frE b = 0 then fE l else frE b) = 0 ↔ _
    by_cases c : frE b = 0
    · rw [if_pos c, ih]
      constructor
      · intro h x hx
        rcases List.mem_cons.1 hx with rfl | hx
        · exact frE_ok.1 c
        · exact h x hx
      · exact fun h x hx => h x (List.mem_cons_of_mem _ hx)
    · rw [if_neg c]
      exact ⟨fun h => absurd h c, fun h => absurd (frE_ok.2 (h b (List.mem_cons_self ..))) c⟩

/-- Append. -/
def Sm.left (s : Sm) : Int := 55 * (s.h : Int) - 1 - ((frs s.L).size : Int)
def Sm.apE (s : Sm) (b : ByteArray) : Int := if s.br = true then 13 else if frE b = 0 then if s.left < ((fr b).size : Int) then 12 else 0 else frE b
def Sm.apX (s : Sm) (b : ByteArray) (d : Dk) : Int := if s.apE b = 0 then layX s.i (apA s.h s.half s.L) (apC s.g s.L b) 0 (apN s.L b) d else s.apE b
def Sm.apD (s : Sm) (b : ByteArray) (d : Dk) : Dk := if s.apE b = 0 then layD s.i (apA s.h s.half s.L) (apC s.g s.L b) 0 (apN s.L b) d else d
def Sm.apS (s : Sm) (b : ByteArray) (d : Dk) : Sm := if s.apE b = 0 then if s.apX b d = 0 then { s with L := s.L ++ [b] } else { s with br := true } else s
/-- Reset. -/
def Sm.rE (s : Sm) (l : List ByteArray) : Int := if s.br = true then 13 else if fE l = 0 then if 55 * (s.h : Int) - 1 < ((frs l).size : Int) ∨ 281474976710655 ≤ s.g then 12 else 0 else fE l
def Sm.rX (s : Sm) (l : List ByteArray) (d : Dk) : Int := if s.rE l = 0 then rsX s.i s.h s.g s.half l d else s.rE l
def Sm.rD (s : Sm) (l : List ByteArray) (d : Dk) : Dk := if s.rE l = 0 then rsD s.i s.h s.g s.half l d else d
def Sm.rS (s : Sm) (l : List ByteArray) (d : Dk) : Sm := if s.rE l = 0 then if s.rX l d = 0 then { s with g := s.g + 1, half := 1 - s.half, L := l } else { s with br := true } else s
/-- Open: what is read. -/
def opY (d : Dk) (i : Nat) : Nat → ByteArray := fun k => (d.r i).rd k
def opS (d : Dk) (i : Nat) : Sm := ⟨i, ((d.r i).n - 1) / 2, gg (opY d i) (((d.r i).n - 1) / 2), hH (opY d i 0), [], false⟩
def opL (d : Dk) (i : Nat) : List ByteArray := recs (dtOf (opY d i) (((d.r i).n - 1) / 2))
def opX (d : Dk) (a : Int) : Int := if d.secs a < 3 then 10 else if d.off = true then 11 else (opS d a.toNat).rX (opL d a.toNat) d
def opD (d : Dk) (a : Int) : Dk := if d.secs a < 3 then d else if d.off = true then d else (opS d a.toNat).rD (opL d a.toNat) d
/-- The stream that comes of it, if it goes well. -/
def opT (d : Dk) (a : Int) : Sm := (opS d a.toNat).rS (opL d a.toNat) d

/-- A region at rest, with these records, none of a greater generation. -/
structure Rest (d : Dk) (i n : Nat) (L : List ByteArray) (g : Int) : Prop where
  live : Live d i n
  hn : 3 ≤ n ∧ n ≤ 4096
  r : ∃ y, d.r i = ⟨n, y, []⟩ ∧ Recs y ((n - 1) / 2) L ∧ gg y ((n - 1) / 2) ≤ g
  cap : (frs L).size + 1 ≤ 55 * ((n - 1) / 2)
/-- A stream on its region. -/
structure On (d : Dk) (s : Sm) (n : Nat) : Prop where
  live : Live d s.i n
  hn : 3 ≤ n ∧ n ≤ 4096
  h : s.h = (n - 1) / 2
  br : s.br = false
  r : ∃ y, d.r s.i = ⟨n, y, []⟩ ∧ Gd y s.h s.g s.half s.L

theorem On.rest {d : Dk} {s : Sm} {n : Nat} (o : On d s n) : Rest d s.i n s.L s.g := by
  obtain ⟨y, hr, G⟩ := o.r
  refine ⟨o.live, o.hn, ⟨y, hr, ?_, ?_⟩, ?_⟩
  · rw [← o.h]; exact G.recs
  · rw [← o.h, G.gg]; exact Int.le_refl _
  · rw [← o.h]; exact G.cap

/-- The power is off; the region is at rest. -/
structure Down (d : Dk) (i n : Nat) (L : List ByteArray) (g : Int) : Prop where
  off : d.off = true
  ask : d.ask = none
  hi : i < d.k
  hn : 3 ≤ n ∧ n ≤ 4096
  r : ∃ y, d.r i = ⟨n, y, []⟩ ∧ Recs y ((n - 1) / 2) L ∧ gg y ((n - 1) / 2) ≤ g
  cap : (frs L).size + 1 ≤ 55 * ((n - 1) / 2)
theorem Down.on {d : Dk} {i n : Nat} {L : List ByteArray} {g : Int} (h : Down d i n L g) : Rest d.on i n L g ∧ d.on.ask = none := by
  obtain ⟨y, h1, h2, h3⟩ := h.r
  exact ⟨⟨⟨rfl, h.hi, by show (d.r i).n = n; rw [h1]⟩, h.hn, ⟨y, h1, h2, h3⟩, h.cap⟩, rfl⟩
theorem Rest.mono {d : Dk} {i n : Nat} {L : List ByteArray} {g g' : Int} (h : Rest d i n L g) (hg : g ≤ g') : Rest d i n L g' := by
  obtain ⟨y, h1, h2, h3⟩ := h.r
  exact ⟨h.live, h.hn, ⟨y, h1, h2, by omega⟩, h.cap⟩

/-- An Append, on a stream that is on its region. -/
theorem On.append {d : Dk} {s : Sm} {n : Nat} (o : On d s n) (b : ByteArray) :
    (s.apE b ≠ 0 ∧ s.apX b d = s.apE b ∧ s.apD b d = d ∧ s.apS b d = s) ∨
    (s.apE b = 0 ∧ s.apX b d = 0 ∧ On (s.apD b d) (s.apS b d) n ∧ s.apS b d = { s with L := s.L ++ [b] } ∧ (∀ j, j ≠ s.i → (s.apD b d).r j = d.r j) ∧ (s.apD b d).k = d.k ∧ (d.ask = none → (s.apD b d).ask = none)) ∨
    (s.apE b = 0 ∧ s.apX b d = 11 ∧ ¬ d.ask = none ∧ (Down (s.apD b d) s.i n s.L s.g ∨ Down (s.apD b d) s.i n (s.L ++ [b]) s.g) ∧ (s.apD b d).k = d.k ∧ ∃ K, ∀ j, j ≠ s.i → (s.apD b d).r j = (d.r j).set (kb K j)) := by
  by_cases c : s.apE b = 0
  · right
    have hX : s.apX b d = layX s.i (apA s.h s.half s.L) (apC s.g s.L b) 0 (apN s.L b) d := if_pos c
    have hD : s.apD b d = layD s.i (apA s.h s.half s.L) (apC s.g s.L b) 0 (apN s.L b) d := if_pos c
    have hS : s.apS b d = if s.apX b d = 0 then { s with L := s.L ++ [b] } else { s with br := true } := if_pos c
    obtain ⟨y, hr, G⟩ := o.r
    have hb : 1 ≤ b.size ∧ b.size ≤ 4096 := by
      unfold Sm.apE at c
      rw [o.br, if_neg (by decide)] at c
      by_cases c2 : frE b = 0
      · exact frE_ok.1 c2
      · rw [if_neg c2] at c; exact absurd c c2
    have hfit : (frs (s.L ++ [b])).size + 1 ≤ 55 * s.h := by
      unfold Sm.apE at c
      rw [o.br, if_neg (by decide), if_pos (frE_ok.2 hb)] at c
      by_cases c3 : s.left < ((fr b).size : Int)
      · rw [if_pos c3] at c; cases c
      · unfold Sm.left at c3
        rw [frs_snoc, size_app]
        omega
    have hn2 : 1 + 2 * s.h ≤ n := by rw [o.h]; have := o.hn; omega
    rcases append_out o.live hn2 hr G hb hfit with ⟨x, z, w, Gz⟩ | ⟨x, z, w, rr, gz⟩
    · left
      rw [← hX] at x
      rw [← hD] at w
      have hS' : s.apS b d = { s with L := s.L ++ [b] } := by rw [hS, if_pos x]
      refine ⟨c, x, ?_, hS', w.other, w.k, w.ask⟩
      rw [hS']
      exact ⟨w.live, o.hn, o.h, o.br, z, w.r, Gz⟩
    · right
      rw [← hX] at x
      rw [← hD] at w
      have hcap := G.cap
      refine ⟨c, x, w.had, ?_, w.k, w.other⟩
      have hi : s.i < (s.apD b d).k := by rw [w.k]; exact o.live.hi
      rcases rr with rr | rr
      · exact .inl ⟨w.off, w.ask, hi, o.hn, ⟨z, w.r, by rw [← o.h]; exact rr, by rw [← o.h, gz]; exact Int.le_refl _⟩, by rw [← o.h]; exact hcap⟩
      · exact .inr ⟨w.off, w.ask, hi, o.hn, ⟨z, w.r, by rw [← o.h]; exact rr, by rw [← o.h, gz]; exact Int.le_refl _⟩, by rw [← o.h]; exact hfit⟩
  · exact .inl ⟨c, if_neg c, if_neg c, if_neg c⟩

/-- A Reset, of a stream whose half and generation are its region's. -/
theorem reset_on {d : Dk} {s : Sm} {n : Nat} (hl : Live d s.i n) (hn : 3 ≤ n ∧ n ≤ 4096) (hh : s.h = (n - 1) / 2) (hbr : s.br = false) {y : Nat → ByteArray} (hr : d.r s.i = ⟨n, y, []⟩) (hf : hH (y 0) = s.half) (hg : gg y s.h ≤ s.g ∧ 0 ≤ s.g) {L0 : List ByteArray} (hrec : Recs y s.h L0) (hcap0 : (frs L0).size + 1 ≤ 55 * s.h) (l : List ByteArray) :
    (s.rE l ≠ 0 ∧ s.rX l d = s.rE l ∧ s.rD l d = d ∧ s.rS l d = s) ∨
    (s.rE l = 0 ∧ s.rX l d = 0 ∧ On (s.rD l d) (s.rS l d) n ∧ s.rS l d = { s with g := s.g + 1, half := 1 - s.half, L := l } ∧ (∀ j, j ≠ s.i → (s.rD l d).r j = d.r j) ∧ (s.rD l d).k = d.k ∧ (d.ask = none → (s.rD l d).ask = none)) ∨
    (s.rE l = 0 ∧ s.rX l d = 11 ∧ ¬ d.ask = none ∧ (Down (s.rD l d) s.i n L0 (s.g + 1) ∨ Down (s.rD l d) s.i n l (s.g + 1)) ∧ (s.rD l d).k = d.k ∧ ∃ K, ∀ j, j ≠ s.i → (s.rD l d).r j = (d.r j).set (kb K j)) := by
  by_cases c : s.rE l = 0
  · right
    have hX : s.rX l d = rsX s.i s.h s.g s.half l d := if_pos c
    have hD : s.rD l d = rsD s.i s.h s.g s.half l d := if_pos c
    have hS : s.rS l d = if s.rX l d = 0 then { s with g := s.g + 1, half := 1 - s.half, L := l } else { s with br := true } := if_pos c
    have c' := c
    unfold Sm.rE at c'
    rw [hbr, if_neg (by decide)] at c'
    have hF : fE l = 0 := by
      by_cases c2 : fE l = 0
      · exact c2
      · rw [if_neg c2] at c'; exact absurd c' c2
    rw [if_pos hF] at c'
    have hc3 : ¬ (55 * (s.h : Int) - 1 < ((frs l).size : Int) ∨ 281474976710655 ≤ s.g) := fun c3 => by
      rw [if_pos c3] at c'
      cases c'
    have hfit : (frs l).size + 1 ≤ 55 * s.h := by omega
    have hn2 : 1 + 2 * s.h ≤ n := by rw [hh]; omega
    rcases reset_out hl hn2 hr (by omega) hf hg.1 ⟨hg.2, by omega⟩ (fE_ok.1 hF) hfit with ⟨x, z, w, Gz⟩ | ⟨x, z, w, rr, gz⟩
    · left
      rw [← hX] at x
      rw [← hD] at w
      have hS' : s.rS l d = { s with g := s.g + 1, half := 1 - s.half, L := l } := by rw [hS, if_pos x]
      refine ⟨c, x, ?_, hS', w.other, w.k, w.ask⟩
      rw [hS']
      exact ⟨w.live, hn, hh, hbr, z, w.r, Gz⟩
    · right
      rw [← hX] at x
      rw [← hD] at w
      refine ⟨c, x, w.had, ?_, w.k, w.other⟩
      have hi : s.i < (s.rD l d).k := by rw [w.k]; exact hl.hi
      rcases rr with rr | rr
      · exact .inl ⟨w.off, w.ask, hi, hn, ⟨z, w.r, by rw [← hh]; unfold Recs; rw [rr]; exact hrec, by rw [← hh]; exact gz⟩, by rw [← hh]; exact hcap0⟩
      · exact .inr ⟨w.off, w.ask, hi, hn, ⟨z, w.r, by rw [← hh]; unfold Recs; rw [rr]; exact bods_whole (fE_ok.1 hF), by rw [← hh]; exact gz⟩, by rw [← hh]; exact hfit⟩
  · exact .inl ⟨c, if_neg c, if_neg c, if_neg c⟩

/-- A Reset of a stream that is on its region. -/
theorem On.reset {d : Dk} {s : Sm} {n : Nat} (o : On d s n) (l : List ByteArray) :
    (s.rE l ≠ 0 ∧ s.rX l d = s.rE l ∧ s.rD l d = d ∧ s.rS l d = s) ∨
    (s.rE l = 0 ∧ s.rX l d = 0 ∧ On (s.rD l d) (s.rS l d) n ∧ s.rS l d = { s with g := s.g + 1, half := 1 - s.half, L := l } ∧ (∀ j, j ≠ s.i → (s.rD l d).r j = d.r j) ∧ (s.rD l d).k = d.k ∧ (d.ask = none → (s.rD l d).ask = none)) ∨
    (s.rE l = 0 ∧ s.rX l d = 11 ∧ ¬ d.ask = none ∧ (Down (s.rD l d) s.i n s.L (s.g + 1) ∨ Down (s.rD l d) s.i n l (s.g + 1)) ∧ (s.rD l d).k = d.k ∧ ∃ K, ∀ j, j ≠ s.i → (s.rD l d).r j = (d.r j).set (kb K j)) := by
  obtain ⟨y, hr, G⟩ := o.r
  have h1 := G.g1
  exact reset_on o.live o.hn o.h o.br hr (by rw [G.head]; exact (head_back G.g1 G.hf).2) ⟨by rw [G.gg]; exact Int.le_refl _, by omega⟩ G.recs G.cap l

/-- A region at rest is opened. -/
theorem Rest.opens {d : Dk} {i n : Nat} {L : List ByteArray} {g : Int} (o : Rest d i n L g) (hg : g < 281474976710655) : opL d i = L ∧
    ((opX d (i : Int) = 0 ∧ On (opD d (i : Int)) (opT d (i : Int)) n ∧ (opT d (i : Int)).i = i ∧ (opT d (i : Int)).L = L ∧ (opT d (i : Int)).g ≤ g + 1 ∧ (∀ j, j ≠ i → (opD d (i : Int)).r j = d.r j) ∧ (opD d (i : Int)).k = d.k ∧ (d.ask = none → (opD d (i : Int)).ask = none)) ∨
    (opX d (i : Int) = 11 ∧ ¬ d.ask = none ∧ Down (opD d (i : Int)) i n L (g + 1) ∧ (opD d (i : Int)).k = d.k ∧ ∃ K, ∀ j, j ≠ i → (opD d (i : Int)).r j = (d.r j).set (kb K j))) := by
  obtain ⟨y, hr, hrec, hgy⟩ := o.r
  have hn := o.hn
  have hy : opY d i = y := by
    unfold opY
    rw [hr]
    rfl
  have hN : (d.r i).n = n := o.live.n
  have hL : opL d i = L := by
    unfold opL
    rw [hy, hN]
    exact recs_eq hrec
  have hS : opS d i = ⟨i, (n - 1) / 2, gg y ((n - 1) / 2), hH (y 0), [], false⟩ := by
    unfold opS
    rw [hy, hN]
  have hsec : ¬ d.secs (i : Int) < 3 := by
    unfold Dk.secs
    rw [o.live.has, if_pos rfl, Int.toNat_natCast, hN]
    omega
  have hoff : ¬ d.off = true := by rw [o.live.off]; decide
  have eX : opX d (i : Int) = (opS d i).rX L d := by
    unfold opX
    rw [if_neg hsec, if_neg hoff, Int.toNat_natCast, hL]
  have eD : opD d (i : Int) = (opS d i).rD L d := by
    unfold opD
    rw [if_neg hsec, if_neg hoff, Int.toNat_natCast, hL]
  have eT : opT d (i : Int) = (opS d i).rS L d := by
    unfold opT
    rw [Int.toNat_natCast, hL]
  have hg0 : 0 ≤ gg y ((n - 1) / 2) := by
    unfold gg
    have := (hG_range (y 0)).1
    omega
  have hE : (opS d i).rE L = 0 := by
    rw [hS]
    unfold Sm.rE
    have hF : fE L = 0 := fE_ok.2 (bods_fr hrec).1
    have hcap := o.cap
    have hb : ¬ (false = true) := by decide
    rw [if_neg hb, if_pos hF, if_neg]
    intro c
    simp only at c
    omega
  refine ⟨hL, ?_⟩
  rw [eX, eD, eT]
  rw [hS] at hE ⊢
  rcases reset_on (s := ⟨i, (n - 1) / 2, gg y ((n - 1) / 2), hH (y 0), [], false⟩) o.live hn rfl rfl hr rfl ⟨Int.le_refl _, hg0⟩ hrec o.cap L with ⟨c, _⟩ | ⟨_, x, q, e, q2, q3, q4⟩ | ⟨_, x, q1, q2, q3, q4⟩
  · exact absurd hE c
  · left
    refine ⟨x, q, ?_, ?_, ?_, q2, q3, q4⟩
    · rw [e]
    · rw [e]
    · rw [e]
      show gg y ((n - 1) / 2) + 1 ≤ g + 1
      omega
  · right
    refine ⟨x, q1, ?_, q3, q4⟩
    have hd : Down _ i n L (gg y ((n - 1) / 2) + 1) := q2.elim id id
    obtain ⟨z, z1, z2, z3⟩ := hd.r
    exact ⟨hd.off, hd.ask, hd.hi, hd.hn, ⟨z, z1, z2, by omega⟩, hd.cap⟩

end Go.Proofs.Ytaojoecmbgmhoaa.M

namespace Go.Proofs.Ytaojoecmbgmhoaa.M

theorem set_nil (n : Nat) (y : Nat → ByteArray) (kp : Nat → Bool) : (Rg.mk n y []).set kp = ⟨n, y, []⟩ := rfl

/-- Nothing has been laid. -/
theorem hIs_no (half : Nat) : hIs noB half = false := by
  refine decide_eq_false fun c => ?_
  have e : hNum noB = 0 := by decide +kernel
  rw [e] at c
  exact absurd c.1 (by decide)
theorem hG_no : hG noB = 0 := by
  unfold hG
  rw [hIs_no, hIs_no]
  rfl
theorem pOk_no : pOk noB = false := by
  refine p_err ?_
  have e : pG noB = 0 := by decide +kernel
  intro c
  have hw : ¬ Wt (pG noB) (pI noB) := fun h => by
    have := h.1
    rw [e] at this
    omega
  rw [(m_arg hw).1] at c
  cases c
theorem bods_none : Bods ⟨#[]⟩ [] := bods_whole (L := []) fun b hb => by cases hb
theorem nw_none {y : Nat → ByteArray} : ∀ n, (∀ j, j < n → pOk (y j) = false) → nw y n = 0
  | 0, _ => rfl
  | n + 1, h => by rw [nw_no (h n (by omega))]; exact nw_none n fun j hj => h j (by omega)
theorem rest_no {d : Dk} {i n : Nat} (hl : Live d i n) (hn : 3 ≤ n ∧ n ≤ 4096) (hr : d.r i = ⟨n, fun _ => noB, []⟩) : Rest d i n [] 0 := by
  refine ⟨hl, hn, ⟨_, hr, ?_, ?_⟩, ?_⟩
  · unfold Recs dtOf
    rw [hG_no, if_neg (by decide)]
    exact bods_none
  · unfold gg
    rw [hG_no, nw_none (y := fun _ => noB) _ fun _ _ => pOk_no]
    decide
  · show 0 + 1 ≤ _
    omega

/-- The calls that are about the power alone. -/
theorem Rest.cut {d : Dk} {i n : Nat} {L : List ByteArray} {g : Int} (h : Rest d i n L g) (a m : Int) (K : List Int) : Rest (d.cut a m K) i n L g := ⟨⟨h.live.off, h.live.hi, h.live.n⟩, h.hn, h.r, h.cap⟩
theorem Rest.on {d : Dk} {i n : Nat} {L : List ByteArray} {g : Int} (h : Rest d i n L g) : Rest d.on i n L g := ⟨⟨rfl, h.live.hi, h.live.n⟩, h.hn, h.r, h.cap⟩
theorem On.cut {d : Dk} {s : Sm} {n : Nat} (h : On d s n) (a m : Int) (K : List Int) : On (d.cut a m K) s n := ⟨⟨h.live.off, h.live.hi, h.live.n⟩, h.hn, h.h, h.br, h.r⟩
theorem On.on {d : Dk} {s : Sm} {n : Nat} (h : On d s n) : On d.on s n := ⟨⟨rfl, h.live.hi, h.live.n⟩, h.hn, h.h, h.br, h.r⟩
theorem Rest.crash {d : Dk} {i n : Nat} {L : List ByteArray} {g : Int} (h : Rest d i n L g) (K : List Int) : Rest (d.crash K) i n L g ∧ (d.crash K).ask = none := by
  obtain ⟨y, h1, h2, h3⟩ := h.r
  have hr : (d.crash K).r i = ⟨n, y, []⟩ := by
    show (d.r i).set _ = _
    rw [h1]
    rfl
  exact ⟨⟨⟨rfl, h.live.hi, by rw [hr]⟩, h.hn, ⟨y, hr, h2, h3⟩, h.cap⟩, rfl⟩
theorem Down.crash {d : Dk} {i n : Nat} {L : List ByteArray} {g : Int} (h : Down d i n L g) (K : List Int) : Rest (d.crash K) i n L g ∧ (d.crash K).ask = none := by
  obtain ⟨y, h1, h2, h3⟩ := h.r
  have hr : (d.crash K).r i = ⟨n, y, []⟩ := by
    show (d.r i).set _ = _
    rw [h1]
    rfl
  exact ⟨⟨⟨rfl, h.hi, by rw [hr]⟩, h.hn, ⟨y, hr, h2, h3⟩, h.cap⟩, rfl⟩

/-- A region beside the one that a call was about. -/
theorem On.beside {d e : Dk} {s : Sm} {n : Nat} (h : On d s n) (off : e.off = false) (k : e.k = d.k) (r : e.r s.i = d.r s.i) : On e s n := by
  obtain ⟨y, h1, h2⟩ := h.r
  exact ⟨⟨off, by rw [k]; exact h.live.hi, by rw [r]; exact h.live.n⟩, h.hn, h.h, h.br, y, r.trans h1, h2⟩
theorem Rest.beside {d e : Dk} {i n : Nat} {L : List ByteArray} {g : Int} (h : Rest d i n L g) (off : e.off = false) (k : e.k = d.k) (r : e.r i = d.r i) : Rest e i n L g := by
  obtain ⟨y, h1, h2⟩ := h.r
  exact ⟨⟨off, by rw [k]; exact h.live.hi, by rw [r]; exact h.live.n⟩, h.hn, ⟨y, r.trans h1, h2⟩, h.cap⟩
theorem Rest.lost {d e : Dk} {i n : Nat} {L : List ByteArray} {g : Int} (h : Rest d i n L g) (off : e.off = true) (ask : e.ask = none) (k : e.k = d.k) {kp : Nat → Bool} (r : e.r i = (d.r i).set kp) : Down e i n L g := by
  obtain ⟨y, h1, h2, h3⟩ := h.r
  exact ⟨off, ask, by rw [k]; exact h.live.hi, h.hn, ⟨y, by rw [r, h1]; rfl, h2, h3⟩, h.cap⟩

/-- Whatever lies in a region that waits for nothing, it is opened, or it is too full. -/
theorem open_any {d : Dk} {i n : Nat} {y : Nat → ByteArray} (hl : Live d i n) (hn : 3 ≤ n ∧ n ≤ 4096) (hr : d.r i = ⟨n, y, []⟩) (ha : d.ask = none) :
    (opX d (i : Int) = 12 ∧ opD d (i : Int) = d) ∨
    (opX d (i : Int) = 0 ∧ On (opD d (i : Int)) (opT d (i : Int)) n ∧ (opT d (i : Int)).i = i ∧ (opT d (i : Int)).L = opL d i ∧ (∀ j, j ≠ i → (opD d (i : Int)).r j = d.r j) ∧ (opD d (i : Int)).k = d.k ∧ (opD d (i : Int)).ask = none) := by
  have hy : opY d i = y := by
    unfold opY
    rw [hr]
    rfl
  have hN : (d.r i).n = n := hl.n
  have hS : opS d i = ⟨i, (n - 1) / 2, gg y ((n - 1) / 2), hH (y 0), [], false⟩ := by
    unfold opS
    rw [hy, hN]
  have hL : opL d i = recs (dtOf y ((n - 1) / 2)) := by
    unfold opL
    rw [hy, hN]
  have hsec : ¬ d.secs (i : Int) < 3 := by
    unfold Dk.secs
    rw [hl.has, if_pos rfl, Int.toNat_natCast, hN]
    omega
  have hoff : ¬ d.off = true := by rw [hl.off]; decide
  have eX : opX d (i : Int) = (opS d i).rX (opL d i) d := by
    unfold opX
    rw [if_neg hsec, if_neg hoff, Int.toNat_natCast]
  have eD : opD d (i : Int) = (opS d i).rD (opL d i) d := by
    unfold opD
    rw [if_neg hsec, if_neg hoff, Int.toNat_natCast]
  have eT : opT d (i : Int) = (opS d i).rS (opL d i) d := by
    unfold opT
    rw [Int.toNat_natCast]
  have hg0 : 0 ≤ gg y ((n - 1) / 2) := by
    unfold gg
    have := (hG_range (y 0)).1
    omega
  have hb := bods_recs (dtOf y ((n - 1) / 2))
  have hF : fE (opL d i) = 0 := by rw [hL]; exact fE_ok.2 (bods_fr hb).1
  have hE : (opS d i).rE (opL d i) = if 55 * (((n - 1) / 2 : Nat) : Int) - 1 < ((frs (opL d i)).size : Int) ∨ 281474976710655 ≤ gg y ((n - 1) / 2) then 12 else 0 := by
    rw [hS]
    unfold Sm.rE
    have hbf : ¬ (false = true) := by decide
    rw [if_neg hbf, if_pos hF]
  rw [eX, eD, eT]
  by_cases c : 55 * (((n - 1) / 2 : Nat) : Int) - 1 < ((frs (opL d i)).size : Int) ∨ 281474976710655 ≤ gg y ((n - 1) / 2)
  · rw [if_pos c] at hE
    left
    unfold Sm.rX Sm.rD
    rw [hE]
    exact ⟨rfl, rfl⟩
  · rw [if_neg c] at hE
    right
    have hrec : Recs y ((n - 1) / 2) (opL d i) := by rw [hL]; exact hb
    rw [hS] at hE ⊢
    rcases reset_on (s := ⟨i, (n - 1) / 2, gg y ((n - 1) / 2), hH (y 0), [], false⟩) hl hn rfl rfl hr rfl ⟨Int.le_refl _, hg0⟩ hrec (by simp only; omega) (opL d i) with ⟨c1, _⟩ | ⟨_, x, q, e, q2, q3, q4⟩ | ⟨_, x, q1, _⟩
    · exact absurd hE c1
    · exact ⟨x, q, by rw [e], by rw [e], q2, q3, q4 ha⟩
    · exact absurd ha q1

end Go.Proofs.Ytaojoecmbgmhoaa.M

namespace Go.Proofs.Ytaojoecmbgmhoaa.M

/-- What the last cell has of data. -/
def tl (D : ByteArray) : ByteArray := D.extract (55 * (D.size / 55)) D.size
theorem tl_size (D : ByteArray) : (tl D).size = D.size % 55 := by
  unfold tl
  rw [ByteArray.size_extract]
  omega
theorem ext_tl (D m : ByteArray) (a b : Nat) : (tl D ++ m).extract a b = (D ++ m).extract (55 * (D.size / 55) + a) (55 * (D.size / 55) + b) := by
  have hk : 55 * (D.size / 55) ≤ D.size := by omega
  have e : D.extract 0 (55 * (D.size / 55)) ++ tl D = D := by
    have := ext_app D (a := 0) (b := 55 * (D.size / 55)) (c := D.size) (by omega) hk
    unfold tl
    rw [this, ByteArray.extract_zero_size]
  have e2 : D ++ m = D.extract 0 (55 * (D.size / 55)) ++ (tl D ++ m) := by
    rw [← ByteArray.append_assoc, e]
  have hz : (D.extract 0 (55 * (D.size / 55))).size = 55 * (D.size / 55) := by rw [ByteArray.size_extract]; omega
  have := ByteArray.extract_append_size_add (a := D.extract 0 (55 * (D.size / 55))) (b := tl D ++ m) (i := a) (j := b)
  rw [← e2, hz] at this
  exact this.symm
theorem tl_app_size (D m : ByteArray) : (tl D ++ m).size = D.size % 55 + m.size := by rw [size_app, tl_size]
theorem tl_step (D m : ByteArray) : tl (tl D ++ m) = tl (D ++ m) := by
  have h1 := tl_app_size D m
  have h2 := size_app D m
  have e : tl (tl D ++ m) = (tl D ++ m).extract (55 * ((tl D ++ m).size / 55)) (tl D ++ m).size := rfl
  have e' : tl (D ++ m) = (D ++ m).extract (55 * ((D ++ m).size / 55)) (D ++ m).size := rfl
  rw [e, e', ext_tl]
  congr 1 <;> omega
theorem pc_tl (D m : ByteArray) (j : Nat) : pc (tl D ++ m) j = pc (D ++ m) (D.size / 55 + j) := by
  have h1 := tl_app_size D m
  have h2 := size_app D m
  unfold pc
  rw [ext_tl]
  congr 1 <;> omega
theorem sp_tl (g : Int) (D m : ByteArray) (j : Nat) : sp g ((D.size / 55 : Nat) : Int) (tl D ++ m) j = sp g 0 (D ++ m) (D.size / 55 + j) := by
  unfold sp
  rw [pc_tl]
  congr 1
  omega
theorem tl_count (D m : ByteArray) : (tl D ++ m).size / 55 + 1 = (D ++ m).size / 55 + 1 - D.size / 55 := by
  have h1 := tl_app_size D m
  have h2 := size_app D m
  omega
/-- As the code cuts it. -/
theorem tl_cut (D : ByteArray) : D.extract (D.size - D.size % 55) D.size = tl D := by
  unfold tl
  congr 1
  omega

theorem be_one {x : Int} (h0 : 0 ≤ x) (h1 : x < 256) : beB 1 x = oneB x := by
  have h := one_be 0 x
  have e : beB 0 x = ⟨#[]⟩ := rfl
  rw [e, app_nil] at h
  rw [← h]
  have : sh x 0 % 256 = x := by
    show x % 256 = x
    omega
  rw [this]
theorem bt_one {x : Nat} (h : x < 256) : bt (oneB (x : Int)) 0 = (x : Int) := by
  unfold bt
  rw [dif_pos (show 0 < (oneB (x : Int)).size from Nat.zero_lt_one)]
  show ((UInt8.ofNat ((x : Int)).toNat).toNat : Int) = _
  rw [Int.toNat_natCast, UInt8.toNat_ofNat']
  omega

/-- A head as it is read: its generation, its half. -/
theorem hIs_byte {s : ByteArray} {half : Nat} (h : hIs s half = true) (hh : half < 256) : bt s 14 = (half : Int) ∧ 0 < hNum s ∧ hdS (hNum s) half = s := by
  obtain ⟨h1, h2⟩ := of_decide_eq_true h
  refine ⟨?_, h1, h2⟩
  rw [← h2, hdS_byte, bt_one hh]
theorem head_ok {s : ByteArray} {b : Nat} (hb : bt s 14 = (b : Int)) (h1 : 1 ≤ hNum s) (h2 : b ≤ 1) (h3 : hdS (hNum s) b = s) : hG s = hNum s ∧ hH s = b := by
  have y : hIs s b = true := decide_eq_true ⟨by omega, h3⟩
  unfold hG hH
  rcases (by omega : b = 0 ∨ b = 1) with rfl | rfl
  · rw [if_pos (.inl y), if_pos y]
    exact ⟨rfl, rfl⟩
  · have n : hIs s 0 = false := by
      cases c : hIs s 0
      · rfl
      · have := (hIs_byte c (by omega)).1
        omega
    rw [if_pos (.inr y), n]
    exact ⟨rfl, rfl⟩
theorem head_no {s : ByteArray} {b : Nat} (hb : bt s 14 = (b : Int)) (h : ¬ (1 ≤ hNum s ∧ b ≤ 1 ∧ hdS (hNum s) b = s)) : hG s = 0 ∧ hH s = 1 := by
  have n0 : hIs s 0 = false := by
    cases c : hIs s 0
    · rfl
    · obtain ⟨c1, c2, c3⟩ := hIs_byte c (by omega)
      have e : b = 0 := by omega
      exact absurd ⟨by omega, by omega, by rw [e]; exact c3⟩ h
  have n1 : hIs s 1 = false := by
    cases c : hIs s 1
    · rfl
    · obtain ⟨c1, c2, c3⟩ := hIs_byte c (by omega)
      have e : b = 1 := by omega
      exact absurd ⟨by omega, by omega, by rw [e]; exact c3⟩ h
  unfold hG hH
  rw [n0, n1]
  exact ⟨rfl, rfl⟩
theorem num_one (s : ByteArray) (a : Nat) : num s a 1 = bt s a := by
  show num s a 0 * 256 + bt s (a + 0) = bt s a
  show 0 * 256 + bt s (a + 0) = bt s a
  rw [Nat.add_zero]
  omega

end Go.Proofs.Ytaojoecmbgmhoaa.M

namespace Go.Proofs.Ytaojoecmbgmhoaa.M

theorem layD_ind {P : Nat → Dk → Prop} (hw : ∀ m d a b x, P m d → P (m + 1) (d.write a b x)) (hf : ∀ m d a, P m d → P (m + 1) (d.flush a)) (i a : Nat) (c : Nat → ByteArray) (hm : ∀ m m' d, m ≤ m' → P m d → P m' d) : ∀ r k m d, P m d → P (m + r + 1) (layD i a c k r d)
  | 0, k, m, d, h => hf m d _ h
  | r + 1, k, m, d, h => by
    have h1 := hw m d (i : Int) ((a + k : Nat) : Int) (c k) h
    unfold layD
    split
    · have := layD_ind hw hf i a c hm r (k + 1) (m + 1) _ h1
      rw [show m + (r + 1) + 1 = m + 1 + r + 1 by omega]
      exact this
    · exact hm (m + 1) _ _ (by omega) h1

/-- As many regions, of the same sizes; queues longer by t at most. -/
structure Ms (d : Dk) (t : Nat) (e : Dk) : Prop where
  k : e.k = d.k
  n : ∀ j, (e.r j).n = (d.r j).n
  q : ∀ j, (e.r j).q.length ≤ (d.r j).q.length + t
theorem Ms.refl (d : Dk) : Ms d 0 d := ⟨rfl, fun _ => rfl, fun _ => Nat.le_refl _⟩
theorem Ms.mono {d e : Dk} {t u : Nat} (h : Ms d t e) (hu : t ≤ u) : Ms d u e := ⟨h.k, h.n, fun j => by have := h.q j; omega⟩
theorem Ms.trans {d e f : Dk} {t u : Nat} (h : Ms d t e) (g : Ms e u f) : Ms d (t + u) f := ⟨g.k.trans h.k, fun j => (g.n j).trans (h.n j), fun j => by have := h.q j; have := g.q j; omega⟩
theorem Ms.at_ {d : Dk} {i t : Nat} {r : Rg} (hn : r.n = (d.r i).n) (hq : r.q.length ≤ (d.r i).q.length + t) : Ms d t (d.at i r) := by
  refine ⟨rfl, fun j => ?_, fun j => ?_⟩
  · by_cases c : j = i
    · subst c
      show (upd d.r j r j).n = _
      rw [upd_at, hn]
    · show (upd d.r i r j).n = _
      rw [upd_off _ _ c]
  · by_cases c : j = i
    · subst c
      show (upd d.r j r j).q.length ≤ _
      rw [upd_at]
      exact hq
    · show (upd d.r i r j).q.length ≤ _
      rw [upd_off _ _ c]
      omega
theorem Ms.cnt (d : Dk) (a : Nat) : Ms d 0 (d.cnt a) := by
  cases h : d.now a
  · rw [cnt_not h]
    exact ⟨rfl, fun _ => rfl, fun _ => Nat.le_refl _⟩
  · obtain ⟨K, _, e⟩ := cnt_now h
    rw [e]
    exact ⟨rfl, fun _ => rfl, fun _ => Nat.zero_le _⟩
theorem Ms.write (d : Dk) (a b : Int) (x : ByteArray) : Ms d 1 (d.write a b x) := by
  unfold Dk.write
  split
  · have h1 : Ms d 1 (d.put a b x) := Ms.at_ rfl (by show ((d.r a.toNat).q ++ [(b.toNat, x)]).length ≤ _; simp)
    exact h1.trans (Ms.cnt _ _)
  · exact (Ms.refl d).mono (by omega)
theorem Ms.flush (d : Dk) (a : Int) : Ms d 0 (d.flush a) := by
  unfold Dk.flush
  split
  · split
    · exact Ms.cnt _ _
    · have h0 := Ms.cnt d a.toNat
      exact h0.trans (Ms.at_ (t := 0) (i := a.toNat) (r := (d.r a.toNat).set fun _ => true) (h0.n a.toNat).symm (Nat.zero_le _))
  · exact Ms.refl d
theorem Ms.lay (i a : Nat) (c : Nat → ByteArray) (r k : Nat) (d : Dk) : Ms d (r + 1) (layD i a c k r d) := by
  have := layD_ind (P := fun m e => Ms d m e) (fun m e a b x h => h.trans (Ms.write e a b x)) (fun m e a h => (h.trans (Ms.flush e a)).mono (by omega)) i a c (fun _ _ _ h1 h2 => h2.mono h1) r k 0 d (Ms.refl d)
  rw [show 0 + r + 1 = r + 1 by omega] at this
  exact this
theorem Ms.secs {d e : Dk} {t : Nat} (h : Ms d t e) (a : Int) : e.secs a = d.secs a := by
  unfold Dk.secs Dk.has
  rw [h.k, h.n]

/-- How many sectors a Reset lays. -/
def rsN (l : List ByteArray) : Nat := (frs l).size / 55 + 1
theorem Ms.rs (i h : Nat) (g : Int) (half : Nat) (l : List ByteArray) (d : Dk) : Ms d (rsN l + 3) (rsD i h g half l d) := by
  unfold rsD
  have h1 := Ms.lay i (1 + (1 - half) * h) (rsC g l) ((frs l).size / 55 + 1) 0 d
  split
  · exact (h1.trans (Ms.lay i 0 (fun _ => hdS (g + 1) (1 - half)) 1 0 _)).mono (by unfold rsN; omega)
  · exact h1.mono (by unfold rsN; omega)
theorem Ms.reset (s : Sm) (l : List ByteArray) (d : Dk) (hl : (frs l).size ≤ 55 * 2047 ∨ s.h ≤ 2047) : Ms d 2060 (s.rD l d) := by
  unfold Sm.rD
  split
  · rename_i c
    have hh : (frs l).size ≤ 55 * 2047 := by
      rcases hl with hl | hl
      · exact hl
      · unfold Sm.rE at c
        split at c
        · cases c
        · split at c
          · split at c
            · cases c
            · omega
          · rename_i c2
            exact absurd c c2
    exact (Ms.rs s.i s.h s.g s.half l d).mono (by unfold rsN; omega)
  · exact (Ms.refl d).mono (by omega)
theorem Ms.append (s : Sm) (b : ByteArray) (d : Dk) : Ms d 80 (s.apD b d) := by
  unfold Sm.apD
  split
  · rename_i c
    have hb : b.size ≤ 4096 := by
      unfold Sm.apE at c
      split at c
      · cases c
      · split at c
        · rename_i c2
          exact (frE_ok.1 c2).2
        · rename_i c2
          exact absurd c c2
    refine (Ms.lay s.i (apA s.h s.half s.L) (apC s.g s.L b) (apN s.L b) 0 d).mono ?_
    have hs : (frs (s.L ++ [b])).size = (frs s.L).size + (b.size + 6) := by rw [frs_snoc, size_app, fr_size]
    unfold apN
    omega
  · exact (Ms.refl d).mono (by omega)

end Go.Proofs.Ytaojoecmbgmhoaa.M
