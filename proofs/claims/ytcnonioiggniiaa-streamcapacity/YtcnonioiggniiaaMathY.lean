/-
  Plain facts on frames laid one behind the other: they are read back, noughts behind them are no frame, and a frame whose check sum or body has turned is none. Nothing is asked but the bounds that each fact names.
-/
import Derived.WalkKit
import Derived.Test.YtcnonioiggniiaaMathL
namespace Go.Proofs.Ytcnonioiggniiaa.M

theorem app_empty (a : ByteArray) : a ++ ⟨#[]⟩ = a := by
  apply ByteArray.ext
  simp
theorem empty_app (a : ByteArray) : (⟨#[]⟩ : ByteArray) ++ a = a := by
  apply ByteArray.ext
  simp
/-- Frames, one behind the other. -/
def frs : List ByteArray → ByteArray
  | [] => ⟨#[]⟩
  | b :: l => fr b ++ frs l
theorem frs_app : ∀ (a b : List ByteArray), frs (a ++ b) = frs a ++ frs b
  | [], b => by simp [frs, empty_app]
  | x :: a, b => by
    show fr x ++ frs (a ++ b) = fr x ++ frs a ++ frs b
    rw [frs_app a b, ByteArray.append_assoc]
theorem frs_snoc (l : List ByteArray) (b : ByteArray) : frs (l ++ [b]) = frs l ++ fr b := by
  rw [frs_app]
  show frs l ++ (fr b ++ ⟨#[]⟩) = _
  rw [app_empty]
/-- Bodies that can be framed. -/
def Framable (l : List ByteArray) : Prop := ∀ b ∈ l, 1 ≤ b.size ∧ b.size ≤ 4096
theorem frs_size : ∀ (l : List ByteArray), Framable l → (frs l).size ≤ 4102 * l.length
  | [], _ => Nat.le_refl _
  | b :: l, h => by
    have h1 := frs_size l fun x hx => h x (List.mem_cons_of_mem _ hx)
    have h2 := h b (List.mem_cons_self ..)
    show (fr b ++ frs l).size ≤ 4102 * (l.length + 1)
    rw [size_app, fr_size]
    omega

theorem ext_mid {p t r : ByteArray} {n : Nat} (h : n = p.size + t.size) : (p ++ t ++ r).extract p.size n = t := by
  rw [h]
  exact extract_mid p t r

/-- Something laid as a frame at a place: a length, a check sum, a body. -/
theorem frame_at {p b x y r T : ByteArray} (hT : T = p ++ two b ++ x ++ y ++ r) (hx : x.size = 4) (hy : y.size = b.size) (hb : b.size < 65536) :
    n2 T p.size = b.size ∧ (n4 T p.size : Int) = num x 0 4 ∧ bod T p.size = y ∧ chk T p.size = crc (two b ++ y) ∧ p.size + 6 + b.size ≤ T.size := by
  have h2 := two_size b
  have e1 : T = p ++ two b ++ (x ++ y ++ r) := by rw [hT]; simp [ByteArray.append_assoc]
  have e2 : T = (p ++ two b) ++ x ++ (y ++ r) := by rw [hT]; simp [ByteArray.append_assoc]
  have e3 : T = (p ++ two b ++ x) ++ y ++ r := hT
  have z2 : (p ++ two b).size = p.size + 2 := by rw [size_app, h2]
  have z6 : (p ++ two b ++ x).size = p.size + 6 := by rw [size_app, z2, hx]
  have a1 : (n2 T p.size : Int) = (b.size : Int) := by
    rw [n2_int, e1, num_left _ _ _ _ (by rw [z2]; exact Nat.le_refl _), num_right]
    unfold two
    rw [num_whole (by omega)]
    have : ((256 ^ 2 : Nat) : Int) = 65536 := by decide
    rw [this]
    omega
  have a1' : n2 T p.size = b.size := by omega
  have a2 : (n4 T p.size : Int) = num x 0 4 := by
    rw [n4_int, ← z2, e2, num_left _ _ _ _ (by rw [size_app (p ++ two b) x, hx]; exact Nat.le_refl _), num_right]
  have a3 : bod T p.size = y := by
    unfold bod
    rw [a1', ← z6, e3]
    exact ext_mid (by rw [hy])
  have a4 : T.extract p.size (p.size + 2) = two b := by
    rw [e1]
    exact ext_mid (by rw [h2])
  refine ⟨a1', a2, a3, ?_, ?_⟩
  · unfold chk
    rw [a3, a4]
  · rw [e3, size_app, size_app, z6, hy]
    omega

theorem num_four {c : Nat} (h : c < 4294967296) : num (beB 4 (c : Int)) 0 4 = (c : Int) := by
  rw [num_whole (by omega)]
  have : ((256 ^ 4 : Nat) : Int) = 4294967296 := by decide
  rw [this]
  omega

/-- A frame is read where it was laid. -/
theorem frame_back {p b r T : ByteArray} (hT : T = p ++ fr b ++ r) (h1 : 1 ≤ b.size) (h2 : b.size ≤ 4096) :
    qE T (p.size : Int) = 0 ∧ n2 T p.size = b.size ∧ bod T p.size = b := by
  have hT' : T = p ++ two b ++ beB 4 (crc (two b ++ b) : Int) ++ b ++ r := by rw [hT]; unfold fr; simp [ByteArray.append_assoc]
  obtain ⟨a1, a2, a3, a4, a5⟩ := frame_at hT' (beB_size _ _) rfl (by omega)
  rw [num_four (crc_lt _)] at a2
  exact ⟨q_well (by omega) (by omega) (by omega) (by omega), a1, a3⟩

/-- Frames are read where they were laid, one behind the other. -/
theorem frames_back {l : List ByteArray} {r T : ByteArray} (hT : T = frs l ++ r) (hg : Framable l) : ∀ j, j ≤ l.length →
    Up T j ∧ pl T j = (frs (l.take j)).size ∧ ∀ i (h : i < l.length), i < j → bd T i = l[i]
  | 0, _ => ⟨up_zero T, rfl, fun i _ h => absurd h (Nat.not_lt_zero i)⟩
  | j + 1, hj => by
    obtain ⟨u, e, d⟩ := frames_back hT hg j (by omega)
    have hl : l = l.take j ++ (l[j]'(by omega) :: l.drop (j + 1)) := by
      rw [← List.drop_eq_getElem_cons (by omega), List.take_append_drop]
    have hT2 : T = frs (l.take j) ++ fr (l[j]'(by omega)) ++ (frs (l.drop (j + 1)) ++ r) := by
      rw [hT]
      conv => lhs; rw [hl]
      rw [frs_app]
      show frs (l.take j) ++ (fr (l[j]'(by omega)) ++ frs (l.drop (j + 1))) ++ r = _
      simp [ByteArray.append_assoc]
    obtain ⟨g1, g2⟩ := hg (l[j]'(by omega)) (List.getElem_mem _)
    obtain ⟨b1, b2, b3⟩ := frame_back hT2 g1 g2
    rw [← e] at b1 b2 b3
    refine ⟨up_succ u b1, ?_, fun i h hi => ?_⟩
    · show pl T j + 6 + n2 T (pl T j) = _
      rw [b2, List.take_succ_eq_append_getElem (by omega), frs_snoc, size_app, fr_size, e]
      omega
    · by_cases c : i = j
      · subst c
        exact b3
      · exact d i h (by omega)

/-- Noughts. -/
def zs (n : Nat) : ByteArray := ⟨(List.replicate n (0 : UInt8)).toArray⟩
theorem zs_size (n : Nat) : (zs n).size = n := by
  show (List.replicate n (0 : UInt8)).toArray.size = n
  simp
theorem bt_zs (n j : Nat) : bt (zs n) j = 0 := by
  unfold bt
  split
  · rename_i h
    have e : (zs n)[j] = 0 := by
      show (List.replicate n (0 : UInt8)).toArray[j]'_ = 0
      simp
    rw [e]
    rfl
  · rfl
/-- Where noughts stand, or nothing, there is no frame. -/
theorem no_frame (p : ByteArray) (n : Nat) : ¬ qE (p ++ zs n) (p.size : Int) = 0 := fun h => by
  obtain ⟨h1, _, h3, _⟩ := q_place h
  have e : (n2 (p ++ zs n) p.size : Int) = 0 := by
    rw [n2_int, num_right]
    show (0 * 256 + bt (zs n) (0 + 0)) * 256 + bt (zs n) (0 + 1) = 0
    rw [bt_zs, bt_zs]
    rfl
  omega

theorem back_fst {l : List ByteArray} {n : Nat} (hg : Framable l) : Fst (frs l ++ zs n) l.length ∧ pl (frs l ++ zs n) l.length = (frs l).size ∧ ∀ i (h : i < l.length), bd (frs l ++ zs n) i = l[i] := by
  obtain ⟨u, e, d⟩ := frames_back (T := frs l ++ zs n) rfl hg l.length (Nat.le_refl _)
  rw [List.take_length] at e
  exact ⟨⟨u, by rw [e]; exact no_frame _ n⟩, e, fun i h => d i h h⟩

end Go.Proofs.Ytcnonioiggniiaa.M
