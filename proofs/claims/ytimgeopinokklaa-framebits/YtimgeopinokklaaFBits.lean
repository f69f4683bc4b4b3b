/-
  The walk of the law FrameBits: of frames in which one bit of the k-th one's check sum or body is turned just those ahead of it are told; the law returns true, and nothing that was in memory has turned. Conditions: none but that the slice lies in memory as slices do and that the numbers fit their kinds.
-/
import Derived.Test.YtimgeopinokklaaRows
import Derived.Test.YtimgeopinokklaaMathZ
import Derived.Test.YtimgeopinokklaaFBack
import Derived.WalkKit
import Derived.ProofKit
import Derived.OpenShut
import Derived.WalkSpells
import Derived.Deep.QuietTactic
import Derived.BigQuiet
import Derived.WalkSmall
import Derived.Laws.IdiomStrings
namespace Go.Proofs.Ytimgeopinokklaa.Wt2
open Go.ChangeShapes Go.WideShapes Go.ChangeAt Go.RowKit Go.Proofs.Ytimgeopinokklaa.M Go.Proofs.Ytimgeopinokklaa.Wl Go.Proofs.Ytimgeopinokklaa.Wb2

/-- How much of a text is taken. -/
def cut3 (y : ByteArray) : Nat := min y.size 300
/-- What of a text is taken. -/
def pc (y : ByteArray) : ByteArray := y.extract 0 (cut3 y)
theorem cut3_int (y : ByteArray) : (if 300 < (y.size : Int) then 300 else (y.size : Int)) = (cut3 y : Int) := by unfold cut3; split <;> omega
theorem cut3_min (y : ByteArray) : min (y.size : Int) 300 = (cut3 y : Int) := by unfold cut3; omega
theorem cut3_le (y : ByteArray) : cut3 y ≤ y.size := by unfold cut3; omega
theorem pc_size (y : ByteArray) : (pc y).size ≤ 300 := by unfold pc cut3; rw [ByteArray.size_extract]; omega
/-- Of the first i texts, cut off, those that aren't empty. -/
def cl (y : Nat → ByteArray) : Nat → List ByteArray
  | 0 => []
  | i + 1 => if (pc (y i)).size = 0 then cl y i else cl y i ++ [pc (y i)]
theorem cl_no {y : Nat → ByteArray} {i : Nat} (h : (pc (y i)).size = 0) : cl y (i + 1) = cl y i := if_pos h
theorem cl_yes {y : Nat → ByteArray} {i : Nat} (h : ¬ (pc (y i)).size = 0) : cl y (i + 1) = cl y i ++ [pc (y i)] := if_neg h
theorem cl_all (y : Nat → ByteArray) : ∀ i, ∀ b ∈ cl y i, 1 ≤ b.size ∧ b.size ≤ 300
  | 0 => fun b h => by cases h
  | i + 1 => by
    by_cases c : (pc (y i)).size = 0
    · rw [cl_no c]
      exact cl_all y i
    · rw [cl_yes c]
      intro b hb
      rcases List.mem_append.1 hb with h | h
      · exact cl_all y i b h
      · rw [List.mem_singleton] at h
        subst h
        exact ⟨by omega, pc_size _⟩
theorem cl_length (y : Nat → ByteArray) : ∀ i, (cl y i).length ≤ i
  | 0 => Nat.le_refl _
  | i + 1 => by
    have := cl_length y i
    by_cases c : (pc (y i)).size = 0
    · rw [cl_no c]; omega
    · rw [cl_yes c, List.length_append]; simp; omega

/-- Where the k-th frame's check sum begins, once it is laid. -/
def fV (L : List ByteArray) (K j : Nat) : Int := if K < j then (((frs (L.take K)).size + 2 : Nat) : Int) else 0
/-- How many bytes its check sum and body have, once it is laid. -/
def zV (L : List ByteArray) (K j : Nat) : Int := if K < j then (((L.getD K ⟨#[]⟩).size + 4 : Nat) : Int) else 0
theorem take_snoc {L : List ByteArray} {j : Nat} (h : j < L.length) : frs (L.take (j + 1)) = frs (L.take j) ++ fr (L.getD j ⟨#[]⟩) := by
  rw [List.take_succ_eq_append_getElem h, frs_snoc]
  congr 2
  simp [List.getD, h]
theorem all_framable {L : List ByteArray} (h : ∀ b ∈ L, 1 ≤ b.size ∧ b.size ≤ 300) : Framable L := fun b hb => by have := h b hb; omega
theorem take_size {L : List ByteArray} (h : ∀ b ∈ L, 1 ≤ b.size ∧ b.size ≤ 300) (hl : L.length ≤ 10) (j : Nat) : (frs (L.take j)).size ≤ 41020 := by
  have h1 := frs_size (L.take j) (all_framable fun b hb => h b (List.mem_of_mem_take hb))
  have h2 : (L.take j).length ≤ 10 := by rw [List.length_take]; omega
  omega
theorem getD_all {L : List ByteArray} (h : ∀ b ∈ L, 1 ≤ b.size ∧ b.size ≤ 300) {j : Nat} (hj : j < L.length) : 1 ≤ (L.getD j ⟨#[]⟩).size ∧ (L.getD j ⟨#[]⟩).size ≤ 300 := by
  have e : L.getD j ⟨#[]⟩ = L[j] := by simp [List.getD, hj]
  rw [e]
  exact h _ (List.getElem_mem _)
theorem fV_at (L : List ByteArray) (K : Nat) : fV L K (K + 1) = ((frs (L.take K)).size : Int) + 2 := by unfold fV; rw [if_pos (by omega)]; omega
theorem zV_at (L : List ByteArray) (K : Nat) : zV L K (K + 1) = ((fr (L.getD K ⟨#[]⟩)).size : Int) - 2 := by unfold zV; rw [if_pos (by omega), fr_size]; omega
theorem fV_else {L : List ByteArray} {K j : Nat} (h : ¬ j = K) : fV L K (j + 1) = fV L K j := by
  unfold fV
  by_cases c : K < j
  · rw [if_pos c, if_pos (by omega)]
  · rw [if_neg c, if_neg (by omega)]
theorem zV_else {L : List ByteArray} {K j : Nat} (h : ¬ j = K) : zV L K (j + 1) = zV L K j := by
  unfold zV
  by_cases c : K < j
  · rw [if_pos c, if_pos (by omega)]
  · rw [if_neg c, if_neg (by omega)]

/-- A text turned into bytes of its own. -/
theorem bytes_of (S : ByteArray) (u : World) : ∃ cap u', (convert 9 39 (.string S)).run Try.prog u = .ok (.slice (some ⟨u.heap.size, 0, none⟩) S.size cap) u' ∧
    (∀ j, j < S.size → u'.cell? ⟨u.heap.size, j, none⟩ = some (.int .u8 (bn S j : Int))) ∧ (∀ j, j < S.size → u'.frozen? ⟨u.heap.size, j, none⟩ = false) ∧ Below u.heap.size u u' ∧ u.heap.size < u'.heap.size := by
  refine ⟨_, _, run_bytes_of_string u 9 39 5 S Try.underlying9 Try.underlying39 Try.underlying5, fun j hj => ?_, fun j hj => ?_, ?_, ?_⟩
  · have h := World.cell?_alloc_mark u.drew (bytesRow S (grownCap u S.size 0 5)) 5 ((bytesRow S (grownCap u S.size 0 5)).size, (bytesRow S (grownCap u S.size 0 5)).size + 1) j
    rw [bytesRow_at S _ j hj] at h
    have e := get_bt S j hj
    rw [bn_int, ← e]
    exact h
  · have h := World.frozen?_alloc_mark u.drew (bytesRow S (grownCap u S.size 0 5)) 5 (bytesRow S (grownCap u S.size 0 5)).size ((bytesRow S (grownCap u S.size 0 5)).size + 1) j
    have hz : S.size ≤ (bytesRow S (grownCap u S.size 0 5)).size := by
      unfold bytesRow
      rw [Array.size_append, Array.size_map]
      exact Nat.le_add_right _ _
    rw [decide_eq_false (by omega), Bool.false_and] at h
    exact h
  · exact ((Below.refl _ _).drew).alloc (Nat.le_refl _) _
  · show u.heap.size < (u.heap.push _).size
    rw [Array.size_push]
    omega
theorem flip_byte {x u : Nat} (hx : x < 256) (hu : u < 8) : (UInt8.ofNat (x ^^^ 2 ^ u)).toNat = x ^^^ 2 ^ u := by
  rw [UInt8.toNat_ofNat']
  exact Nat.mod_eq_of_lt (flip_lt hx hu)
theorem flip_val {x u : Nat} (hx : x < 256) (hu : u < 8) : bits .xor .u8 (x : Int) (2 ^ u % 256) = ((UInt8.ofNat (x ^^^ 2 ^ u)).toNat : Int) := by
  have h : (2 : Nat) ^ u < 2 ^ 8 := Nat.pow_lt_pow_right (by decide) hu
  have e : (2 : Int) ^ u % 256 = ((2 ^ u : Nat) : Int) := by
    rw [show (2 : Int) ^ u = ((2 ^ u : Nat) : Int) by simp]
    generalize (2 : Nat) ^ u = t at h
    omega
  rw [e, u8_xor_nat x (2 ^ u) hx h, flip_byte hx hu]
/-- Bytes of which one was stored, turned back into a text. -/
theorem back_of {S : ByteArray} {u' : World} {g cap p : Nat} (v : UInt8) (hc : ∀ j, j < S.size → u'.cell? ⟨g, j, none⟩ = some (.int .u8 (bn S j : Int))) :
    (convert 39 9 (.slice (some ⟨g, 0, none⟩) S.size cap)).run Try.prog (u'.setCell ⟨g, p, none⟩ (.int .u8 (v.toNat : Int))).drew = .ok (.string (setB S p v)) (u'.setCell ⟨g, p, none⟩ (.int .u8 (v.toNat : Int))).drew := by
  have hl : (S.data.toList.set p v).length = S.size := by simp
  have h := run_convert_bytes_back (P := Try.prog) (u'.setCell ⟨g, p, none⟩ (.int .u8 (v.toNat : Int))).drew 39 9 5 ⟨g, 0, none⟩ cap (S.data.toList.set p v) Try.underlying39 Try.underlying5 Try.underlying9 (fun j hj => by
    have hj' : j < S.size := by rw [hl] at hj; exact hj
    rw [Wp.add_at]
    show (u'.setCell ⟨g, p, none⟩ (.int .u8 (v.toNat : Int))).cell? ⟨g, j, none⟩ = _
    by_cases c : p = j
    · subst c
      rw [World.cell?_setCell_same' u' ⟨g, p, none⟩ _ (by rw [hc p hj']; rfl)]
      simp
    · rw [World.cell?_setCell_other (a := ⟨g, p, none⟩) (b := ⟨g, j, none⟩) (w := u') (h := fun h => c (by injection h)), hc j hj', List.getElem_set_ne c, bn_int, ← get_bt S j hj']
      rfl)
  rw [hl] at h
  exact h
theorem take_room {L : List ByteArray} {K : Nat} (h : K < L.length) : (frs (L.take K)).size + 6 + (L.getD K ⟨#[]⟩).size ≤ (frs L).size := by
  have hl : L = L.take K ++ (L[K] :: L.drop (K + 1)) := by
    rw [← List.drop_eq_getElem_cons h, List.take_append_drop]
  have e : L.getD K ⟨#[]⟩ = L[K] := by simp [List.getD, h]
  have e2 : (frs L).size = (frs (L.take K)).size + ((L[K]).size + 6 + (frs (L.drop (K + 1))).size) := by
    conv => lhs; rw [hl]
    rw [frs_app, size_app]
    show _ + (fr L[K] ++ frs (L.drop (K + 1))).size = _
    rw [size_app, fr_size]
  rw [e]
  omega

theorem bitsAt (al : Option Addr) (ll lc N : Nat) (y : Nat → ByteArray) (k bit : Int) (w : World) (hy : ∀ i, (y i).size ≤ maxLen)
    (hcl : ll ≤ lc) (hll : ll ≤ 9223372036854775807) (eN : (if 10 < (ll : Int) then 10 else (ll : Int)) = (N : Int)) (hN : N ≤ 10) (hNl : N ≤ ll) (Hl : Lies w al ll y) :
    Calls Try.prog 8 #[.slice al ll lc, .int .i64 k, .int .i64 bit] w fun e w' => e = .returned (.bool true) ∧ Below w.heap.size w w' := by
  have HL : Hid (Lies w al ll y) := Hl
  clear Hl
  have eN2 : min (ll : Int) 10 = (N : Int) := by rw [← eN]; split <;> omega
  obtain ⟨i0, hi, hz0, hz1, hz2⟩ := info_parts Wa.info9
  go_enter Try.func8, Try.ntmps8
  go_wp2
  go_loopw [7, 27] (fun pv iv wr => ∃ i : Nat, i ≤ N ∧ iv = .int .i64 (i : Int) ∧ wr.ownsRow w.heap.size 9 1 pv (cl y i).length (vs (cl y i)) ∧ Below w.heap.size w wr) (fun _ i _ => N - (intOf i).toNat)
  case atStart => exact ⟨0, Nat.zero_le _, rfl, World.ownsRow_nil _ _ _ _, Below.refl _ _⟩
  case round =>
    obtain ⟨i, hi', rfl, hown, hbel⟩ := hrel
    have hsz := hbel.size
    have hgl := cl_length y i
    by_cases hlt : i < N
    · rcases HL.out with h | ⟨b, off, hal, hb, hc⟩
      · exfalso; omega
      · have hci : wr.cell? ⟨b, off + i, none⟩ = some (.string (y i)) := by rw [← hc i (by omega)]; exact hbel.cell (by exact hb)
        subst hal
        have hyi := hy i
        have HY : Hid (¬ (pc (y i)).size = 0 → cl y (i + 1) = cl y i ++ [pc (y i)]) := fun h => cl_yes h
        have HN : Hid ((pc (y i)).size = 0 → cl y (i + 1) = cl y i) := fun h => cl_no h
        have HP : Hid (∀ Y, pc Y = Y.extract 0 (cut3 Y)) := fun Y => rfl
        clear eN eN2 hc hy
        generalize y i = Y at hci HY HN hyi
        generalize cl y i = L at hown hgl HY HN
        have hcut := cut3_int Y
        have hcut2 := cut3_min Y
        have hcl2 := cut3_le Y
        rw [HP.out] at HY HN
        clear HP
        unfold maxLen at hyi
        generalize cut3 Y = c at *
        by_cases c0 : (Y.extract 0 c).size = 0
        · have he := Wf.none_of c0
          have HX : Hid (cl y (i + 1) = L) := HN.out c0
          clear HY HN c0
          go_wp2
          go_roundw
          case rel => exact ⟨i + 1, by omega, by go_num, by rw [HX.out]; exact hown, hbel⟩
          case measure => simp [intOf] <;> omega
        · have hne := Wf.full_of c0
          have HX : Hid (cl y (i + 1) = L ++ [Y.extract 0 c]) := HY.out c0
          have HV : Hid (vs (L ++ [Y.extract 0 c]) = vs L ++ [.string (Y.extract 0 c)]) := vs_snoc L _
          have HK : Hid ((L ++ [Y.extract 0 c]).length = L.length + 1) := List.length_append
          generalize hL : L ++ [Y.extract 0 c] = L' at HX HV HK
          generalize vs L = V at hown HV
          generalize L.length = n at hown HK hgl
          clear hL HY HN c0
          go_wp2_with (at_builtin; refine wpList_append_own _ rfl _ _ 36 rfl w.heap.size 9 i0 (.string ⟨#[]⟩) 1 16 Try.underlying36 hi hz0 hz1 hz2 rfl (by decide) _ _ _ rfl (hown.alloc _) ⟨wr.heap.size, 0, none⟩ 1 1 [.string (Y.extract 0 c)] rfl rfl ?c1 ?c2 ?c3 ?c4 ?c5 ?_)
          case c1 =>
            intro j u hj
            match j, hj with
            | 0, hj => simp at hj; subst hj; simp [Addr.add]
          case c2 => intro u hu; simp at hu; subst hu; rfl
          case c3 => unfold maxLen; omega
          case c4 => omega
          case c5 => simp; omega
          · intro v' w2 hown2 hgrow _
            have hlt2 := hown.lt
            have B2 : Hid (Below w.heap.size w w2) := (hbel.alloc (by omega) _).grown hgrow (by simp; omega) fun k hk => (hlt2 k hk).1
            clear hown hgrow hlt2
            go_wp2
            go_roundw
            case rel => exact ⟨i + 1, by omega, by go_num, by rw [HX.out, HV.out, HK.out]; exact hown2, B2.out⟩
            case measure => simp [intOf] <;> omega
    · obtain rfl : i = N := by omega
      have hall := cl_all y i
      obtain ⟨a, cap, hv, hc, hm', L1⟩ := own_lies (f := fun j => (cl y i).getD j ⟨#[]⟩) hown (fun j hj => vs_get hj)
      subst hv
      have H1 : Hid (Lies wr a (cl y i).length fun j => (cl y i).getD j ⟨#[]⟩) := L1
      clear eN eN2 hy HL hown hlt hi' L1
      generalize cl y i = L at *
      unfold maxLen at hm'
      by_cases hn0 : L.length = 0
      · rw [hn0] at *
        go_wp2_with fail
        refine (Ww.wakes _).mono ?_
        rintro e w1 ⟨rfl, b1⟩
        go_wp2_with fail
        refine (Ww.wakes _).mono ?_
        rintro e w2 ⟨rfl, b2⟩
        go_wp2
        go_ret
        exact ⟨rfl, hbel.trans ((b1.mono hsz).trans (b2.mono (Nat.le_trans hsz b1.size)))⟩
      · obtain ⟨K, hK⟩ := Int.eq_ofNat_of_zero_le (show 0 ≤ max 0 k % (L.length : Int) from Int.emod_nonneg _ (by omega))
        have hKn : K < L.length := by have := Int.emod_lt_of_pos (max 0 k) (show (0 : Int) < (L.length : Int) by omega); omega
        have hn1 : 1 ≤ L.length := by omega
        have hN10 : L.length ≤ 10 := by omega
        have hn2 : ((L.length : Int) == 0) = false := by simpa using hn0
        clear hn0
        go_wp2_with fail
        refine (Ww.wakes _).mono ?_
        rintro e w1 ⟨rfl, b1⟩
        have HB : Hid (Below w.heap.size w w1) := hbel.trans (b1.mono hsz)
        have H2 : Hid (Lies w1 a L.length fun j => L.getD j ⟨#[]⟩) := H1.out.below b1
        clear H1 hbel b1 hsz
        have HA : Hid (∀ b ∈ L, 1 ≤ b.size ∧ b.size ≤ 300) := hall
        clear hall
        go_wp2
        rw [hK]
        clear hK
        go_loopw [8, 9, 10, 58] (fun sv fv zv iv wr => ∃ j : Nat, j ≤ L.length ∧ iv = .int .i64 (j : Int) ∧ sv = .string (frs (L.take j)) ∧ fv = .int .i64 (fV L K j) ∧ zv = .int .i64 (zV L K j) ∧ Below w1.heap.size w1 wr) (fun _ _ _ i _ => L.length - (intOf i).toNat)
        case atStart => exact ⟨0, Nat.zero_le _, rfl, rfl, rfl, rfl, Below.refl _ _⟩
        case round =>
          obtain ⟨j, hj, rfl, rfl, rfl, rfl, hbel⟩ := hrel
          have hts := take_size HA.out hN10 j
          by_cases hlt : j < L.length
          · rcases H2.out with h | ⟨b, off, ha, hb, hcell⟩
            · exfalso; omega
            · have hci : wr.cell? ⟨b, off + j, none⟩ = some (.string (L.getD j ⟨#[]⟩)) := by rw [← hcell j hlt]; exact hbel.cell (by exact hb)
              subst ha
              obtain ⟨g1, g2⟩ := getD_all HA.out hlt
              have C : Hid _ := fun w => Wf.put (L.getD j ⟨#[]⟩) w (by unfold maxLen; omega)
              obtain ⟨e1, e2⟩ := fr_ok (b := L.getD j ⟨#[]⟩) (by omega) (by omega)
              rw [e1, e2] at C
              have HS : Hid (frs (L.take (j + 1)) = frs (L.take j) ++ fr (L.getD j ⟨#[]⟩)) := take_snoc hlt
              have hfs := fr_size (L.getD j ⟨#[]⟩)
              clear e1 e2 hcell
              by_cases c : j = K
              · subst c
                have HF : Hid (fV L j (j + 1) = ((frs (L.take j)).size : Int) + 2) := fV_at L j
                have HZ : Hid (zV L j (j + 1) = ((L.getD j ⟨#[]⟩).size : Int) + 6 - 2) := by have h := zV_at L j; rw [hfs] at h; show zV L j (j + 1) = _; omega
                generalize fr (L.getD j ⟨#[]⟩) = F at C HS hfs
                generalize L.getD j ⟨#[]⟩ = Y at C hci hfs g1 g2 HZ
                generalize frs (L.take j) = S at HS HF hts
                clear HA H2 HB
                go_wp2_with (go_at_call 11; refine (C.out _).mono ?_; rintro e w2 ⟨rfl, b2⟩)
                go_roundw
                case rel => exact ⟨j + 1, by omega, by go_num, by rw [HS.out], by rw [HF.out], by rw [HZ.out], hbel.trans (b2.mono hbel.size)⟩
                case measure => simp [intOf] <;> omega
              · have HF : Hid (fV L K (j + 1) = fV L K j) := fV_else c
                have HZ : Hid (zV L K (j + 1) = zV L K j) := zV_else c
                have hjk : ¬ (j : Int) = (K : Int) := by omega
                generalize fr (L.getD j ⟨#[]⟩) = F at C HS hfs
                generalize L.getD j ⟨#[]⟩ = Y at C hci hfs g1 g2
                generalize frs (L.take j) = S at HS hts
                generalize fV L K j = f at HF
                generalize zV L K j = z at HZ
                clear HA H2 HB c
                go_wp2_with (go_at_call 11; refine (C.out _).mono ?_; rintro e w2 ⟨rfl, b2⟩)
                go_roundw
                case rel => exact ⟨j + 1, by omega, by go_num, by rw [HS.out], by rw [HF.out], by rw [HZ.out], hbel.trans (b2.mono hbel.size)⟩
                case measure => simp [intOf] <;> omega
          · obtain rfl : j = L.length := by omega
            clear hlt hj
            have hf : fV L K L.length = (((frs (L.take K)).size + 2 : Nat) : Int) := if_pos hKn
            have hz : zV L K L.length = (((L.getD K ⟨#[]⟩).size + 4 : Nat) : Int) := if_pos hKn
            have hroom := take_room hKn
            have hgd := getD_all HA.out hKn
            have hts2 := take_size HA.out hN10 L.length
            rw [List.take_length] at hts2 ⊢
            rw [hf, hz]
            clear hf hz hts
            have HE : Hid (∀ q u (v : UInt8), u < 8 → q < (L.getD K ⟨#[]⟩).size + 4 → v.toNat = bn (frs L) ((frs (L.take K)).size + 2 + q) ^^^ 2 ^ u →
                Fst (setB (frs L) ((frs (L.take K)).size + 2 + q) v) K ∧ pl (setB (frs L) ((frs (L.take K)).size + 2 + q) v) K = (frs (L.take K)).size ∧ ∀ i, i < K → bd (setB (frs L) ((frs (L.take K)).size + 2 + q) v) i = L.getD i ⟨#[]⟩) := fun q u v hu hq hv => by
              have e : L.getD K ⟨#[]⟩ = L[K] := by simp [List.getD, hKn]
              rw [e] at hq
              obtain ⟨f1, f2, f3⟩ := bits_fst (all_framable HA.out) hKn hu hq hv
              exact ⟨f1, f2, fun i hi => by rw [f3 i (by omega) hi]; simp [List.getD, show i < L.length by omega]⟩
            clear HA
            generalize frs L = S at *
            generalize (frs (L.take K)).size = P at *
            generalize hZ : (L.getD K ⟨#[]⟩).size + 4 = Z at *
            have hZ2 : 5 ≤ Z ∧ Z ≤ 304 := by omega
            have hroom2 : P + 2 + Z ≤ S.size := by omega
            clear hZ hroom hgd
            obtain ⟨B, hB⟩ := Int.eq_ofNat_of_zero_le (show 0 ≤ max 0 bit % (8 * (Z : Int)) from Int.emod_nonneg _ (by omega))
            have hB2 : B < 8 * Z := by have := Int.emod_lt_of_pos (max 0 bit) (show (0 : Int) < 8 * (Z : Int) by omega); omega
            obtain ⟨cap2, u', hcv, hcells, hfroz, b2, hs2⟩ := bytes_of S wr
            have HC : Hid (∀ j, j < S.size → u'.cell? ⟨wr.heap.size, j, none⟩ = some (.int .u8 (bn S j : Int))) := hcells
            have HZ : Hid (∀ j, j < S.size → u'.frozen? ⟨wr.heap.size, j, none⟩ = false) := hfroz
            clear hcells hfroz
            go_wp2
            rw [hB]
            obtain ⟨q, hq⟩ := Int.eq_ofNat_of_zero_le (show 0 ≤ (B : Int) / 8 by omega)
            obtain ⟨u, hu⟩ := Int.eq_ofNat_of_zero_le (show 0 ≤ (B : Int) % 8 by omega)
            have hqz : q < Z := by omega
            have hu8 : u < 8 := by omega
            have hx := bn_lt S (P + 2 + q)
            have hc1 := HC.out (P + 2 + q) (by omega)
            have hf1 := HZ.out (P + 2 + q) (by omega)
            have HEq : Hid _ := HE.out q u
            clear hB HE
            generalize hpos : P + 2 + q = p at *
            have hp1 : ((P + 2 : Nat) : Int) + (q : Int) = (p : Int) := by omega
            have hp2 : p < S.size := by omega
            generalize hxx : bn S p = x at *
            go_region
            have hval := flip_val hx hu8
            rw [hval]
            obtain ⟨v, hv⟩ : ∃ v, v = UInt8.ofNat (x ^^^ 2 ^ u) := ⟨_, rfl⟩
            rw [← hv]
            have hvn : v.toNat = x ^^^ 2 ^ u := by rw [hv]; exact flip_byte hx hu8
            obtain ⟨f1, f2, f3⟩ := HEq.out v hu8 hqz hvn
            have M := back_of (S := S) (g := wr.heap.size) (cap := cap2) (p := p) v HC.out
            have b3 : Hid (Below wr.heap.size wr (u'.setCell ⟨wr.heap.size, p, none⟩ (.int .u8 (v.toNat : Int))).drew) := (b2.setCell (Nat.le_refl _) _).drew
            clear hval hv hvn HEq HC HZ hcv hc1 hf1 b2 hs2
            generalize (u'.setCell ⟨wr.heap.size, p, none⟩ (.int .u8 (v.toNat : Int))).drew = W2 at *
            have hTs := setB_size S p v
            have A : Hid _ := fun w => Wa.all (setB S p v) w (by omega)
            have HF : Hid (Fst (setB S p v) K) := f1
            have HP : Hid (pl (setB S p v) K = P) := f2
            have H3 : Hid (∀ i, i < K → bd (setB S p v) i = L.getD i ⟨#[]⟩) := f3
            have hz0' := hbel.size
            have H4 : Hid (Lies W2 a L.length fun j => L.getD j ⟨#[]⟩) := (H2.out.below hbel).below b3.out
            have B4 : Hid (Below w.heap.size w W2) := HB.out.trans ((hbel.mono HB.out.size).trans (b3.out.mono (Nat.le_trans HB.out.size hz0')))
            clear f1 f2 f3 hbel b3 H2 HB hq hu hz0'
            generalize setB S p v = T at *
            go_wp2_with fail
            refine (A.out _).mono ?_
            rintro e w3 ⟨k', v', hF, rfl, own1, b1⟩
            obtain rfl := fst_one hF HF.out
            rw [HP.out]
            obtain ⟨a', cap', rfl, hc', hm2, L2⟩ := own_lies own1 (fun j hj => bds_get hj)
            have H5 : Hid (Lies w3 a L.length fun j => L.getD j ⟨#[]⟩) := H4.out.below b1
            have H6 : Hid (Lies w3 a' k' (bd T)) := L2
            have B5 : Hid (Below w.heap.size w w3) := B4.out.trans (b1.mono B4.out.size)
            clear own1 M A HF HP hF H4 L2 b1 B4
            unfold maxLen at hm2
            go_wp2
            go_loopw [125] (fun iv wr => ∃ i : Nat, i ≤ k' ∧ iv = .int .i64 (i : Int) ∧ Below w3.heap.size w3 wr) (fun i _ => k' - (intOf i).toNat)
            case atStart => exact ⟨0, Nat.zero_le _, rfl, Below.refl _ _⟩
            case round =>
              obtain ⟨j, hj, rfl, hbel⟩ := hrel
              by_cases hlt : j < k'
              · rcases H5.out with h | ⟨g, off, ha, hb, hcell⟩
                · exfalso; omega
                · rcases H6.out with h | ⟨g', off', ha', hb', hcell'⟩
                  · exfalso; omega
                  · have hci : wr.cell? ⟨g, off + j, none⟩ = some (.string (L.getD j ⟨#[]⟩)) := by rw [← hcell j (by omega)]; exact hbel.cell (by exact hb)
                    have hci' : wr.cell? ⟨g', off' + j, none⟩ = some (.string (L.getD j ⟨#[]⟩)) := by rw [← H3.out j hlt, ← hcell' j hlt]; exact hbel.cell (by exact hb')
                    generalize L.getD j ⟨#[]⟩ = x at hci hci'
                    clear hcell hcell'
                    subst ha ha'
                    go_wp2
                    go_quiet (fail)
                    go_wp2
                    go_roundw
                    case rel => exact ⟨j + 1, by omega, by go_num, below_drewN hbel _⟩
                    case measure => simp [intOf] <;> omega
              · obtain rfl : j = k' := by omega
                go_wp2
                go_ret
                exact ⟨rfl, B5.out.trans (hbel.mono B5.out.size)⟩

end Go.Proofs.Ytimgeopinokklaa.Wt2
