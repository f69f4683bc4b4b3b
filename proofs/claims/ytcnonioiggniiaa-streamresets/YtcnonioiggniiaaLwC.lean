/-
  The walks of the laws' equal and of the law StreamRooms: it returns true, and nothing that was in memory has turned. Conditions: none but that the arguments lie in memory as such do.
-/
import Derived.Test.YtcnonioiggniiaaLwB
import Derived.Test.YtcnonioiggniiaaArH
import Derived.Deep.QuietTactic
import Derived.BigQuiet
import Derived.WalkSmall
namespace Go.Proofs.Ytcnonioiggniiaa.Wst
open Go.ChangeShapes Go.WideShapes Go.ChangeAt Go.RowKit Go.Proofs.Ytcnonioiggniiaa.M Go.Proofs.Ytcnonioiggniiaa.Wd

theorem max_mod (s : Int) (m : Nat) (hm : 0 < m) : ∃ p : Nat, p < m ∧ (if 0 < s then s else 0).tmod m = (p : Int) ∧ (max 0 s).tmod m = (p : Int) ∧ (max 0 s) % m = (p : Int) ∧ (if 0 < s then s else 0) % m = (p : Int) := by
  have e : (if 0 < s then s else 0) = max 0 s := by split <;> omega
  have h0 : 0 ≤ max 0 s := by omega
  have h1 := Int.emod_nonneg (max 0 s) (show (m : Int) ≠ 0 by omega)
  have h2 := Int.emod_lt_of_pos (max 0 s) (show (0 : Int) < m by omega)
  refine ⟨(max 0 s % m).toNat, by omega, ?_, ?_, by omega, ?_⟩
  · rw [e, Int.tmod_eq_emod_of_nonneg h0]; omega
  · rw [Int.tmod_eq_emod_of_nonneg h0]; omega
  · rw [e]; omega
theorem empty_of {t : ByteArray} (h : t.size = 0) : t.toList.isEmpty = true := by
  rw [ByteArray.toList_eq]
  simp
  have : t.data.size = 0 := h
  exact Array.eq_empty_of_size_eq_zero this
theorem list_ext {L K : List ByteArray} (hl : L.length = K.length) (h : ∀ i, i < L.length → nth L i = nth K i) : L = K := by
  apply List.ext_getElem hl
  intro i h1 h2
  have := h i h1
  rw [nth_get h1, nth_get h2] at this
  exact this

set_option maxRecDepth 100000 in
set_option maxHeartbeats 400000 in
theorem equal_ (L K : List ByteArray) (a b : Option Addr) (c1 c2 : Nat) (w : World) (hL : War.Lies w a L.length (nth L)) (hK : War.Lies w b K.length (nth K)) (hl : L.length ≤ 140737488355328) :
    Calls Try.prog 16 #[.slice a L.length c1, .slice b K.length c2] w fun e w' => e = .returned (.bool (decide (L = K))) ∧ Below w.heap.size w w' := by
  by_cases c : L.length = K.length
  · have HL := hid hL
    have HK := hid hK
    have EX := hid fun h => list_ext c h
    have NE : Hid (∀ i, ¬ nth L i = nth K i → decide (L = K) = false) := fun i h => decide_eq_false fun e => h (by rw [e])
    clear hL hK
    rw [← c] at HK ⊢
    generalize L.length = n at *
    clear c
    go_enter Try.func16, Try.ntmps16
    go_wp2
    go_loopw [13] (fun iv wr => ∃ i : Nat, i ≤ n ∧ iv = .int .i64 (i : Int) ∧ (∀ j, j < i → nth L j = nth K j) ∧ Below w.heap.size w wr) (fun i _ => n - (intOf i).toNat)
    case atStart => exact ⟨0, Nat.zero_le _, rfl, fun j hj => absurd hj (Nat.not_lt_zero j), Below.refl _ _⟩
    case round =>
      obtain ⟨i, hi, rfl, hs, hbel⟩ := hrel
      have HS := hid hs
      clear hs
      by_cases hlt : i < n
      · rcases HL.out with h | ⟨b1, off, ha, hb, hcell⟩
        · exfalso; omega
        · rcases HK.out with h | ⟨b2, off', ha', hb', hcell'⟩
          · exfalso; omega
          · have hci : wr.cell? ⟨b1, off + i, none⟩ = some (.string (nth L i)) := by rw [← hcell i hlt]; exact hbel.cell (by exact hb)
            have hci' : wr.cell? ⟨b2, off' + i, none⟩ = some (.string (nth K i)) := by rw [← hcell' i hlt]; exact hbel.cell (by exact hb')
            have ST : Hid (nth L i = nth K i → ∀ j, j < i + 1 → nth L j = nth K j) := fun e j hj => by
              by_cases c : j = i
              · rw [c]; exact e
              · exact HS.out j (by omega)
            have NEi := hid (NE.out i)
            clear hcell hcell' HS
            subst ha ha'
            have ls := list_same (nth L i) (nth K i)
            generalize nth L i = x at *
            generalize nth K i = y at *
            by_cases ce : x = y
            · subst ce
              rw [decide_eq_true rfl] at ls
              have S1 := hid (ST.out rfl)
              clear ST NEi
              go_wp2
              go_quiet (fail)
              go_wp2
              go_roundw
              case rel => exact ⟨i + 1, by omega, by go_num, S1.out, below_drewN hbel _⟩
              case measure => simp [intOf] <;> omega
            · rw [decide_eq_false ce] at ls
              have N1 := hid (NEi.out ce)
              clear ST NEi ce
              go_wp2
              go_quiet (fail)
              go_wp2
              go_ret
              refine ⟨?_, below_drewN hbel _⟩
              rw [N1.out]
              rfl
      · have hE : i = n := by omega
        have hEQ : Hid (decide (L = K) = true) := decide_eq_true (EX.out fun j hj => HS.out j (by omega))
        go_wp2
        go_ret
        refine ⟨?_, hbel⟩
        rw [hEQ.out]
        rfl
  · have hD : decide (L = K) = false := decide_eq_false fun e => c (by rw [e])
    have c' : ¬ (L.length : Int) = (K.length : Int) := by omega
    rw [hD]
    clear hL hK hD c
    generalize L.length = n at *
    generalize K.length = m at *
    have cb : ((n : Int) == (m : Int)) = false := by simpa using c'
    go_enter Try.func16, Try.ntmps16
    go_wp2
    go_ret
    exact ⟨rfl, Below.refl _ _⟩

set_option maxRecDepth 100000 in
set_option maxHeartbeats 1600000 in
theorem lawRooms (size : Int) (p : Option Addr) (n cap : Nat) (y : Nat → ByteArray) (w : World) (_ : -9223372036854775808 ≤ size) (_ : size < 9223372036854775808) (hy : ∀ i, (y i).size ≤ maxLen) (hc : n ≤ cap) (_ : cap ≤ maxLen) (hL : War.Lies w p n y) :
    Calls Try.prog 8 #[.int .i64 size, .slice p n cap] w fun e w' => e = .returned (.bool true) ∧ Below w.heap.size w w' := by
  obtain ⟨q, hq40, m1', m2', m3', m4'⟩ := max_mod size 40 (by omega)
  have m3 : max 0 size % 40 = (q : Int) := m3'
  have m2 : (max 0 size).tmod 40 = (q : Int) := m2'
  clear m1' m2' m3' m4'
  have k2 : min (n : Int) 60 = ((min n 60 : Nat) : Int) := by omega
  obtain ⟨k, hk⟩ : ∃ k, k = min n 60 := ⟨_, rfl⟩
  have hk60 : k ≤ 60 := by omega
  have hkn : k ≤ n := by omega
  rw [← hk] at k2
  clear hk
  obtain ⟨N, hN⟩ : ∃ N : Nat, N = 3 + q := ⟨_, rfl⟩
  have hNq : (3 : Int) + (q : Int) = (N : Int) := by omega
  have hN42 : N ≤ 42 := by omega
  have hN3 : 3 ≤ N := by omega
  have C0 := hid (newOne (Below.refl w.heap.size w) (N : Int))
  have CC := hid fun w => capacity (N : Int) w
  have eC : (if (N : Int) < 3 then 0 else capN (min (N : Int) 4096).toNat) = 55 * (((N - 1) / 2 : Nat) : Int) - 1 := by
    rw [if_neg (by omega), show (min (N : Int) 4096).toNat = N by omega]
    rfl
  rw [eC] at CC
  obtain ⟨R0, A0, K0⟩ := rest_new (z := (N : Int)) (by omega) (by omega)
  rw [Int.toNat_natCast] at R0
  have OPN : Hid (∀ (W : World) D F, One w W D (newD (fun _ => (N : Int)) 1) F → Calls Try.prog 15 #[.pointer (some ⟨D, 0, none⟩), .int .i64 0] W fun e w' => ∃ S v F' d' s', e = .returned (.tuple #[.pointer (some ⟨S, 0, none⟩), v, .int .i64 0]) ∧ Hid (Ss w w' S D s' d' F' ∧ On d' s' N ∧ s'.i = 0 ∧ s'.L = [] ∧ d'.k = 1 ∧ d'.ask = none)) := fun W D F o => (open_calm o R0 (by omega) (k1 K0 rfl) A0).mono fun e w' ⟨S, v, F', d', s', q1, q2, q3, q4, q5, q6, q7, q8, q9, _, _, _, own, _⟩ => ⟨S, v, F', d', s', q1, q2, q3, q4, q5, q7.trans K0, q9 A0⟩
  have LFT : Hid (∀ (W : World) S D F d s, Ss w W S D s d F → On d s N → Calls Try.prog 24 #[.pointer (some ⟨S, 0, none⟩)] W fun e w' => e = .returned (.int .i64 s.left) ∧ Below W.heap.size W w') := fun W S D F d s h o => by
    obtain ⟨L', l⟩ := h.o.at_
    exact left l h.st (On.sw o).1
  have APN : Hid (∀ (W : World) S D F d s (b : ByteArray), b.size ≤ 600 → Ss w W S D s d F → On d s N → s.i = 0 → d.k = 1 → d.ask = none → Calls Try.prog 17 #[.pointer (some ⟨S, 0, none⟩), .string b] W fun e w' => ∃ X, e = .returned (.int .i64 X) ∧ Hid (X = s.apE b ∧ ∃ F' d' s', Ss w w' S D s' d' F' ∧ On d' s' N ∧ s'.i = 0 ∧ d'.k = 1 ∧ d'.ask = none ∧ s'.left = if X = 0 then s.left - (b.size : Int) - 6 else s.left)) := fun W S D F d s b hb h o hi hk ha => by
    refine (append_on h o (k1 hk hi) b (by unfold maxLen; omega)).mono fun e w' ⟨_, c⟩ => ?_
    rcases c with ⟨q0, q1, q2⟩ | ⟨q1, q2, d', q3, q4, q5, q6, q7⟩ | ⟨_, _, q, _⟩
    · exact ⟨_, q1, rfl, _, _, _, q2, o, hi, hk, ha, by rw [if_neg q0]⟩
    · refine ⟨_, q2, q1.symm, _, d', _, q3, q4, hi, q6.trans hk, q7 ha, ?_⟩
      rw [if_pos rfl]
      unfold Sm.left
      show 55 * (s.h : Int) - 1 - ((frs (s.L ++ [b])).size : Int) = _
      rw [frs_snoc, size_app, fr_size]
      omega
    · exact absurd ha q
  have HL := hid hL
  have HY := hid hy

  have n3 := hid (empty_of (t := (⟨#[]⟩ : ByteArray)) rfl)
  clear R0 A0 K0 hL hy eC hN
  go_enter Try.func8, Try.ntmps8
  go_wp2_with fail
  refine C0.out.mono ?_
  rintro e w1 ⟨rfl, ⟨F, o⟩, _⟩
  have O1 := hid (OPN.out w1 _ F o)
  clear o OPN C0
  go_wp2_with fail
  refine O1.out.mono ?_
  rintro e w2 ⟨S, v, F', d', s', rfl, h2⟩
  clear O1
  go_wp2_with fail
  refine (wakes _).mono ?_
  rintro e w3 ⟨rfl, b3⟩
  obtain ⟨D, hD⟩ : ∃ D, D = w.heap.size + 1 := ⟨_, rfl⟩
  rw [← hD] at h2
  obtain ⟨a1, a2, a3, a4, a5, a6⟩ := h2.out
  have C3 := hid (LFT.out w3 S D _ _ _ (a1.below b3) a2)
  rw [On.leftN a2, a4] at C3
  have e0 : ((frs []).size : Int) = 0 := rfl
  rw [e0, Int.sub_zero] at C3
  have ST := hid (show ∃ F d s, Ss w w3 S D s d F ∧ On d s N ∧ s.i = 0 ∧ d.k = 1 ∧ d.ask = none from ⟨_, _, _, a1.below b3, a2, a3, a5, a6⟩)
  clear a1 a2 a3 a4 a5 a6 h2 b3 hD
  generalize 55 * (((N - 1) / 2 : Nat) : Int) - 1 = Z at *
  go_wp2_with fail
  refine C3.out.mono ?_
  rintro e w4 ⟨rfl, b4⟩
  have ST4 : Hid (∃ F d s, Ss w w4 S D s d F ∧ On d s N ∧ s.i = 0 ∧ d.k = 1 ∧ d.ask = none) := by
    obtain ⟨F, d, s, a1, a2⟩ := ST.out
    exact ⟨F, d, s, a1.below b4, a2⟩
  clear ST b4 C3
  go_wp2_with fail
  refine (CC.out _).mono ?_
  rintro e w5 ⟨rfl, rfl⟩
  go_wp2
  go_loopw [43] (fun iv wr => ∃ i : Nat, i ≤ k ∧ iv = .int .i64 (i : Int) ∧ ∃ F d s, Ss w wr S D s d F ∧ On d s N ∧ s.i = 0 ∧ d.k = 1 ∧ d.ask = none) (fun iv _ => k - (intOf iv).toNat)
  case atStart => exact ⟨0, Nat.zero_le _, rfl, ST4.out⟩
  case round =>
    clear ST4
    obtain ⟨i, hi, rfl, F, d, s, a1, a2, a3, a4, a5⟩ := hrel
    by_cases hlt : i < k
    · rcases HL.out with h | ⟨bb, off, ha, hb, hcell⟩
      · exfalso; omega
      · have hci : wr.cell? ⟨bb, off + i, none⟩ = some (.string (y i)) := by rw [← hcell i (by omega)]; exact a1.o.bel.cell (by exact hb)
        have hys := HY.out i
        subst ha
        clear hcell
        generalize y i = Y at hci hys
        unfold maxLen at hys
        have hmin : min (Y.size : Int) 600 = ((min Y.size 600 : Nat) : Int) := by omega
        have hsl := War.cutL Y (Y.extract 0 (min Y.size 600)) _ _ rfl (Nat.min_le_left _ _) rfl
        have hB : (Y.extract 0 (min Y.size 600)).size ≤ 600 := by rw [ByteArray.size_extract]; omega
        generalize Y.extract 0 (min Y.size 600) = B at hsl hB
        generalize min Y.size 600 = M at hmin hsl
        have CL := hid (LFT.out wr S D _ _ _ a1 a2)
        have AP := hid fun W hW => APN.out W S D _ _ _ B hB (a1.below hW) a2 a3 a4 a5
        have hE := apE_of a2 B
        have hL0 : 0 ≤ s.left ∧ s.left ≤ 2000 := by
          have h1 := On.leftN a2
          have h2 := (On.sw a2).1.cap
          have h3 := a2.h
          unfold Sm.left
          omega
        have BE := hid a1.o.bel
        generalize s.apE B = E at *
        generalize s.left = LF at *
        clear a1 a2 a3 a4 a5
        by_cases cz : B.size = 0
        · have hf : frE B = 2 := (fr_none cz).1
          rw [if_neg (by rw [hf]; decide), hf] at hE
          subst hE
          have em := empty_of cz
          go_wp2_with fail
          refine CL.out.mono ?_
          rintro e w6 ⟨rfl, b6⟩
          have AP6 := hid (AP.out w6 b6)
          clear CL AP b6
          go_wp2_with fail
          refine AP6.out.mono ?_
          rintro e w7 ⟨X, rfl, h7⟩
          obtain ⟨rfl, F7, d7, s7, c1, c2, c3, c4, c5, c6⟩ := h7.out
          have C8 := hid (LFT.out w7 S D _ _ _ c1 c2)
          rw [if_neg (by decide)] at c6
          rw [c6] at C8
          have G := hid (show ∀ W, Below w7.heap.size w7 W → ∃ F d s, Ss w W S D s d F ∧ On d s N ∧ s.i = 0 ∧ d.k = 1 ∧ d.ask = none from fun W hW => ⟨_, _, _, c1.below hW, c2, c3, c4, c5⟩)
          clear c1 c2 c3 c4 c5 c6 h7 AP6
          go_wp2_with fail
          refine C8.out.mono ?_
          rintro e w8 ⟨rfl, b8⟩
          have G8 := hid (G.out w8 b8)
          clear C8 b8 G
          go_wp2
          go_roundw
          case rel => exact ⟨i + 1, by omega, by go_num, G8.out⟩
          case measure => simp [intOf] <;> omega
        · have hf : frE B = 0 := frE_ok.2 ⟨by omega, by omega⟩
          rw [if_pos hf] at hE
          have em := Wf.full_of cz
          by_cases cf : LF < (B.size : Int) + 6
          · rw [if_pos cf] at hE
            subst hE
            go_wp2_with fail
            refine CL.out.mono ?_
            rintro e w6 ⟨rfl, b6⟩
            have AP6 := hid (AP.out w6 b6)
            clear CL AP b6
            go_wp2_with fail
            refine AP6.out.mono ?_
            rintro e w7 ⟨X, rfl, h7⟩
            obtain ⟨rfl, F7, d7, s7, c1, c2, c3, c4, c5, c6⟩ := h7.out
            have C8 := hid (LFT.out w7 S D _ _ _ c1 c2)
            rw [if_neg (by decide)] at c6
            rw [c6] at C8
            have G := hid (show ∀ W, Below w7.heap.size w7 W → ∃ F d s, Ss w W S D s d F ∧ On d s N ∧ s.i = 0 ∧ d.k = 1 ∧ d.ask = none from fun W hW => ⟨_, _, _, c1.below hW, c2, c3, c4, c5⟩)
            clear c1 c2 c3 c4 c5 c6 h7 AP6
            go_wp2_with fail
            refine C8.out.mono ?_
            rintro e w8 ⟨rfl, b8⟩
            have G8 := hid (G.out w8 b8)
            clear C8 b8 G
            go_wp2
            go_roundw
            case rel => exact ⟨i + 1, by omega, by go_num, G8.out⟩
            case measure => simp [intOf] <;> omega
          · rw [if_neg cf] at hE
            subst hE
            go_wp2_with fail
            refine CL.out.mono ?_
            rintro e w6 ⟨rfl, b6⟩
            have AP6 := hid (AP.out w6 b6)
            clear CL AP b6
            go_wp2_with fail
            refine AP6.out.mono ?_
            rintro e w7 ⟨X, rfl, h7⟩
            obtain ⟨rfl, F7, d7, s7, c1, c2, c3, c4, c5, c6⟩ := h7.out
            have C8 := hid (LFT.out w7 S D _ _ _ c1 c2)
            rw [if_pos rfl] at c6
            rw [c6] at C8
            have G := hid (show ∀ W, Below w7.heap.size w7 W → ∃ F d s, Ss w W S D s d F ∧ On d s N ∧ s.i = 0 ∧ d.k = 1 ∧ d.ask = none from fun W hW => ⟨_, _, _, c1.below hW, c2, c3, c4, c5⟩)
            clear c1 c2 c3 c4 c5 c6 h7 AP6
            go_wp2_with fail
            refine C8.out.mono ?_
            rintro e w8 ⟨rfl, b8⟩
            have G8 := hid (G.out w8 b8)
            clear C8 b8 G
            go_wp2
            go_roundw
            case rel => exact ⟨i + 1, by omega, by go_num, G8.out⟩
            case measure => simp [intOf] <;> omega
    · have BE := hid a1.o.bel
      clear a1 a2 a3 a4 a5
      go_wp2
      go_ret
      exact ⟨rfl, BE.out⟩

end Go.Proofs.Ytcnonioiggniiaa.Wst
