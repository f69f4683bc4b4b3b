/-
  The walks of the laws' equal and of the law StreamRooms: it returns true, and nothing that was in memory has turned. Conditions: none but that the arguments lie in memory as such do.
-/
import Derived.Test.YthmholgfnjpgbaaGreatLwB
import Derived.Test.YthmholgfnjpgbaaGreatWd
import Derived.Deep.QuietTactic
import Derived.BigQuiet
import Derived.WalkSmall
namespace Go.Proofs.YthmholgfnjpgbaaGreat.Wst
open Go.ChangeShapes Go.WideShapes Go.ChangeAt Go.RowKit Go.Proofs.YthmholgfnjpgbaaGreat.M Go.Proofs.YthmholgfnjpgbaaGreat.Wd

theorem max_mod (s : Int) (m : Nat) (hm : 0 < m) : ∃ p : Nat, p < m ∧ (if 0 < s then s else 0).tmod m = (p : Int) ∧ (max 0 s).tmod m = (p : Int) ∧ (max 0 s) % m = (p : Int) ∧ (if 0 < s then s else 0) % m = (p : Int) := by
  have e : (if 0 < s then s else 0) = max 0 s := by split <;> omega
  have h0 : 0 ≤ max 0 s := by omega
  have h1 := Int.emod_nonneg (max 0 s) (show (m : Int) ≠ 0 by omega)
  have h2 := Int.emod_lt_of_pos (max 0 s) (show (0 : Int) < m by omega)
  refine ⟨(max 0 s % m).toNat, by omega, ?_, ?_, by omega, ?_⟩
  · rw [e, Int.tmod_eq_emod_of_nonneg h0]; omega
  · rw [Int.tmod_eq_emod_of_nonneg h0]; omega
  · rw [e]; omega
theorem empty_of {t : ByteArray} (h : t.size = 0) : t.toList.isEmpty = true := by
  rw [ByteArray.toList_eq]
  simp
  have : t.data.size = 0 := h
  exact Array.eq_empty_of_size_eq_zero this
theorem list_ext {L K : List ByteArray} (hl : L.length = K.length) (h : ∀ i, i < L.length → nth L i = nth K i) : L = K := by
  apply List.ext_getElem hl
  intro i h1 h2
  have := h i h1
  rw [nth_get h1, nth_get h2] at this
  exact this

set_option maxRecDepth 100000 in
set_option maxHeartbeats 400000 in
theorem equal_ (L K : List ByteArray) (a b : Option Addr) (c1 c2 : Nat) (w : World) (hL : War.Lies w a L.length (nth L)) (hK : War.Lies w b K.length (nth K)) (hl : L.length ≤ 140737488355328) :
    Calls Tryz.prog 11 #[.slice a L.length c1, .slice b K.length c2] w fun e w' => e = .returned (.bool (decide (L = K))) ∧ Below w.heap.size w w' := by
  by_cases c : L.length = K.length
  · have HL := hid hL
    have HK := hid hK
    have EX := hid fun h => list_ext c h
    have NE : Hid (∀ i, ¬ nth L i = nth K i → decide (L = K) = false) := fun i h => decide_eq_false fun e => h (by rw [e])
    clear hL hK
    rw [← c] at HK ⊢
    generalize L.length = n at *
    clear c
    go_enter Tryz.func11, Tryz.ntmps11
    go_wp2
    go_loopw [13] (fun iv wr => ∃ i : Nat, i ≤ n ∧ iv = .int .i64 (i : Int) ∧ (∀ j, j < i → nth L j = nth K j) ∧ Below w.heap.size w wr) (fun i _ => n - (intOf i).toNat)
    case atStart => exact ⟨0, Nat.zero_le _, rfl, fun j hj => absurd hj (Nat.not_lt_zero j), Below.refl _ _⟩
    case round =>
      obtain ⟨i, hi, rfl, hs, hbel⟩ := hrel
      have HS := hid hs
      clear hs
      by_cases hlt : i < n
      · rcases HL.out with h | ⟨b1, off, ha, hb, hcell⟩
        · exfalso; omega
        · rcases HK.out with h | ⟨b2, off', ha', hb', hcell'⟩
          · exfalso; omega
          · have hci : wr.cell? ⟨b1, off + i, none⟩ = some (.string (nth L i)) := by rw [← hcell i hlt]; exact hbel.cell (by exact hb)
            have hci' : wr.cell? ⟨b2, off' + i, none⟩ = some (.string (nth K i)) := by rw [← hcell' i hlt]; exact hbel.cell (by exact hb')
            have ST : Hid (nth L i = nth K i → ∀ j, j < i + 1 → nth L j = nth K j) := fun e j hj => by
              by_cases c : j = i
              · rw [c]; exact e
              · exact HS.out j (by omega)
            have NEi := hid (NE.out i)
            clear hcell hcell' HS
            subst ha ha'
            have ls := list_same (nth L i) (nth K i)
            generalize nth L i = x at *
            generalize nth K i = y at *
            by_cases ce : x = y
            · subst ce
              rw [decide_eq_true rfl] at ls
              have S1 := hid (ST.out rfl)
              clear ST NEi
              go_wp2
              go_quiet (fail)
              go_wp2
              go_roundw
              case rel => exact ⟨i + 1, by omega, by go_num, S1.out, below_drewN hbel _⟩
              case measure => simp [intOf] <;> omega
            · rw [decide_eq_false ce] at ls
              have N1 := hid (NEi.out ce)
              clear ST NEi ce
              go_wp2
              go_quiet (fail)
              go_wp2
              go_ret
              refine ⟨?_, below_drewN hbel _⟩
              rw [N1.out]
              rfl
      · have hE : i = n := by omega
        have hEQ : Hid (decide (L = K) = true) := decide_eq_true (EX.out fun j hj => HS.out j (by omega))
        go_wp2
        go_ret
        refine ⟨?_, hbel⟩
        rw [hEQ.out]
        rfl
  · have hD : decide (L = K) = false := decide_eq_false fun e => c (by rw [e])
    have c' : ¬ (L.length : Int) = (K.length : Int) := by omega
    rw [hD]
    clear hL hK hD c
    generalize L.length = n at *
    generalize K.length = m at *
    have cb : ((n : Int) == (m : Int)) = false := by simpa using c'
    go_enter Tryz.func11, Tryz.ntmps11
    go_wp2
    go_ret
    exact ⟨rfl, Below.refl _ _⟩

end Go.Proofs.YthmholgfnjpgbaaGreat.Wst
