/-
  The walk of the law NodeEnds where the number of tries is above nought: it returns true. Conditions: the numbers fit their kinds; the slices lie in memory.
-/
import Derived.Test.YtjpglfnmapncmaaNdE
namespace Go.Proofs.Ytjpglfnmapncmaa.Wnd
open Go.ChangeShapes Go.WideShapes Go.ChangeAt Go.RowKit Go.Proofs.Ytjpglfnmapncmaa.M Go.Proofs.Ytjpglfnmapncmaa.Wnv

set_option maxRecDepth 100000 in
set_option maxHeartbeats 12800000 in
theorem ends_ge (tr : Int) (oa : Option Addr) (on oc : Nat) (ov : Nat → Bool) (ta : Option Addr) (tn tc : Nat) (tv : Nat → Int) (w : World) (h0 : ¬ tr ≤ 0) (_ : -9223372036854775808 ≤ tr) (_ : tr < 9223372036854775808) (_ : on ≤ oc) (_ : oc ≤ maxLen) (ho : Bls w oa on ov) (_ : tn ≤ tc) (_ : tc ≤ maxLen) (ht : Lgs w ta tn tv) :
    Calls Try.prog 6 #[.int .i64 tr, .slice oa on oc, .slice ta tn tc] w fun e w' => e = .returned (.bool true) ∧ Below w.heap.size w w' := by
  have HO := hid ho
  have HT := hid ht
  clear ho ht
  have hmn : tn ≤ 9223372036854775807 := by unfold maxLen at *; omega
  have hmo : on ≤ 9223372036854775807 := by unfold maxLen at *; omega
  have hb2w : ∀ b o, oa = some ⟨b, o, none⟩ → on = 0 ∨ b < w.heap.size := fun b o h => by
    rcases HO.out with h1 | ⟨b', o', e, hb, _⟩
    · exact .inl h1
    · rw [h] at e
      obtain ⟨rfl, _⟩ : b = b' ∧ o = o' := by simpa using e
      exact .inr hb
  go_enter Try.func6, Try.ntmps6
  go_wp2_with fail
  refine (wake0 _).mono ?_
  rintro e w1 ⟨rfl, b1⟩
  go_wp2_with fail
  refine (wakes _).mono ?_
  rintro e w2 ⟨rfl, b2⟩
  have K2 : Ke w w2 w1.heap.size 1 0 0 0 := Ke.call ⟨Cel.new w1 1 0 0 0 28, b1.alloc b1.size _, b1.size⟩ b2
  clear b1 b2
  go_wp2_with fail
  obtain ⟨T, hT⟩ : ∃ T : Nat, 1 + tr % 20 = (T : Int) := ⟨(1 + tr % 20).toNat, by omega⟩
  have hT1 : 1 ≤ T ∧ T ≤ 20 := by omega
  rw [hT]
  generalize w1.heap.size = S at *
  clear h0
  go_loopw [8, 9, 38] (fun ev nv iv wr => ∃ (i : Nat) (N A : Int), i ≤ T ∧ iv = .int .i64 (i : Int) ∧ nv = .int .i64 N ∧ ev = .int .i64 0 ∧ 0 ≤ N ∧ N ≤ 1005 * (i : Int) ∧ Ke w wr S (ph i (T : Int)) i 0 A) (fun _ _ iv _ => T - (intOf iv).toNat)
  case atStart => exact ⟨0, 0, 0, by omega, rfl, rfl, rfl, by omega, by omega, by rw [ph_lt (by omega)]; exact K2⟩
  case round =>
    clear K2
    obtain ⟨i, N, A, hi, rfl, rfl, rfl, hN0, hN1, K⟩ := hrel
    by_cases hlt : i < T
    · rw [ph_lt (by omega)] at K
      obtain ⟨v0, v1, v2, v3, vf, vl⟩ := K.c.cells
      have E1 : ((i + 1 : Nat) : Int) = (i : Int) + 1 := by omega
      by_cases c1 : i < tn
      · obtain ⟨b, off, ha, hb, hc⟩ := (K.lg HT.out).2.resolve_left (by omega)
        have hcz := hc i c1
        clear hc
        subst ha
        generalize tv i = z at hcz
        by_cases cz : z ≤ 0
        · go_wp2_with fail
          refine (leaseI (by omega) (by omega) (by omega) (by omega) _).mono ?_
          rintro e w3 ⟨rfl, b3⟩
          clear v0 v1 v2 v3 vf vl
          replace K := K.call b3
          clear b3 hcz hb
          obtain ⟨v0, v1, v2, v3, vf, vl⟩ := K.c.cells
          by_cases c2 : i < on
          · obtain ⟨b2, off2, ha2, hb2, hc2⟩ := (Bls.below HO.out K.b).resolve_left (by omega)
            have hco := hc2 i c2
            have hne : S ≠ b2 := fun h => by
              have := hb2w b2 off2 ha2
              have := K.l
              omega
            clear hc2
            subst ha2
            generalize ov i = g at hco
            cases g
            · by_cases c3 : (i : Int) % 2 = 1
              · replace K := K.put 2 ((i : Int) + 1) (N + 5) (N)
                go_wp2_with fail
                refine (expireE ((i : Int) + 1) (N + 5) (N) (T : Int) _).mono ?_
                rintro e w4 ⟨rfl, b4⟩
                clear v0 v1 v2 v3 vf vl
                replace K := K.call b4
                clear b4
                obtain ⟨v0, v1, v2, v3, vf, vl⟩ := K.c.cells
                go_wp2_with fail
                refine (expireL (t := (i : Int) + 1) (u := N + 5) (a := N) (T := (T : Int)) (n := N + 6) (by omega) _).mono ?_
                rintro e w5 ⟨rfl, b5⟩
                clear v0 v1 v2 v3 vf vl
                replace K := (K.al _).call b5
                clear b5
                obtain ⟨v0, v1, v2, v3, vf, vl⟩ := K.c.cells
                replace K := K.put (ph ((i : Int) + 1) (T : Int)) ((i : Int) + 1) 0 (N + 6)
                go_wp2
                go_roundw
                case rel => exact ⟨i + 1, N + 6, N + 6, by omega, by go_num, rfl, rfl, by omega, by omega, by rw [E1]; exact K⟩
                case measure => simp [intOf] <;> omega
              · replace K := K.put 2 ((i : Int) + 1) (N + 5) (N)
                go_wp2_with fail
                refine (finishF ((i : Int) + 1) (N + 5) (N) (T : Int) _).mono ?_
                rintro e w4 ⟨rfl, b4⟩
                clear v0 v1 v2 v3 vf vl
                replace K := K.call b4
                clear b4
                obtain ⟨v0, v1, v2, v3, vf, vl⟩ := K.c.cells
                replace K := K.put (ph ((i : Int) + 1) (T : Int)) ((i : Int) + 1) 0 (N + 5)
                go_wp2
                go_roundw
                case rel => exact ⟨i + 1, N, N + 5, by omega, by go_num, rfl, rfl, by omega, by omega, by rw [E1]; exact K⟩
                case measure => simp [intOf] <;> omega
            · replace K := K.put 2 ((i : Int) + 1) (N + 5) (N)
              go_wp2_with fail
              refine (finishT ((i : Int) + 1) (N + 5) (N) (T : Int) _).mono ?_
              rintro e w4 ⟨rfl, b4⟩
              clear v0 v1 v2 v3 vf vl
              replace K := K.call b4
              clear b4
              obtain ⟨v0, v1, v2, v3, vf, vl⟩ := K.c.cells
              replace K := K.put 4 ((i : Int) + 1) 0 (N + 5)
              go_wp2_with fail
              refine (leaseO4 (by omega) (by omega) (by omega) (by omega) _).mono ?_
              rintro e w5 ⟨rfl, b5⟩
              clear v0 v1 v2 v3 vf vl
              replace K := K.call b5
              clear b5
              obtain ⟨v0, v1, v2, v3, vf, vl⟩ := K.c.cells
              go_wp2_with fail
              refine (finishO _ _ _ _ _).mono ?_
              rintro e w6 ⟨rfl, b6⟩
              clear v0 v1 v2 v3 vf vl
              replace K := (K.al _).call b6
              clear b6
              obtain ⟨v0, v1, v2, v3, vf, vl⟩ := K.c.cells
              go_wp2_with fail
              refine (expireO _ _ _ _).mono ?_
              rintro e w7 ⟨rfl, b7⟩
              clear v0 v1 v2 v3 vf vl
              replace K := (K.al _).call b7
              clear b7
              obtain ⟨v0, v1, v2, v3, vf, vl⟩ := K.c.cells
              go_wp2_with fail
              refine (overO4 _ _ _).mono ?_
              rintro e w8 ⟨rfl, b8⟩
              clear v0 v1 v2 v3 vf vl
              replace K := (K.al _).call b8
              clear b8
              obtain ⟨v0, v1, v2, v3, vf, vl⟩ := K.c.cells
              go_wp2
              go_ret
              exact ⟨rfl, K.b⟩
          · by_cases c3 : (i : Int) % 2 = 1
            · replace K := K.put 2 ((i : Int) + 1) (N + 5) (N)
              go_wp2_with fail
              refine (expireE ((i : Int) + 1) (N + 5) (N) (T : Int) _).mono ?_
              rintro e w4 ⟨rfl, b4⟩
              clear v0 v1 v2 v3 vf vl
              replace K := K.call b4
              clear b4
              obtain ⟨v0, v1, v2, v3, vf, vl⟩ := K.c.cells
              go_wp2_with fail
              refine (expireL (t := (i : Int) + 1) (u := N + 5) (a := N) (T := (T : Int)) (n := N + 6) (by omega) _).mono ?_
              rintro e w5 ⟨rfl, b5⟩
              clear v0 v1 v2 v3 vf vl
              replace K := (K.al _).call b5
              clear b5
              obtain ⟨v0, v1, v2, v3, vf, vl⟩ := K.c.cells
              replace K := K.put (ph ((i : Int) + 1) (T : Int)) ((i : Int) + 1) 0 (N + 6)
              go_wp2
              go_roundw
              case rel => exact ⟨i + 1, N + 6, N + 6, by omega, by go_num, rfl, rfl, by omega, by omega, by rw [E1]; exact K⟩
              case measure => simp [intOf] <;> omega
            · replace K := K.put 2 ((i : Int) + 1) (N + 5) (N)
              go_wp2_with fail
              refine (finishF ((i : Int) + 1) (N + 5) (N) (T : Int) _).mono ?_
              rintro e w4 ⟨rfl, b4⟩
              clear v0 v1 v2 v3 vf vl
              replace K := K.call b4
              clear b4
              obtain ⟨v0, v1, v2, v3, vf, vl⟩ := K.c.cells
              replace K := K.put (ph ((i : Int) + 1) (T : Int)) ((i : Int) + 1) 0 (N + 5)
              go_wp2
              go_roundw
              case rel => exact ⟨i + 1, N, N + 5, by omega, by go_num, rfl, rfl, by omega, by omega, by rw [E1]; exact K⟩
              case measure => simp [intOf] <;> omega
        · go_wp2_with fail
          refine (leaseI (by omega) (by omega) (by omega) (by omega) _).mono ?_
          rintro e w3 ⟨rfl, b3⟩
          clear v0 v1 v2 v3 vf vl
          replace K := K.call b3
          clear b3 hcz hb
          obtain ⟨v0, v1, v2, v3, vf, vl⟩ := K.c.cells
          by_cases c2 : i < on
          · obtain ⟨b2, off2, ha2, hb2, hc2⟩ := (Bls.below HO.out K.b).resolve_left (by omega)
            have hco := hc2 i c2
            have hne : S ≠ b2 := fun h => by
              have := hb2w b2 off2 ha2
              have := K.l
              omega
            clear hc2
            subst ha2
            generalize ov i = g at hco
            cases g
            · by_cases c3 : (i : Int) % 2 = 1
              · replace K := K.put 2 ((i : Int) + 1) ((N + z % 1000) + 5) ((N + z % 1000))
                go_wp2_with fail
                refine (expireE ((i : Int) + 1) ((N + z % 1000) + 5) ((N + z % 1000)) (T : Int) _).mono ?_
                rintro e w4 ⟨rfl, b4⟩
                clear v0 v1 v2 v3 vf vl
                replace K := K.call b4
                clear b4
                obtain ⟨v0, v1, v2, v3, vf, vl⟩ := K.c.cells
                go_wp2_with fail
                refine (expireL (t := (i : Int) + 1) (u := (N + z % 1000) + 5) (a := (N + z % 1000)) (T := (T : Int)) (n := (N + z % 1000) + 6) (by omega) _).mono ?_
                rintro e w5 ⟨rfl, b5⟩
                clear v0 v1 v2 v3 vf vl
                replace K := (K.al _).call b5
                clear b5
                obtain ⟨v0, v1, v2, v3, vf, vl⟩ := K.c.cells
                replace K := K.put (ph ((i : Int) + 1) (T : Int)) ((i : Int) + 1) 0 ((N + z % 1000) + 6)
                go_wp2
                go_roundw
                case rel => exact ⟨i + 1, (N + z % 1000) + 6, (N + z % 1000) + 6, by omega, by go_num, rfl, rfl, by omega, by omega, by rw [E1]; exact K⟩
                case measure => simp [intOf] <;> omega
              · replace K := K.put 2 ((i : Int) + 1) ((N + z % 1000) + 5) ((N + z % 1000))
                go_wp2_with fail
                refine (finishF ((i : Int) + 1) ((N + z % 1000) + 5) ((N + z % 1000)) (T : Int) _).mono ?_
                rintro e w4 ⟨rfl, b4⟩
                clear v0 v1 v2 v3 vf vl
                replace K := K.call b4
                clear b4
                obtain ⟨v0, v1, v2, v3, vf, vl⟩ := K.c.cells
                replace K := K.put (ph ((i : Int) + 1) (T : Int)) ((i : Int) + 1) 0 ((N + z % 1000) + 5)
                go_wp2
                go_roundw
                case rel => exact ⟨i + 1, (N + z % 1000), (N + z % 1000) + 5, by omega, by go_num, rfl, rfl, by omega, by omega, by rw [E1]; exact K⟩
                case measure => simp [intOf] <;> omega
            · replace K := K.put 2 ((i : Int) + 1) ((N + z % 1000) + 5) ((N + z % 1000))
              go_wp2_with fail
              refine (finishT ((i : Int) + 1) ((N + z % 1000) + 5) ((N + z % 1000)) (T : Int) _).mono ?_
              rintro e w4 ⟨rfl, b4⟩
              clear v0 v1 v2 v3 vf vl
              replace K := K.call b4
              clear b4
              obtain ⟨v0, v1, v2, v3, vf, vl⟩ := K.c.cells
              replace K := K.put 4 ((i : Int) + 1) 0 ((N + z % 1000) + 5)
              go_wp2_with fail
              refine (leaseO4 (by omega) (by omega) (by omega) (by omega) _).mono ?_
              rintro e w5 ⟨rfl, b5⟩
              clear v0 v1 v2 v3 vf vl
              replace K := K.call b5
              clear b5
              obtain ⟨v0, v1, v2, v3, vf, vl⟩ := K.c.cells
              go_wp2_with fail
              refine (finishO _ _ _ _ _).mono ?_
              rintro e w6 ⟨rfl, b6⟩
              clear v0 v1 v2 v3 vf vl
              replace K := (K.al _).call b6
              clear b6
              obtain ⟨v0, v1, v2, v3, vf, vl⟩ := K.c.cells
              go_wp2_with fail
              refine (expireO _ _ _ _).mono ?_
              rintro e w7 ⟨rfl, b7⟩
              clear v0 v1 v2 v3 vf vl
              replace K := (K.al _).call b7
              clear b7
              obtain ⟨v0, v1, v2, v3, vf, vl⟩ := K.c.cells
              go_wp2_with fail
              refine (overO4 _ _ _).mono ?_
              rintro e w8 ⟨rfl, b8⟩
              clear v0 v1 v2 v3 vf vl
              replace K := (K.al _).call b8
              clear b8
              obtain ⟨v0, v1, v2, v3, vf, vl⟩ := K.c.cells
              go_wp2
              go_ret
              exact ⟨rfl, K.b⟩
          · by_cases c3 : (i : Int) % 2 = 1
            · replace K := K.put 2 ((i : Int) + 1) ((N + z % 1000) + 5) ((N + z % 1000))
              go_wp2_with fail
              refine (expireE ((i : Int) + 1) ((N + z % 1000) + 5) ((N + z % 1000)) (T : Int) _).mono ?_
              rintro e w4 ⟨rfl, b4⟩
              clear v0 v1 v2 v3 vf vl
              replace K := K.call b4
              clear b4
              obtain ⟨v0, v1, v2, v3, vf, vl⟩ := K.c.cells
              go_wp2_with fail
              refine (expireL (t := (i : Int) + 1) (u := (N + z % 1000) + 5) (a := (N + z % 1000)) (T := (T : Int)) (n := (N + z % 1000) + 6) (by omega) _).mono ?_
              rintro e w5 ⟨rfl, b5⟩
              clear v0 v1 v2 v3 vf vl
              replace K := (K.al _).call b5
              clear b5
              obtain ⟨v0, v1, v2, v3, vf, vl⟩ := K.c.cells
              replace K := K.put (ph ((i : Int) + 1) (T : Int)) ((i : Int) + 1) 0 ((N + z % 1000) + 6)
              go_wp2
              go_roundw
              case rel => exact ⟨i + 1, (N + z % 1000) + 6, (N + z % 1000) + 6, by omega, by go_num, rfl, rfl, by omega, by omega, by rw [E1]; exact K⟩
              case measure => simp [intOf] <;> omega
            · replace K := K.put 2 ((i : Int) + 1) ((N + z % 1000) + 5) ((N + z % 1000))
              go_wp2_with fail
              refine (finishF ((i : Int) + 1) ((N + z % 1000) + 5) ((N + z % 1000)) (T : Int) _).mono ?_
              rintro e w4 ⟨rfl, b4⟩
              clear v0 v1 v2 v3 vf vl
              replace K := K.call b4
              clear b4
              obtain ⟨v0, v1, v2, v3, vf, vl⟩ := K.c.cells
              replace K := K.put (ph ((i : Int) + 1) (T : Int)) ((i : Int) + 1) 0 ((N + z % 1000) + 5)
              go_wp2
              go_roundw
              case rel => exact ⟨i + 1, (N + z % 1000), (N + z % 1000) + 5, by omega, by go_num, rfl, rfl, by omega, by omega, by rw [E1]; exact K⟩
              case measure => simp [intOf] <;> omega
      · go_wp2_with fail
        refine (leaseI (by omega) (by omega) (by omega) (by omega) _).mono ?_
        rintro e w3 ⟨rfl, b3⟩
        clear v0 v1 v2 v3 vf vl
        replace K := K.call b3
        clear b3
        obtain ⟨v0, v1, v2, v3, vf, vl⟩ := K.c.cells
        by_cases c2 : i < on
        · obtain ⟨b2, off2, ha2, hb2, hc2⟩ := (Bls.below HO.out K.b).resolve_left (by omega)
          have hco := hc2 i c2
          have hne : S ≠ b2 := fun h => by
            have := hb2w b2 off2 ha2
            have := K.l
            omega
          clear hc2
          subst ha2
          generalize ov i = g at hco
          cases g
          · by_cases c3 : (i : Int) % 2 = 1
            · replace K := K.put 2 ((i : Int) + 1) (N + 5) (N)
              go_wp2_with fail
              refine (expireE ((i : Int) + 1) (N + 5) (N) (T : Int) _).mono ?_
              rintro e w4 ⟨rfl, b4⟩
              clear v0 v1 v2 v3 vf vl
              replace K := K.call b4
              clear b4
              obtain ⟨v0, v1, v2, v3, vf, vl⟩ := K.c.cells
              go_wp2_with fail
              refine (expireL (t := (i : Int) + 1) (u := N + 5) (a := N) (T := (T : Int)) (n := N + 6) (by omega) _).mono ?_
              rintro e w5 ⟨rfl, b5⟩
              clear v0 v1 v2 v3 vf vl
              replace K := (K.al _).call b5
              clear b5
              obtain ⟨v0, v1, v2, v3, vf, vl⟩ := K.c.cells
              replace K := K.put (ph ((i : Int) + 1) (T : Int)) ((i : Int) + 1) 0 (N + 6)
              go_wp2
              go_roundw
              case rel => exact ⟨i + 1, N + 6, N + 6, by omega, by go_num, rfl, rfl, by omega, by omega, by rw [E1]; exact K⟩
              case measure => simp [intOf] <;> omega
            · replace K := K.put 2 ((i : Int) + 1) (N + 5) (N)
              go_wp2_with fail
              refine (finishF ((i : Int) + 1) (N + 5) (N) (T : Int) _).mono ?_
              rintro e w4 ⟨rfl, b4⟩
              clear v0 v1 v2 v3 vf vl
              replace K := K.call b4
              clear b4
              obtain ⟨v0, v1, v2, v3, vf, vl⟩ := K.c.cells
              replace K := K.put (ph ((i : Int) + 1) (T : Int)) ((i : Int) + 1) 0 (N + 5)
              go_wp2
              go_roundw
              case rel => exact ⟨i + 1, N, N + 5, by omega, by go_num, rfl, rfl, by omega, by omega, by rw [E1]; exact K⟩
              case measure => simp [intOf] <;> omega
          · replace K := K.put 2 ((i : Int) + 1) (N + 5) (N)
            go_wp2_with fail
            refine (finishT ((i : Int) + 1) (N + 5) (N) (T : Int) _).mono ?_
            rintro e w4 ⟨rfl, b4⟩
            clear v0 v1 v2 v3 vf vl
            replace K := K.call b4
            clear b4
            obtain ⟨v0, v1, v2, v3, vf, vl⟩ := K.c.cells
            replace K := K.put 4 ((i : Int) + 1) 0 (N + 5)
            go_wp2_with fail
            refine (leaseO4 (by omega) (by omega) (by omega) (by omega) _).mono ?_
            rintro e w5 ⟨rfl, b5⟩
            clear v0 v1 v2 v3 vf vl
            replace K := K.call b5
            clear b5
            obtain ⟨v0, v1, v2, v3, vf, vl⟩ := K.c.cells
            go_wp2_with fail
            refine (finishO _ _ _ _ _).mono ?_
            rintro e w6 ⟨rfl, b6⟩
            clear v0 v1 v2 v3 vf vl
            replace K := (K.al _).call b6
            clear b6
            obtain ⟨v0, v1, v2, v3, vf, vl⟩ := K.c.cells
            go_wp2_with fail
            refine (expireO _ _ _ _).mono ?_
            rintro e w7 ⟨rfl, b7⟩
            clear v0 v1 v2 v3 vf vl
            replace K := (K.al _).call b7
            clear b7
            obtain ⟨v0, v1, v2, v3, vf, vl⟩ := K.c.cells
            go_wp2_with fail
            refine (overO4 _ _ _).mono ?_
            rintro e w8 ⟨rfl, b8⟩
            clear v0 v1 v2 v3 vf vl
            replace K := (K.al _).call b8
            clear b8
            obtain ⟨v0, v1, v2, v3, vf, vl⟩ := K.c.cells
            go_wp2
            go_ret
            exact ⟨rfl, K.b⟩
        · by_cases c3 : (i : Int) % 2 = 1
          · replace K := K.put 2 ((i : Int) + 1) (N + 5) (N)
            go_wp2_with fail
            refine (expireE ((i : Int) + 1) (N + 5) (N) (T : Int) _).mono ?_
            rintro e w4 ⟨rfl, b4⟩
            clear v0 v1 v2 v3 vf vl
            replace K := K.call b4
            clear b4
            obtain ⟨v0, v1, v2, v3, vf, vl⟩ := K.c.cells
            go_wp2_with fail
            refine (expireL (t := (i : Int) + 1) (u := N + 5) (a := N) (T := (T : Int)) (n := N + 6) (by omega) _).mono ?_
            rintro e w5 ⟨rfl, b5⟩
            clear v0 v1 v2 v3 vf vl
            replace K := (K.al _).call b5
            clear b5
            obtain ⟨v0, v1, v2, v3, vf, vl⟩ := K.c.cells
            replace K := K.put (ph ((i : Int) + 1) (T : Int)) ((i : Int) + 1) 0 (N + 6)
            go_wp2
            go_roundw
            case rel => exact ⟨i + 1, N + 6, N + 6, by omega, by go_num, rfl, rfl, by omega, by omega, by rw [E1]; exact K⟩
            case measure => simp [intOf] <;> omega
          · replace K := K.put 2 ((i : Int) + 1) (N + 5) (N)
            go_wp2_with fail
            refine (finishF ((i : Int) + 1) (N + 5) (N) (T : Int) _).mono ?_
            rintro e w4 ⟨rfl, b4⟩
            clear v0 v1 v2 v3 vf vl
            replace K := K.call b4
            clear b4
            obtain ⟨v0, v1, v2, v3, vf, vl⟩ := K.c.cells
            replace K := K.put (ph ((i : Int) + 1) (T : Int)) ((i : Int) + 1) 0 (N + 5)
            go_wp2
            go_roundw
            case rel => exact ⟨i + 1, N, N + 5, by omega, by go_num, rfl, rfl, by omega, by omega, by rw [E1]; exact K⟩
            case measure => simp [intOf] <;> omega
    · obtain rfl : i = T := by omega
      rw [ph_ge (by omega)] at K
      clear hlt hi
      obtain ⟨v0, v1, v2, v3, vf, vl⟩ := K.c.cells
      go_wp2_with fail
      refine (leaseO5 (by omega) (by omega) (by omega) (by omega) _).mono ?_
      rintro e w3 ⟨rfl, b3⟩
      clear v0 v1 v2 v3 vf vl
      replace K := K.call b3
      clear b3
      obtain ⟨v0, v1, v2, v3, vf, vl⟩ := K.c.cells
      go_wp2_with fail
      refine (overO5 _ _ _).mono ?_
      rintro e w4 ⟨rfl, b4⟩
      clear v0 v1 v2 v3 vf vl
      replace K := (K.al _).call b4
      go_wp2
      go_ret
      exact ⟨rfl, K.b⟩
end Go.Proofs.Ytjpglfnmapncmaa.Wnd
