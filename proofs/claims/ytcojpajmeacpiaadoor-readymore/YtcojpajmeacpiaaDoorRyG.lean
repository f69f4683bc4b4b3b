/-
  The contracts of Order and of the document's Order: both give 'od'. Conditions: the masks lie in memory, and the table of the library.
-/
import Derived.Test.YtcojpajmeacpiaaDoorRyF
import Derived.Test.YtcojpajmeacpiaaDoorRyC
namespace Go.Proofs.YtcojpajmeacpiaaDoor.Wry
open Go.ChangeShapes Go.WideShapes Go.ChangeAt Go.RowKit Go.Shelf Go.Proofs.YtcojpajmeacpiaaDoor.M

theorem grown_set (W : World) (b i : Nat) (v : Value) : W.grownBy (W.setCell ⟨b, i, none⟩ v) (some b) :=
  ⟨rfl, rfl, rfl, (KeepsWalks.setCell W _ v).size, fun k _ hk => Below.heap_setCell _ _ _ k (fun e => hk (by rw [e]))⟩
theorem own_set {w : World} {base e size n b i : Nat} {v u : Value} {xs : List Value} (h : w.ownsRow base e size v n xs) (hb : b < base) : (w.setCell ⟨b, i, none⟩ u).ownsRow base e size v n xs :=
  h.kept (grown_set w b i u) (.inr fun e' => by have := (h.lt _ e').1; omega)
theorem nI_snoc (o : List Nat) (i : Nat) : nI (o ++ [i]) = nI o ++ [.int .i64 (i : Int)] := by simp [nI]
theorem nI_len (o : List Nat) : (nI o).length = o.length := by simp [nI]

set_option maxRecDepth 100000 in
set_option maxHeartbeats 8000000 in
theorem orderR {w : World} {a : Option Addr} {M : List Nat} {cap : Nat} (h : Ms w a M) (hM : MOk M) :
    Calls Tryd.prog 12 #[.slice a M.length cap] w fun e w' => ∃ v, e = .returned v ∧ w'.ownsRow w.heap.size 3 1 v (od M).length (nI (od M)) ∧ Below w.heap.size w w' := by
  obtain ⟨i0, hi, hz0, hz1, hz2⟩ := info_parts infoI
  have hn := nn_le M
  have hmk := hid (madeB (nn M) (by omega))
  have R1 := hid (World.rowIs_made w (.bool false) (nn M) 4)
  have hwt := hid (fun (W : World) (b : Below w.heap.size w W) (i : Nat) (p : Nat → Bool) (hi : i < nn M) (hr : W.rowIs w.heap.size 4 (nn M) (fun j => .bool (p j))) => waitsR (cap := cap) (h.below b) hM hi hn hr)
  have hcnt := hid (countR M a cap w)
  have hst := hid (or_start M)
  have hnone := hid (fun k o P (q : OrI M k (nn M) o P) => or_none q)
  have hput := hid (fun k i o P (q : OrI M k i o P) (hi : i < nn M) (hr : isR M P.testBit i = true) => or_put q hi hr)
  have hend := hid (fun o P (q : OrO M (nn M) o P) => or_end q)
  have hisR := hid (fun (P i : Nat) (hi : i < nn M) => (show isR M P.testBit i = (!P.testBit i && !wai M P.testBit i (nn M)) by unfold isR; rw [decide_eq_true hi]; rfl))
  have hI : Hid (∀ k i o P, OrO M k o P → k < nn M → (∀ j, j < i → isR M P.testBit j = false) → OrI M k i o P) := hid fun k i o P h1 h2 h3 => ⟨h1, h2, h3⟩
  have hI1 : Hid (∀ k i o P, OrI M k i o P → isR M P.testBit i = false → OrI M k (i + 1) o P) := hid fun k i o P h1 h2 => ⟨h1.1, h1.2.1, fun j hj => by
    by_cases e : j = i
    · rw [e]; exact h2
    · exact h1.2.2 j (by omega)⟩
  have hlen : Hid (∀ k i o P, OrI M k i o P → o.length ≤ k) := hid fun k i o P h1 => h1.1.2.1
  generalize nn M = n at *
  clear h
  go_enter Tryd.func12, Tryd.ntmps12
  go_wp2_with fail
  refine hcnt.out.mono ?_
  rintro e w1 ⟨rfl, rfl⟩
  have hmk' := hmk.out
  go_wp2_with fail
  clear hmk' hmk
  go_loopw [5, 6] (fun v iv wr => ∃ (k : Nat) (o : List Nat) (P : Nat), k ≤ n ∧ iv = .int .i64 (k : Int) ∧ Hid (OrO M k o P) ∧ wr.ownsRow (w.heap.size + 1) 3 1 v o.length (nI o) ∧ Hid (wr.rowIs w.heap.size 4 n (fun j => .bool (P.testBit j))) ∧ Below w.heap.size w wr) (fun _ iv _ => n - (intOf iv).toNat)
  case atStart => exact ⟨0, [], 0, Nat.zero_le _, rfl, hst, World.ownsRow_nil _ _ _ _, hid (R1.out.congr fun j _ => by simp), al w _⟩
  case round =>
    clear R1 hst hcnt
    obtain ⟨k, o, P, hk, rfl, hO, own, HR, hb⟩ := hrel
    by_cases c : k < n
    · have hO' := hid (hI.out k 0 o P hO.out c (fun j hj => absurd hj (Nat.not_lt_zero j)))
      clear hO
      go_wp2_with fail
      obtain ⟨wo, hwo⟩ : ∃ wo, wo = wr := ⟨_, rfl⟩
      rw [← hwo] at own HR hb ⊢
      clear hwo
      go_loopw [5, 7] (fun v iv wr => ∃ (i : Nat), i ≤ n ∧ iv = .int .i64 (i : Int) ∧ Hid (OrI M k i o P) ∧ v = u5 ∧ wr = wo) (fun _ iv _ => n - (intOf iv).toNat)
      case atStart => exact ⟨0, Nat.zero_le _, rfl, hO', rfl, rfl⟩
      case round =>
        clear hO'
        obtain ⟨i, hin, rfl, hOI, rfl, rfl⟩ := hrel
        by_cases ci : i < n
        · have C := hid (hwt.out _ hb i P.testBit ci HR.out)
          have x0 := HR.out.cell ci
          have x1 := HR.out.frozen i
          have h2 := hid (hisR.out P i ci)
          go_wp2_with fail
          refine C.out.mono ?_
          rintro e w1 ⟨rfl, rfl⟩
          clear C
          rcases e1 : P.testBit i with _ | _
          · rw [e1] at x0 h2
            rcases e2 : wai M P.testBit i n with _ | _
            · rw [e2] at h2
              have hput' := hid (hput.out k i o P hOI.out ci h2.out)
              have hl := hlen.out k i o P hOI.out
              have HR2 : Hid ((wr.setCell ⟨w.heap.size, i, none⟩ (.bool true)).rowIs w.heap.size 4 n (fun j => .bool ((P ||| 2 ^ i).testBit j))) := hid (set_row HR.out fun j => by
                rw [Nat.testBit_or, Nat.testBit_two_pow]
                by_cases e : j = i
                · subst e; simp
                · rw [if_neg e, decide_eq_false (fun q => e q.symm), Bool.or_false])
              have own2 : (wr.setCell ⟨w.heap.size, i, none⟩ (.bool true)).ownsRow (w.heap.size + 1) 3 1 u5 o.length (nI o) := own_set own (by omega)
              have hb2 := hb.setCell (p := ⟨w.heap.size, i, none⟩) (Nat.le_refl _) (.bool true)
              have hsz := hb.size
              clear e1 e2 h2 hOI own HR
              have hnl := nI_snoc o i
              go_wp2_with (at_builtin; refine wpList_append_own _ rfl _ _ 25 rfl (w.heap.size + 1) 3 i0 (.int .i64 0) 1 8 Tryd.underlying25 hi hz0 hz1 hz2 rfl (by decide) _ _ _ rfl (own2.alloc _) ⟨wr.heap.size, 0, none⟩ 1 1 [.int .i64 (i : Int)] rfl rfl ?c1 ?c2 ?c3 ?c4 ?c5 ?_)
              case c1 =>
                have := cell_one_new (wr.setCell ⟨w.heap.size, i, none⟩ (.bool true)) (.int .i64 (i : Int)) 3
                simpa using this
              case c2 => simp [Value.oneCell']
              case c3 => unfold maxLen; omega
              case c4 => omega
              case c5 => simp; omega
              intro v' w2 own3 hgrow _
              have hlt := own2.lt
              have HR3 : Hid (w2.rowIs w.heap.size 4 n (fun j => .bool ((P ||| 2 ^ i).testBit j))) := hid ((HR2.out.alloc _).of_block (hgrow.block _ (by have := HR2.out.lt; simp at this ⊢; omega) (fun e' => by have := (hlt _ e'.symm).1; omega)))
              have B2 : Below w.heap.size w w2 := (hb2.alloc (by simpa using hsz) _).grown hgrow (by simp; omega) fun k hk => by have := (hlt k hk).1; omega
              rw [← hnl] at own3
              clear own2 hgrow hlt HR2 hb2
              go_wp2_with fail
              go_roundw
              case rel => exact ⟨k + 1, o ++ [i], P ||| 2 ^ i, c, by go_num, hput', by simpa using own3, HR3, B2⟩
              case measure => simp [intOf]; omega
            · rw [e2] at h2
              have hI' := hid (hI1.out k i o P hOI.out h2.out)
              clear e1 e2 h2 hOI
              go_wp2_with fail
              go_roundw
              case rel => exact ⟨i + 1, ci, by go_num, hI', by trivial⟩
              case measure => simp [intOf]; omega
          · rw [e1] at x0 h2
            have hI' := hid (hI1.out k i o P hOI.out h2.out)
            clear e1 h2 hOI
            go_wp2_with fail
            go_roundw
            case rel => exact ⟨i + 1, ci, by go_num, hI', by trivial⟩
            case measure => simp [intOf]; omega
        · have hO2 := hid (hnone.out k o P (by have := hOI.out; rw [show i = n by omega] at this; exact this))
          clear hOI
          go_wp2_with fail
          go_roundw
          case rel => exact ⟨k + 1, o, P, c, by go_num, hO2, own, HR, hb⟩
          case measure => simp [intOf]; omega
    · have he := hid (hend.out o P (by have := hO.out; rw [show k = n by omega] at this; exact this))
      clear hO
      go_wp2_with fail
      go_ret
      exact ⟨_, rfl, by rw [← he.out]; exact own_low own (by omega), hb⟩

end Go.Proofs.YtcojpajmeacpiaaDoor.Wry
