/-
  The contracts of the document's Check and Masks. Conditions: the nodes lie in memory, their numbers fit a machine.
-/
import Derived.Test.YtdhghjfenkjeaaaGpR
namespace Go.Proofs.Ytdhghjfenkjeaaa.Wgp
open Go.ChangeShapes Go.WideShapes Go.ChangeAt Go.RowKit Go.Proofs.Ytdhghjfenkjeaaa.M Go.Proofs.Ytdhghjfenkjeaaa.Wg

set_option maxRecDepth 100000 in
set_option maxHeartbeats 6400000 in
theorem checkRef {w : World} {a : Option Addr} {L : List Nd} {cap : Nat} (nm : ByteArray) (hn : nm.size ≤ 140737488355328) (h : Ns w a L) (hl : L.length ≤ 4194304) (hok : ∀ x ∈ L, NdOk x) :
    Calls Try.prog 10 #[.agg #[.string nm, .slice a L.length cap]] w fun e w' => e = ckE nm L ∧ Below w.heap.size w w' := by
  have C := hid fun W => namedRef nm W (by omega)
  have C1 := hid fun (W : World) (b : Below w.heap.size w W) (i : Nat) (hi : i < L.length) => oneRef (cap := cap) nm (h.below b) hl hi hok
  have C2 := hid fun (W : World) (b : Below w.heap.size w W) (i : Nat) (hi : i < L.length) => depsRef (cap := cap) nm (h.below b) hl hi hok
  have C3 := hid fun (W : World) (b : Below w.heap.size w W) (hl : L.length ≤ 20) (i : Nat) (hi : i < L.length) => behindRef (cap := cap) nm (h.below b) hl hi hi hok
  have B0 := hid (al w (.cells #[.string nm, .slice a L.length cap] 30))
  have F0 := hid (box2 w 30 nm a L.length cap)
  clear h hok
  go_enter Try.func10, Try.ntmps10
  go_wp2_with fail
  refine (C.out _).mono ?_
  rintro e w1 ⟨rfl, b1⟩
  have z1 : w.heap.size < w1.heap.size := by have := b1.size; simp at this; omega
  have A1 := hid (B0.out.trans (b1.mono (by simp)))
  have F1 := hid (F0.out.below (by simp) b1)
  obtain ⟨f0, f1⟩ := F1.out
  clear C b1 F0 B0
  rcases e1 : nmd nm with _ | _
  · have R := hid (ckE_of (chk_name (L := L) e1))
    clear e1 C1 C2 C3
    go_wp2_with fail
    go_ret2
    exact ⟨R.out, A1.out⟩
  by_cases l1 : L.length < 1
  · have R := hid (ckE_of (chk_len (L := L) e1 (.inl l1)))
    clear e1 C1 C2 C3
    go_wp2_with fail
    go_ret2
    exact ⟨R.out, A1.out⟩
  by_cases l2 : 12 < L.length
  · have R := hid (ckE_of (chk_len (L := L) e1 (.inr l2)))
    clear e1 C1 C2 C3
    go_wp2_with fail
    go_ret2
    exact ⟨R.out, A1.out⟩
  have E1 := hid e1
  clear e1
  go_wp2_with fail
  clear f0 f1
  go_loopw [6] (fun iv wr => ∃ m : Nat, m ≤ L.length ∧ iv = .int .i64 (m : Int) ∧ Hid (∀ j, j < m → oneI L j = 0) ∧ Below w.heap.size w wr ∧ w.heap.size < wr.heap.size ∧ Hid (F2 wr w.heap.size nm (.slice a L.length cap))) (fun iv _ => L.length - (intOf iv).toNat)
  case atStart => exact ⟨0, Nat.zero_le _, rfl, fun j hj => absurd hj (Nat.not_lt_zero j), A1.out, z1, F1⟩
  case round =>
    clear A1 F1 z1
    obtain ⟨m, hm, rfl, hno, hb, hz, HF⟩ := hrel
    obtain ⟨f0, f1⟩ := HF.out
    by_cases c : m < L.length
    · have CC := hid (C1.out _ hb m c)
      clear C1 C2 C3
      go_wp2_with fail
      refine CC.out.mono ?_
      rintro e w2 ⟨rfl, b2⟩
      have b3 := hid (hb.trans (b2.mono hb.size))
      have z3 : w.heap.size < w2.heap.size := Nat.lt_of_lt_of_le hz b2.size
      have F3 := hid (HF.out.below hz b2)
      clear CC b2 f0 f1 hb hz HF
      by_cases e : oneI L m = 0
      · have hno' : Hid (∀ j, j < m + 1 → oneI L j = 0) := fun j hj => by
          by_cases q : j = m
          · subst q; exact e
          · exact hno.out j (by omega)
        rw [e]
        clear e hno
        go_wp2_with fail
        go_roundw
        case rel => exact ⟨m + 1, c, by go_num, hno', b3.out, z3, F3⟩
        case measure => simp [intOf]; omega
      · have R := hid (ckE_of (chk_one E1.out (by omega) (by omega) c e hno.out))
        have e0 : (oneI L m != 0) = true := by simpa using e
        have e2 : (oneI L m == 0) = false := by simpa using e
        clear e hno
        go_wp2_with fail
        go_ret2
        exact ⟨R.out, b3.out⟩
    · have HN : Hid (∀ j, j < L.length → oneI L j = 0) := fun j hj => hno.out j (by omega)
      clear hno C1
      go_wp2_with fail
      clear f0 f1
      go_loopw [8] (fun iv wr => ∃ m : Nat, m ≤ L.length ∧ iv = .int .i64 (m : Int) ∧ Hid (∀ j, j < m → dOkI L j = true) ∧ Below w.heap.size w wr ∧ w.heap.size < wr.heap.size ∧ Hid (F2 wr w.heap.size nm (.slice a L.length cap))) (fun iv _ => L.length - (intOf iv).toNat)
      case atStart => exact ⟨0, Nat.zero_le _, rfl, fun j hj => absurd hj (Nat.not_lt_zero j), hb, hz, HF⟩
      case round =>
        clear hb hz HF
        obtain ⟨m, hm, rfl, hno, hb, hz, HF⟩ := hrel
        obtain ⟨f0, f1⟩ := HF.out
        by_cases c : m < L.length
        · have CC := hid (C2.out _ hb m c)
          clear C2 C3
          go_wp2_with fail
          refine CC.out.mono ?_
          rintro e w2 ⟨rfl, b2⟩
          have b3 := hid (hb.trans (b2.mono hb.size))
          have z3 : w.heap.size < w2.heap.size := Nat.lt_of_lt_of_le hz b2.size
          have F3 := hid (HF.out.below hz b2)
          clear CC b2 f0 f1 hb hz HF
          rcases e : dOkI L m with _ | _
          · have R := hid (ckE_of (chk_dep E1.out (by omega) (by omega) HN.out c e hno.out))
            clear e hno
            go_wp2_with fail
            go_ret2
            exact ⟨R.out, b3.out⟩
          · have hno' : Hid (∀ j, j < m + 1 → dOkI L j = true) := fun j hj => by
              by_cases q : j = m
              · subst q; exact e
              · exact hno.out j (by omega)
            clear e hno
            go_wp2_with fail
            go_roundw
            case rel => exact ⟨m + 1, c, by go_num, hno', b3.out, z3, F3⟩
            case measure => simp [intOf]; omega
        · have HD : Hid (∀ j, j < L.length → dOkI L j = true) := fun j hj => hno.out j (by omega)
          clear hno C2
          go_wp2_with fail
          clear f0 f1
          go_loopw [10] (fun iv wr => ∃ m : Nat, m ≤ L.length ∧ iv = .int .i64 (m : Int) ∧ Hid (∀ j, j < m → war (wts L) L.length j j = false) ∧ Below w.heap.size w wr ∧ w.heap.size < wr.heap.size ∧ Hid (F2 wr w.heap.size nm (.slice a L.length cap))) (fun iv _ => L.length - (intOf iv).toNat)
          case atStart => exact ⟨0, Nat.zero_le _, rfl, fun j hj => absurd hj (Nat.not_lt_zero j), hb, hz, HF⟩
          case round =>
            clear hb hz HF
            obtain ⟨m, hm, rfl, hno, hb, hz, HF⟩ := hrel
            obtain ⟨f0, f1⟩ := HF.out
            by_cases c : m < L.length
            · have CC := hid (C3.out _ hb (by omega) m c)
              clear C3
              go_wp2_with fail
              refine CC.out.mono ?_
              rintro e w2 ⟨rfl, b2⟩
              have b3 := hid (hb.trans (b2.mono hb.size))
              have z3 : w.heap.size < w2.heap.size := Nat.lt_of_lt_of_le hz b2.size
              have F3 := hid (HF.out.below hz b2)
              clear CC b2 f0 f1 hb hz HF
              rcases e : war (wts L) L.length m m with _ | _
              · have hno' : Hid (∀ j, j < m + 1 → war (wts L) L.length j j = false) := fun j hj => by
                  by_cases q : j = m
                  · subst q; exact e
                  · exact hno.out j (by omega)
                clear e hno
                go_wp2_with fail
                go_roundw
                case rel => exact ⟨m + 1, c, by go_num, hno', b3.out, z3, F3⟩
                case measure => simp [intOf]; omega
              · have R := hid (ckE_of (chk_cyc E1.out (by omega) (by omega) HN.out HD.out c e hno.out))
                clear e hno
                go_wp2_with fail
                go_ret2
                exact ⟨R.out, b3.out⟩
            · have R := hid (ckE_of (chk_ok E1.out (by omega) (by omega) HN.out HD.out (fun j hj => hno.out j (by omega))))
              clear hno
              go_wp2_with fail
              go_ret2
              exact ⟨R.out, hb⟩

theorem bsm_next (p : Nat → Bool) (n : Nat) : bsm p (n + 1) = if p n then bsm p n + 2 ^ n else bsm p n := by
  simp only [bsm]
  split <;> simp_all
/-- The masks as the document has them. -/
def mkl (L : List Nd) (n : Nat) : List Value := (List.range n).map fun i => .int .u32 ((bsm (wts L i) L.length : Nat) : Int)
theorem mkl_len (L : List Nd) (n : Nat) : (mkl L n).length = n := by simp [mkl]
theorem mkl_succ (L : List Nd) (n : Nat) : mkl L (n + 1) = mkl L n ++ [.int .u32 ((bsm (wts L n) L.length : Nat) : Int)] := by simp [mkl, List.range_succ]
theorem mkl_at (L : List Nd) {n i : Nat} (h : i < n) : (mkl L n)[i]? = some (.int .u32 ((bsm (wts L i) L.length : Nat) : Int)) := by simp [mkl, h]

theorem own_base {w : World} {b b' e size n : Nat} {v : Value} {xs : List Value} (h : w.ownsRow b e size v n xs) (hb : b' ≤ b) : w.ownsRow b' e size v n xs := by
  refine ⟨h.1, ?_⟩
  rcases h.2 with hn | ⟨g, cap, cur, rfl, hb', rest⟩
  · exact .inl hn
  · exact .inr ⟨g, cap, cur, rfl, Nat.le_trans hb hb', rest⟩
theorem own_below {w w' : World} {base e size n : Nat} {v : Value} {xs : List Value} (h : w.ownsRow base e size v n xs) (b : Below w.heap.size w w') : w'.ownsRow base e size v n xs :=
  h.kept (row := none) ⟨b.os, b.tape, b.output, b.size, fun k hk _ => b.block k hk⟩ (by cases v.ownBlock <;> simp)

set_option maxRecDepth 100000 in
set_option maxHeartbeats 6400000 in
theorem masksRef {w : World} {a : Option Addr} {L : List Nd} {cap : Nat} (nm : ByteArray) (h : Ns w a L) (hl : L.length ≤ 20) (hok : ∀ x ∈ L, NdOk x) :
    Calls Try.prog 13 #[.agg #[.string nm, .slice a L.length cap]] w fun e w' => ∃ v, e = .returned v ∧ w'.ownsRow w.heap.size 43 1 v L.length (mkl L L.length) ∧ Below w.heap.size w w' := by
  have CW := hid fun (W : World) (b : Below w.heap.size w W) (x y : Nat) (hx : x < L.length) (hy : y < L.length) => waitsRef (cap := cap) nm (h.below b) hx hy hok
  have B0 := hid (al w (.cells #[.string nm, .slice a L.length cap] 30))
  have F0 := hid (box2 w 30 nm a L.length cap)
  obtain ⟨i0, hi, hz0, hz1, hz2⟩ := info_parts info32
  clear h hok
  go_enter Try.func13, Try.ntmps13
  go_wp2_with fail
  go_loopw [3, 4] (fun v iv wr => ∃ m : Nat, m ≤ L.length ∧ iv = .int .i64 (m : Int) ∧ wr.ownsRow (w.heap.size + 1) 43 1 v m (mkl L m) ∧ Below w.heap.size w wr ∧ w.heap.size < wr.heap.size ∧ Hid (F2 wr w.heap.size nm (.slice a L.length cap))) (fun _ iv _ => L.length - (intOf iv).toNat)
  case atStart => exact ⟨0, Nat.zero_le _, rfl, World.ownsRow_nil _ _ _ _, B0.out, by simp, F0⟩
  case round =>
    obtain ⟨m, hm, rfl, own, hb, hz, HF⟩ := hrel
    obtain ⟨f0, f1⟩ := HF.out
    by_cases c : m < L.length
    · go_wp2_with fail
      clear f0 f1
      go_loopw [5, 6, 7] (fun mv pv kv wr => ∃ k : Nat, k ≤ L.length ∧ kv = .int .i64 (k : Int) ∧ mv = .int .u32 ((bsm (wts L m) k : Nat) : Int) ∧ pv = .int .u32 ((2 ^ k : Nat) : Int) ∧ wr.ownsRow (w.heap.size + 1) 43 1 u3 m (mkl L m) ∧ Below w.heap.size w wr ∧ w.heap.size < wr.heap.size ∧ Hid (F2 wr w.heap.size nm (.slice a L.length cap))) (fun _ _ kv _ => L.length - (intOf kv).toNat)
      case atStart => exact ⟨0, Nat.zero_le _, rfl, rfl, rfl, own, hb, hz, HF⟩
      case round =>
        clear own hb hz HF
        obtain ⟨k, hk, rfl, rfl, rfl, own, hb, hz, HF⟩ := hrel
        obtain ⟨f0, f1⟩ := HF.out
        have hB := bsm_lt (wts L m) k
        by_cases ck : k < L.length
        · have CC := hid (CW.out _ hb m k c ck)
          have hp1 : 2 ^ k ≤ 2 ^ 20 := Nat.pow_le_pow_right (by decide) (by omega)
          have hnx := hid (bsm_next (wts L m) k)
          have hpw : Hid (2 * 2 ^ k = 2 ^ (k + 1)) := hid (by rw [Nat.pow_succ]; omega)
          clear CW
          go_wp2_with fail
          refine CC.out.mono ?_
          rintro e w2 ⟨rfl, b2⟩
          have own2 := hid (show w2.ownsRow (w.heap.size + 1) 43 1 u3 m (mkl L m) from own_below own b2)
          have b3 := hid (hb.trans (b2.mono hb.size))
          have z3 : w.heap.size < w2.heap.size := Nat.lt_of_lt_of_le hz b2.size
          have F3 := hid (HF.out.below hz b2)
          clear CC b2 f0 f1 hb hz HF own
          rcases e : wts L m k with _ | _
          · have hn : Hid (bsm (wts L m) (k + 1) = bsm (wts L m) k) := hid (by rw [hnx.out, e]; rfl)
            generalize bsm (wts L m) k = X at hB hn
            generalize 2 ^ k = Y at hB hp1 hpw
            clear e hnx
            go_wp2_with fail
            go_roundw
            case rel => exact ⟨k + 1, ck, by go_num, by rw [hn.out], by rw [← hpw.out]; simp, own2.out, b3.out, z3, F3⟩
            case measure => simp [intOf]; omega
          · have hn : Hid (bsm (wts L m) (k + 1) = bsm (wts L m) k + 2 ^ k) := hid (by rw [hnx.out, e]; rfl)
            generalize bsm (wts L m) k = X at hB hn
            generalize 2 ^ k = Y at hB hp1 hpw hn
            clear e hnx
            go_wp2_with fail
            go_roundw
            case rel => exact ⟨k + 1, ck, by go_num, by rw [hn.out]; simp, by rw [← hpw.out]; simp, own2.out, b3.out, z3, F3⟩
            case measure => simp [intOf]; omega
        · have hk' : k = L.length := by omega
          subst hk'
          have hsn := hid (mkl_succ L m)
          generalize bsm (wts L m) L.length = X at hB hsn
          clear CW
          have lo := fun k hk => (own.lt k hk).1
          go_wp2_with (first | (at_builtin; refine wpList_append_own _ rfl _ _ 40 rfl (w.heap.size + 1) 43 i0 (.int .u32 0) 1 4 Try.underlying40 hi hz0 hz1 hz2 rfl (by decide) _ _ _ rfl (own.alloc _) ⟨wr.heap.size, 0, none⟩ 1 1 [.int .u32 (X : Int)] rfl rfl (cell_one_new _ _ _) (fun u hu => by simp at hu; subst hu; rfl) (by unfold maxLen; omega) (by omega) (by simp; omega) ?_; intro v4 w4 o4 g4 n4; go_frame))
          have b4 : Below w.heap.size w w4 := (hb.alloc hb.size _).grown g4 (by simp; omega) (fun k hk => by have := lo k hk; omega)
          have b5 : Below (w.heap.size + 1) wr w4 := ((Below.refl _ _).alloc (by omega) _).grown g4 (by simp; omega) lo
          have F4 : Hid (F2 w4 w.heap.size nm (.slice a L.length cap)) := hid ⟨(b5.cell (p := ⟨w.heap.size, 0, none⟩) (by simp)).trans HF.out.1, (b5.cell (p := ⟨w.heap.size, 1, none⟩) (by simp)).trans HF.out.2⟩
          have z4 : w.heap.size < w4.heap.size := by have := b5.size; omega
          go_roundw
          case rel => exact ⟨m + 1, c, by go_num, by rw [hsn.out]; exact o4, b4, z4, F4⟩
          case measure => simp [intOf]; omega
    · have e : m = L.length := by omega
      rw [e] at own
      have own' := hid own
      clear own
      go_wp2_with fail
      go_ret
      exact ⟨_, rfl, own_base own'.out (by omega), hb⟩

end Go.Proofs.Ytdhghjfenkjeaaa.Wgp
