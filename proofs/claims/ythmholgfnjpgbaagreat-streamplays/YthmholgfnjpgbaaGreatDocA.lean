/-
  The walks of the document's frames, Head and parse: the frames of records, the sector that a head is, the head that a sector is. Nothing that was in memory turns.
-/
import Derived.Test.YthmholgfnjpgbaaGreatSmF
namespace Go.Proofs.YthmholgfnjpgbaaGreat.Wdc
open Go.ChangeShapes Go.WideShapes Go.ChangeAt Go.RowKit Go.Proofs.YthmholgfnjpgbaaGreat.M Go.Proofs.YthmholgfnjpgbaaGreat.Wd Go.Proofs.YthmholgfnjpgbaaGreat.Wst

set_option maxRecDepth 100000 in
set_option maxHeartbeats 400000 in
theorem frames (l : List ByteArray) (p : Option Addr) (cap : Nat) (w : World) (hs : ∀ b ∈ l, b.size ≤ maxLen) (hn : l.length ≤ 1048576) (hL : War.Lies w p l.length (nth l)) :
    Calls Tryz.prog 43 #[.slice p l.length cap] w fun e w' => e = .returned (.tuple #[.string (fB l), .int .i64 (fE l)]) ∧ Below w.heap.size w w' := by
  have HL := hid hL
  have HY : Hid (∀ i, i < l.length → (nth l i).size ≤ maxLen) := fun i hi => by rw [nth_get hi]; exact hs _ (List.getElem_mem hi)
  clear hL hs
  obtain ⟨n, hN⟩ : ∃ n, n = l.length := ⟨_, rfl⟩
  have HN := hid hN
  rw [← hN]
  rw [← hN] at hn HL HY
  clear hN
  go_enter Tryz.func43, Tryz.ntmps43
  go_wp2
  go_loopw [4, 5] (fun sv iv wr => ∃ i : Nat, i ≤ n ∧ iv = .int .i64 (i : Int) ∧ fE (l.take i) = 0 ∧ sv = .string (frs (l.take i)) ∧ Below w.heap.size w wr) (fun _ i _ => n - (intOf i).toNat)
  case atStart => exact ⟨0, Nat.zero_le _, rfl, rfl, rfl, Below.refl _ _⟩
  case round =>
    obtain ⟨i, hi, rfl, hf, rfl, hbel⟩ := hrel
    have hz := hbel.size
    have HSZ : (frs (l.take i)).size ≤ 4102 * i := by
      have h1 := frs_size _ (fE_ok.1 hf)
      have h2 : (l.take i).length ≤ i := List.length_take_le ..
      exact Nat.le_trans h1 (Nat.mul_le_mul_left _ h2)
    have HF := hid hf
    clear hf
    by_cases hlt : i < n
    · rcases HL.out with h | ⟨b, off, ha, hb, hcell⟩
      · exfalso; omega
      · have hci : wr.cell? ⟨b, off + i, none⟩ = some (.string (nth l i)) := by rw [← hcell i hlt]; exact hbel.cell (by exact hb)
        have C := hid fun w => Wf.putRef (nth l i) w (HY.out i hlt)
        have HE := hid (fE_take l i HF.out (by rw [← HN.out]; exact hlt))
        have HT := hid (take_nth (l := l) (i := i) (by rw [← HN.out]; exact hlt))
        have FO := hid fun (h : frE (nth l i) = 0) => fr_ok (b := nth l i) (fun e => by have := frE_ok.1 h; omega) (fun e => by have := frE_ok.1 h; omega)
        have FS := hid fun h => (frE_ok (b := nth l i)).1 h
        clear hcell
        subst ha
        generalize nth l i = x at *
        by_cases c : frE x = 0
        · obtain ⟨f1, f2⟩ := FO.out c
          obtain ⟨f3, f4⟩ := FS.out c
          rw [c, f2] at C
          have N0 := hid (HE.out.1 c)
          have N1 : Hid (frs (l.take i) ++ fr x = frs (l.take (i + 1))) := by
            show _ = _
            rw [HT.out, frs_snoc]
          have hsz : (fr x).size ≤ 4102 := by rw [fr_size]; omega
          clear c f1 f2 HE FO FS
          generalize frs (l.take i) = t0 at *
          generalize fr x = f at *
          have hcat : ∀ u, (Op.stringOp .add t0 f).run Tryz.prog u = .ok (.string (t0 ++ f)) u := fun u => run_string_add_sum u t0 f (by omega)
          go_wp2_with fail
          refine (C.out _).mono ?_
          rintro e w1 ⟨rfl, b1⟩
          have B1 := hid (hbel.trans (b1.mono hz))
          go_wp2
          go_roundw
          case rel => exact ⟨i + 1, by omega, by go_num, N0.out, by rw [← N1.out], B1.out⟩
          case measure => simp [intOf] <;> omega
        · have hE := HE.out.2 c
          have HR : Hid (fB l = ⟨#[]⟩ ∧ fE l = frE x) := by
            refine ⟨?_, hE⟩
            unfold fB
            rw [hE, if_neg c]
          have cb : (frE x == 0) = false := by simpa using c
          generalize frB x = f at *
          generalize frE x = E at *
          generalize frs (l.take i) = t0 at *
          clear hE c
          go_wp2_with fail
          refine (C.out _).mono ?_
          rintro e w1 ⟨rfl, b1⟩
          have B1 := hid (hbel.trans (b1.mono hz))
          go_wp2
          go_ret2
          refine ⟨?_, B1.out⟩
          rw [HR.out.1, HR.out.2]
          rfl
    · have hE : i = n := by omega
      have HR : Hid (fB l = frs (l.take i) ∧ fE l = 0) := by
        have e : l.take i = l := List.take_of_length_le (by rw [hE, HN.out]; exact Nat.le_refl _)
        have h0 := HF.out
        rw [e] at h0 ⊢
        refine ⟨?_, h0⟩
        unfold fB
        rw [if_pos h0]
      generalize frs (l.take i) = t0 at *
      go_wp2
      go_ret2
      refine ⟨?_, hbel⟩
      rw [HR.out.1, HR.out.2]
      rfl

theorem add_at0 (b off i : Nat) : (⟨b, off, none⟩ : Addr).add i = ⟨b, off + i, none⟩ := by
  unfold Addr.add
  split
  · rename_i h; rw [h, Nat.add_zero]
  · simp
theorem zz_add (x : ByteArray) (j : Nat) : x ++ zz j ++ ⟨#[0]⟩ = x ++ zz (j + 1) := by
  rw [ByteArray.append_assoc, zz_succ]

set_option maxRecDepth 100000 in
set_option maxHeartbeats 400000 in
theorem head (g : Int) (half : Nat) (w : World) (h0 : 0 ≤ g) (h1 : g ≤ 281474976710655) (hh : half < 2) :
    Calls Tryz.prog 46 #[.int .i64 g, .int .i64 (half : Int)] w fun e w' => e = .returned (.string (hdS g half)) ∧ Below w.heap.size w w' := by
  have C1 := hid fun w => Wp.putRef 6 g 6 w (by omega) (by omega) h0 (by omega)
  have e1 : IntKind.u64.wrap g = g := by rw [IntKind.wrap_u64]; omega
  have e2 : IntKind.u8.wrap (half : Int) = (half : Int) := by rw [IntKind.wrap_u8]; omega
  have hx := beB_size 6 g
  have HF : Hid (hdS g half = nameB ++ beB 6 g ++ oneB (half : Int) ++ zz 49) := rfl
  obtain ⟨x, hX⟩ : ∃ x, x = beB 6 g := ⟨_, rfl⟩
  rw [← hX] at hx HF C1
  clear hX
  have CV : Hid (∀ W : World, (convert 62 9 (.slice (some ⟨W.heap.size, 0, none⟩) 1 1)).run Tryz.prog (W.alloc (.cells #[.int .u8 (half : Int)] 5)) = .ok (.string (oneB (half : Int))) (W.alloc (.cells #[.int .u8 (half : Int)] 5))) := fun W => by
    exact run_convert_bytes_back (P := Tryz.prog) _ 62 9 5 ⟨W.heap.size, 0, none⟩ 1 [UInt8.ofNat ((half : Int)).toNat] Tryz.underlying62 Tryz.underlying5 Tryz.underlying9 (fun j hj => by
      have hj' : j = 0 := by simp at hj; omega
      subst hj'
      rw [add_at0, World.cell?_alloc_mark]
      simp
      omega)
  have hs1 := oneB_size (half : Int)
  obtain ⟨y, hY⟩ : ∃ y, y = oneB (half : Int) := ⟨_, rfl⟩
  rw [← hY] at hs1 HF CV
  clear hY
  have START : Hid ((⟨#[80, 82, 69, 67, 73, 78, 67, 84]⟩ : ByteArray) ++ x ++ y = nameB ++ x ++ y ++ zz 0) := by
    show nameB ++ x ++ y = _
    rw [app_none]
  go_enter Tryz.func46, Tryz.ntmps46
  go_wp2_with fail
  refine (C1.out _).mono ?_
  rintro e w1 ⟨rfl, b1⟩
  have hcv := CV.out w1
  have B1 := hid (b1.alloc b1.size (.cells #[.int .u8 (half : Int)] 5))
  clear b1 CV
  go_wp2
  go_loopw [6] (fun sv wr => ∃ j : Nat, j ≤ 49 ∧ sv = .string (nameB ++ x ++ y ++ zz j) ∧ Below w.heap.size w wr) (fun sv _ => match sv with | .string b => 64 - b.size | _ => 0)
  case atStart => exact ⟨0, Nat.zero_le _, by rw [← START.out], B1.out⟩
  case round =>
    obtain ⟨j, hj, rfl, hbel⟩ := hrel
    have hsz : (nameB ++ x ++ y ++ zz j).size = 15 + j := by
      rw [size_app, size_app, size_app, zz_size, hx, hs1]
      show 8 + 6 + 1 + j = _
      omega
    have NX := hid (zz_add (nameB ++ x ++ y) j)
    have LS : Hid (j = 49 → nameB ++ x ++ y ++ zz j = hdS g half) := fun e => by rw [e, HF.out]
    have hsz2 : (nameB ++ x ++ y ++ zz (j + 1)).size = 15 + j + 1 := by
      rw [size_app, size_app, size_app, zz_size, hx, hs1]
      show 8 + 6 + 1 + (j + 1) = _
      omega
    have HS2 := hid hsz2
    clear hsz2
    generalize nameB ++ x ++ y ++ zz j = t at *
    by_cases hlt : j < 49
    · have hcat : ∀ u, (Op.stringOp .add t ⟨#[0]⟩).run Tryz.prog u = .ok (.string (t ++ ⟨#[0]⟩)) u := fun u => run_string_add_sum u t ⟨#[0]⟩ (by show t.size + 1 ≤ _; omega)
      go_wp2
      go_roundw
      case rel => exact ⟨j + 1, by omega, by rw [← NX.out], hbel⟩
      case measure =>
        rw [NX.out]
        have := HS2.out
        simp only
        omega
    · have HE := hid (LS.out (by omega))
      go_wp2
      go_ret
      refine ⟨?_, hbel⟩
      rw [← HE.out]
      rfl

set_option maxRecDepth 100000 in
set_option maxHeartbeats 800000 in
theorem parse (s : ByteArray) (w : World) (hs : s.size = 64) :
    Calls Tryz.prog 68 #[.string s] w fun e w' => e = .returned (.tuple #[.int .i64 (hG s), .int .i64 (hH s : Int)]) ∧ Below w.heap.size w w' := by
  have g1 : gE s 8 6 = 0 := by unfold gE; rw [if_neg (by omega), if_neg (by omega)]
  have C1 := hid fun w => Wg.getRef s 8 6 w (by unfold maxLen; omega) (by omega) (by omega)
  have n1 : gN s 8 6 = hNum s := by unfold gN; rw [if_pos g1]; rfl
  have x1 : gX s 8 6 = 14 := by unfold gX; rw [if_pos g1]; rfl
  rw [n1, x1, g1] at C1
  obtain ⟨r1, r2⟩ := hNum_range s
  have H0 := hid fun w => head (hNum s) 0 w r1 r2 (by omega)
  have H1 := hid fun w => head (hNum s) 1 w r1 r2 (by omega)
  have HA : Hid (0 < hNum s → hdS (hNum s) 0 = s → hG s = hNum s ∧ hH s = 0) := fun a b => by
    have y : hIs s 0 = true := decide_eq_true ⟨a, b⟩
    unfold hG hH
    rw [if_pos (.inl y), if_pos y]
    exact ⟨rfl, rfl⟩
  have HB : Hid (0 < hNum s → ¬ hdS (hNum s) 0 = s → hdS (hNum s) 1 = s → hG s = hNum s ∧ hH s = 1) := fun a b c => by
    have y : hIs s 1 = true := decide_eq_true ⟨a, c⟩
    have n : hIs s 0 = false := decide_eq_false fun e => b e.2
    unfold hG hH
    rw [if_pos (.inr y), n]
    exact ⟨rfl, rfl⟩
  have HC : Hid (¬ (0 < hNum s ∧ (hdS (hNum s) 0 = s ∨ hdS (hNum s) 1 = s)) → hG s = 0 ∧ hH s = 1) := fun a => by
    have n0 : hIs s 0 = false := decide_eq_false fun e => a ⟨e.1, .inl e.2⟩
    have n1 : hIs s 1 = false := decide_eq_false fun e => a ⟨e.1, .inr e.2⟩
    unfold hG hH
    rw [n0, n1]
    exact ⟨rfl, rfl⟩
  clear g1 n1 x1
  generalize hNum s = N at *
  generalize hG s = G at *
  generalize hH s = H at *
  have l0 := list_same (hdS N 0) s
  have l1 := list_same (hdS N 1) s
  generalize hT0 : hdS N 0 = T0 at *
  generalize hT1 : hdS N 1 = T1 at *
  clear hT0 hT1
  go_enter Tryz.func68, Tryz.ntmps68
  go_wp2_with fail
  refine (C1.out _).mono ?_
  rintro e w1 ⟨rfl, rfl⟩
  go_wp2
  go_loopw [7] (fun hv wr => ∃ h : Nat, h ≤ 2 ∧ hv = .int .i64 (h : Int) ∧ (1 ≤ h → ¬ (0 < N ∧ T0 = s)) ∧ (2 ≤ h → ¬ (0 < N ∧ T1 = s)) ∧ Below w.heap.size w wr) (fun hv _ => 2 - (intOf hv).toNat)
  case atStart => exact ⟨0, Nat.zero_le _, rfl, fun c => by omega, fun c => by omega, Below.refl _ _⟩
  case round =>
    obtain ⟨h, hh, rfl, h1, h2, hbel⟩ := hrel
    have h1 := hid h1
    have h2 := hid h2
    rcases (by omega : h = 0 ∨ h = 1 ∨ h = 2) with rfl | rfl | rfl
    · by_cases cN : 0 < N
      · by_cases cT : T0 = s
        · have RR := hid (HA.out cN cT)
          rw [decide_eq_true cT] at l0
          clear cT
          go_wp2_with fail
          refine (H0.out _).mono ?_
          rintro e w2 ⟨rfl, b2⟩
          have B2 := hid (hbel.trans (b2.mono hbel.size))
          clear b2
          go_wp2
          go_ret2
          refine ⟨?_, B2.out⟩
          rw [RR.out.1, RR.out.2]
          rfl
        · rw [decide_eq_false cT] at l0
          have NT := hid (show ¬ (0 < N ∧ T0 = s) from fun e => cT e.2)
          clear cT
          go_wp2_with fail
          refine (H0.out _).mono ?_
          rintro e w2 ⟨rfl, b2⟩
          have B2 := hid (hbel.trans (b2.mono hbel.size))
          clear b2
          go_wp2
          go_roundw
          case rel => exact ⟨1, by omega, rfl, fun _ => NT.out, fun c => by omega, B2.out⟩
          case measure => simp [intOf]
      · have NT := hid (show ¬ (0 < N ∧ T0 = s) from fun e => cN e.1)
        go_wp2_with fail
        refine (H0.out _).mono ?_
        rintro e w2 ⟨rfl, b2⟩
        have B2 := hid (hbel.trans (b2.mono hbel.size))
        clear b2
        go_wp2
        go_roundw
        case rel => exact ⟨1, by omega, rfl, fun _ => NT.out, fun c => by omega, B2.out⟩
        case measure => simp [intOf]
    · by_cases cN : 0 < N
      · by_cases cT : T1 = s
        · have RR := hid (HB.out cN (fun e => h1.out (by omega) ⟨cN, e⟩) cT)
          rw [decide_eq_true cT] at l1
          clear cT
          go_wp2_with fail
          refine (H1.out _).mono ?_
          rintro e w2 ⟨rfl, b2⟩
          have B2 := hid (hbel.trans (b2.mono hbel.size))
          clear b2
          go_wp2
          go_ret2
          refine ⟨?_, B2.out⟩
          rw [RR.out.1, RR.out.2]
          rfl
        · rw [decide_eq_false cT] at l1
          have NT := hid (show ¬ (0 < N ∧ T1 = s) from fun e => cT e.2)
          clear cT
          go_wp2_with fail
          refine (H1.out _).mono ?_
          rintro e w2 ⟨rfl, b2⟩
          have B2 := hid (hbel.trans (b2.mono hbel.size))
          clear b2
          go_wp2
          go_roundw
          case rel => exact ⟨2, by omega, rfl, fun _ => h1.out (by omega), fun c => NT.out, B2.out⟩
          case measure => simp [intOf]
      · have NT := hid (show ¬ (0 < N ∧ T1 = s) from fun e => cN e.1)
        go_wp2_with fail
        refine (H1.out _).mono ?_
        rintro e w2 ⟨rfl, b2⟩
        have B2 := hid (hbel.trans (b2.mono hbel.size))
        clear b2
        go_wp2
        go_roundw
        case rel => exact ⟨2, by omega, rfl, fun _ => h1.out (by omega), fun c => NT.out, B2.out⟩
        case measure => simp [intOf]
    · have RR := hid (HC.out fun e => e.2.elim (fun c => h1.out (by omega) ⟨e.1, c⟩) fun c => h2.out (by omega) ⟨e.1, c⟩)
      go_wp2
      go_ret2
      refine ⟨?_, hbel⟩
      rw [RR.out.1, RR.out.2]
      rfl

end Go.Proofs.YthmholgfnjpgbaaGreat.Wdc
