/-
  The walks of the document's number, one and Put (layer 2): the bytes that 'numB', 'enc1' say, or none and the first error. Nothing that was in memory has turned. Conditions: the values can be read and fit a machine.
-/
import Derived.Test.YtkelipedpjmmaaaGreatDoorPutV
namespace Go.Proofs.YtkelipedpjmmaaaGreatDoor.Wo
open Go.ChangeShapes Go.WideShapes Go.ChangeAt Go.RowKit Go.Proofs.YtkelipedpjmmaaaGreatDoor.M Go.Proofs.YtkelipedpjmmaaaGreatDoor.Wf Go.Proofs.YtkelipedpjmmaaaGreatDoor.We Go.Proofs.YtkelipedpjmmaaaGreatDoor.Wu

def strLen : Value → Nat | .string s => s.size | _ => 0

theorem sh_div (M : Nat) : ∀ j, sh (M : Int) j = ((M / 256 ^ j : Nat) : Int)
  | 0 => by simp [sh]
  | j + 1 => by
    show sh (M : Int) j / 256 = _
    rw [sh_div M j, Nat.pow_succ, ← Nat.div_div_eq_div_mul]
    simp
/-- The first byte of a number's bytes is nought just if it has fewer. -/
theorem first_zero {m : Int} {j : Nat} (h0 : 0 ≤ m) (h2 : m < 18446744073709551616) (hj : j ≤ 7) (hw : wid m ≤ j + 1) : (sh m j % 256 = 0 ↔ wid m ≤ j) := by
  obtain ⟨M, rfl⟩ := Int.eq_ofNat_of_zero_le h0
  have h3 := wid_lt h2
  rw [Int.toNat_natCast] at h3
  have h4 : M < 256 ^ (j + 1) := Nat.lt_of_lt_of_le h3 (Nat.pow_le_pow_right (by decide) hw)
  have hp : 0 < 256 ^ j := Nat.pow_pos (by decide)
  have h5 : M / 256 ^ j < 256 := by rw [Nat.div_lt_iff_lt_mul hp, Nat.mul_comm, ← Nat.pow_succ]; exact h4
  rw [sh_div]
  constructor
  · intro h
    have h6 : M / 256 ^ j = 0 := by have h8 : ((M / 256 ^ j : Nat) : Int) % 256 = 0 := h; generalize M / 256 ^ j = q at *; omega
    have h7 : M < 256 ^ j := by
      rcases Nat.lt_or_ge M (256 ^ j) with h | h
      · exact h
      · have := (Nat.le_div_iff_mul_le hp).2 (show 1 * 256 ^ j ≤ M by omega)
        omega
    exact wid_le (by omega) (by rw [Int.toNat_natCast]; exact h7)
  · intro h
    have h7 : M < 256 ^ j := Nat.lt_of_lt_of_le h3 (Nat.pow_le_pow_right (by decide) h)
    rw [Nat.div_eq_of_lt h7]
    rfl
theorem beB_tail (j : Nat) (m : Int) : (beB (j + 1) m).extract 1 (j + 1) = beB j m := by
  apply ByteArray.ext
  have hl := be_length j m
  simp [beB, be, ByteArray.data_extract]
  exact List.take_of_length_le (by omega)
theorem two_bytes (wr : World) (x : Int) (h0 : 0 ≤ x) (h1 : x < 256) : (convert 72 9 (.slice (some ⟨wr.heap.size, 0, none⟩) 2 2)).run Tryz.prog (wr.alloc (.cells #[.int .u8 1, .int .u8 x] 5)) = .ok (.string ⟨#[1, UInt8.ofNat x.toNat]⟩) (wr.alloc (.cells #[.int .u8 1, .int .u8 x] 5)) :=
  run_convert_bytes_back (P := Tryz.prog) _ 72 9 5 ⟨wr.heap.size, 0, none⟩ 2 [1, UInt8.ofNat x.toNat] Tryz.underlying72 Tryz.underlying5 Tryz.underlying9 (fun j hj => by
    rw [Wp.add_at, World.cell?_alloc_mark]
    match j, hj with
    | 0, _ => rfl
    | 1, _ => simp; omega)
theorem num_bytes (n : Int) (k : Nat) (hk : k ≤ 8) : (⟨#[1, UInt8.ofNat ((k : Int) % 256).toNat]⟩ : ByteArray) ++ beB k n = ⟨(1 :: UInt8.ofNat k :: be k n).toArray⟩ := by
  have e : ((k : Int) % 256).toNat = k := by omega
  rw [e]
  apply ByteArray.ext
  simp [beB]

set_option maxRecDepth 100000 in
theorem number (n : Int) (w : World) (h1 : -9223372036854775808 ≤ n) (h2 : n < 9223372036854775808) :
    Calls Tryz.prog 62 #[.int .i64 n] w fun e w' => e = .returned (.string ⟨(numB n).toArray⟩) ∧ Below w.heap.size w w' := by
  obtain ⟨f1, f2⟩ := fold_range h1 h2
  have w8 := wid_8 f2
  have CF : Hid (∀ W, Calls Tryz.prog 85 #[.int .i64 n] W fun e w' => e = .returned (.int .u64 (foldI n)) ∧ W = w') := fun W => (Wk.foldRef n W h1 h2).mono (fun _ _ h => ⟨h.1, h.2.symm⟩)
  have hn : numB n = 1 :: UInt8.ofNat (wid (foldI n)) :: be (wid (foldI n)) (foldI n) := rfl
  rw [hn]
  clear hn
  generalize foldI n = m at *
  have FZ : Hid (∀ j, j ≤ 7 → wid m ≤ j + 1 → (sh m j % 256 = 0 ↔ wid m ≤ j)) := fun j hj hw => first_zero f1 f2 hj hw
  generalize wid m = k at *
  go_enter Tryz.func62, Tryz.ntmps62
  go_wp2_with fail
  refine (CF.out _).mono ?_
  rintro e w1 ⟨rfl, rfl⟩
  go_wp2_with fail
  refine (Wp.putRef 8 m 8 _ (by omega) (by decide) f1 f2).mono ?_
  rintro e w1 ⟨rfl, b1⟩
  go_wp2_with fail
  go_loopw [4] (fun sv wr => ∃ j : Nat, k ≤ j ∧ j ≤ 8 ∧ sv = .string (beB j m) ∧ wr = w1) (fun s _ => strLen s)
  case atStart => exact ⟨8, w8, Nat.le_refl _, rfl, rfl⟩
  case round =>
    obtain ⟨j, hj1, hj2, rfl, rfl⟩ := hrel
    have hz := beB_size j m
    match j, hj1, hj2 with
    | 0, hj1, _ =>
      have hk0 : k = 0 := by omega
      subst hk0
      have hcv := two_bytes wr 0 (by decide) (by decide)
      go_wp2
      go_ret
      exact ⟨congrArg (fun x => Ending.returned (.string x)) (num_bytes m 0 (by omega)), b1.alloc b1.size _⟩
    | j + 1, hj1, hj2 =>
      have hb := bt_be (w := j + 1) m (show 0 < j + 1 by omega)
      have hg := get_bt (beB (j + 1) m)
      by_cases c : k ≤ j
      · have hs : sh m j % 256 = 0 := (FZ.out j (by omega) hj1).2 c
        go_wp2_with fail
        go_roundw
        case rel => exact ⟨j, c, by omega, by rw [beB_tail], trivial⟩
        case measure => simp only [strLen]; rw [beB_tail, beB_size, beB_size]; omega
      · have hs : ¬ sh m j % 256 = 0 := fun h => c ((FZ.out j (by omega) hj1).1 h)
        have hkj : k = j + 1 := by omega
        subst hkj
        have hcv := two_bytes wr ((j : Int) + 1) (by omega) (by omega)
        go_wp2
        go_ret
        refine ⟨congrArg (fun x => Ending.returned (.string x)) (Eq.trans ?_ (num_bytes m (j + 1) (by omega))), b1.alloc b1.size _⟩
        have e3 : (((j + 1 : Nat) : Int) % 256).toNat = ((j : Int) + 1).toNat := by omega
        have e4 : ((j : Int) + 1).toNat = j + 1 := by omega
        rw [e3, e4]
        simp [UInt8.ofNat_add]

theorem text_bytes (s : ByteArray) : (⟨#[2]⟩ : ByteArray) ++ (beB 2 (s.size : Int) ++ s) = ⟨(2 :: (be 2 (s.size : Int) ++ s.data.toList)).toArray⟩ := by
  apply ByteArray.ext
  simp [beB]
theorem list_bytes (n : Int) : (⟨#[3]⟩ : ByteArray) ++ beB 2 n = ⟨(3 :: be 2 n).toArray⟩ := by
  apply ByteArray.ext
  simp [beB]
theorem code_some {k n : Int} {s : ByteArray} {len d : Nat} {x : Except Int (List UInt8)} {c : Int} (hx : ∀ e, x = .error e → e ≠ 0) (h : enc1 k n s len d x = .error c) : c ≠ 0 := by
  unfold enc1 at h
  split at h
  · cases h
  · split at h
    · split at h
      · cases h; decide
      · cases h
    · split at h
      · split at h
        · cases h; decide
        · cases x with
          | ok b => cases h
          | error e => cases h; exact hx _ rfl
      · cases h; decide
theorem codeF : ∀ {f : F} {d : Nat} {c : Int}, encF f d = .error c → c ≠ 0
  | .nil, d, c, h => by simp [encF] at h
  | .cons k n s l r, d, c, h => by
    simp only [encF] at h
    cases h1 : enc1 k n s l.len d (encF l (d + 1)) with
    | error e => rw [h1] at h; cases h; exact code_some (fun e he => codeF he) h1
    | ok a =>
      rw [h1] at h
      cases h2 : encF r d with
      | error e => rw [h2] at h; cases h; exact codeF h2
      | ok b => rw [h2] at h; cases h

theorem oneSmall (k n : Int) (s : ByteArray) (p : Option Addr) (len cap : Nat) (x : Except Int (List UInt8)) (d : Nat) (w : World) (hd : d ≤ 8) (hl : len ≤ maxLen) (hn : -9223372036854775808 ≤ n ∧ n < 9223372036854775808) (hs : s.size ≤ maxLen) (hc : k = 2 → 256 < len ∨ 8 ≤ d) :
    Calls Tryz.prog 47 #[.agg #[.int .i64 k, .int .i64 n, .string s, .slice p len cap], .int .i64 (d : Int)] w fun e w' => e = .returned (.tuple #[.string (bytesB (enc1 k n s len d x)), .int .i64 (codeOf (enc1 k n s len d x))]) ∧ Below w.heap.size w w' := by
  unfold maxLen at hs hl
  by_cases c0 : k = 0
  · subst c0
    rw [enc_int]
    go_enter Tryz.func47, Tryz.ntmps47
    go_wp2_with fail
    refine (number n _ hn.1 hn.2).mono ?_
    rintro e w1 ⟨rfl, b1⟩
    go_wp2_with fail
    go_ret2
    exact ⟨rfl, ((Below.refl _ _).alloc (Nat.le_refl _) _).trans (b1.mono (by simp))⟩
  by_cases c1 : k = 1
  · subst c1
    by_cases cs : 4096 < s.size
    · rw [enc_long cs]
      have cs' : (4096 : Int) < (s.size : Int) := by omega
      go_enter Tryz.func47, Tryz.ntmps47
      go_wp2_with fail
      go_ret2
      exact ⟨rfl, (Below.refl _ _).alloc (Nat.le_refl _) _⟩
    · rw [enc_text cs]
      have cs' : ¬ (4096 : Int) < (s.size : Int) := by omega
      obtain ⟨e1, e2⟩ := t_ok (s := s) (by omega)
      have hz := beB_size 2 (s.size : Int)
      go_enter Tryz.func47, Tryz.ntmps47
      go_wp2_with fail
      refine (Wt.textRef s _ (by unfold maxLen; omega)).mono ?_
      rintro e w1 ⟨rfl, b1⟩
      rw [e1, e2]
      go_wp2_with fail
      go_ret2
      exact ⟨by rw [text_bytes]; rfl, ((Below.refl _ _).alloc (Nat.le_refl _) _).trans (b1.mono (by simp))⟩
  by_cases c2 : k = 2
  · subst c2
    have c := hc rfl
    rw [enc_deep c]
    by_cases c3 : 256 < len
    · have c3' : (256 : Int) < (len : Int) := by omega
      clear c c3 hc
      go_enter Tryz.func47, Tryz.ntmps47
      go_wp2_with fail
      go_ret2
      exact ⟨rfl, (Below.refl _ _).alloc (Nat.le_refl _) _⟩
    · have c3' : ¬ (256 : Int) < (len : Int) := by omega
      have c4' : (8 : Int) ≤ (d : Int) := by omega
      clear c c3 hc
      go_enter Tryz.func47, Tryz.ntmps47
      go_wp2_with fail
      go_ret2
      exact ⟨rfl, (Below.refl _ _).alloc (Nat.le_refl _) _⟩
  rw [enc_none c0 c1 c2]
  go_enter Tryz.func47, Tryz.ntmps47
  go_wp2_with fail
  go_ret2
  exact ⟨rfl, (Below.refl _ _).alloc (Nat.le_refl _) _⟩

set_option maxHeartbeats 1000000 in
theorem one (N : Nat) : ∀ (k n : Int) (s : ByteArray) (f : F) (L : Value) (d : Nat) (w : World) (A : Nat → Prop), f.nodes < N → (F.cons k n s f .nil).ok → d ≤ 8 → Rd w A L f → wt1 k n s f.wt ≤ 140737488355328 →
    Calls Tryz.prog 47 #[.agg #[.int .i64 k, .int .i64 n, .string s, L], .int .i64 (d : Int)] w fun e w' => e = .returned (.tuple #[.string (bytesB (enc1 k n s f.len d (encF f (d + 1)))), .int .i64 (codeOf (enc1 k n s f.len d (encF f (d + 1))))]) ∧ Below w.heap.size w w' := by
  induction N with
  | zero => intro k n s f L d w A h; omega
  | succ N ih =>
    intro kk nn ss f L d w A hN hok hd hL hwt
    have IH : Hid _ := ih
    clear ih
    obtain ⟨p, cap, xs, rfl, b1, b2, hf, hc⟩ := rd_form hL
    by_cases ck : ¬ kk = 2 ∨ (256 < f.len ∨ 8 ≤ d)
    · exact oneSmall kk nn ss p f.len cap _ d w hd (Nat.le_trans b1 b2) hok.2.1 (by have := hok.2.2.1; unfold maxLen; omega) (fun h => by rcases ck with h1 | h1; exact absurd h h1; exact h1)
    have c2 : kk = 2 := Decidable.not_not.1 (fun h => ck (.inl h))
    have c : ¬ (256 < f.len ∨ 8 ≤ d) := fun h => ck (.inr h)
    clear ck
    subst c2
    rw [enc_list c]
    have HW : Hid (3 + f.wt ≤ 140737488355328) := by show _ ≤ _; simpa [wt1] using hwt
    clear hwt
    unfold maxLen at b2
    have c1 : ¬ (256 : Int) < (f.len : Int) := by omega
    have c2 : ¬ (8 : Int) ≤ (d : Int) := by omega
    have HC : Hid _ := hc
    have HF : Hid _ := hf
    have HN : Hid _ := hN
    have HK : Hid (f.ok) := hok.2.2.2.1
    clear hc hf hN hok hL c
    go_enter Tryz.func47, Tryz.ntmps47
    go_wp2_with fail
    refine (Wp.putRef 2 f.len 2 _ (by omega) (by decide) (by omega) (by omega)).mono ?_
    rintro e w1 ⟨rfl, b3⟩
    have hb1 : Below w.heap.size w w1 := ((Below.refl _ _).alloc (Nat.le_refl _) _).trans (b3.mono (by simp))
    have hz1 : Hid (w.heap.size + 1 ≤ w1.heap.size) := by have := b3.size; show _ ≤ _; simpa using this
    have hx1 : w1.cell? ⟨w.heap.size, 3, none⟩ = some (.slice p f.len cap) := by
      rw [b3.cell (p := ⟨w.heap.size, 3, none⟩) (by simp)]
      simp [go_sem]
    clear b3
    go_wp2_with fail
    rw [list_bytes]
    obtain ⟨T0, hT0⟩ : ∃ T0 : ByteArray, Hid (T0 = ⟨(3 :: be 2 f.len).toArray⟩) := ⟨_, rfl⟩
    rw [← hT0.out]
    go_loopw [9, 10] (fun sv iv wr => ∃ (i : Nat) (g : F) (pre : List UInt8) (T : ByteArray), iv = .int .i64 (i : Int) ∧ sv = .string T ∧ Hid (T = ⟨(3 :: be 2 f.len ++ pre).toArray⟩) ∧ Hid (pre.length + g.wt = f.wt) ∧ g.len + i = f.len ∧ Hid (g.nodes ≤ f.nodes) ∧ Hid g.ok ∧ Hid (encF f (d + 1) = onto pre (encF g (d + 1))) ∧ Below w.heap.size w wr ∧ Hid (w.heap.size + 1 ≤ wr.heap.size) ∧ wr.cell? ⟨w.heap.size, 3, none⟩ = some (.slice p f.len cap) ∧ Hid (Fits w A g (xs.drop (i * 4)))) (fun _ i _ => f.len - (intOf i).toNat)
    case atStart => exact ⟨0, f, [], T0, rfl, rfl, by show _ = _; rw [hT0.out]; simp, by show _ = _; simp, by omega, Nat.le_refl _, HK.out, (onto_nil _).symm, hb1, hz1, hx1, HF⟩
    case round =>
      obtain ⟨i, g, pre, T, rfl, rfl, hT, hw, hg, hn, hok, he, hb, hz, x3, h1⟩ := hrel
      by_cases hlt : i < f.len
      · match g, hg with
        | .nil, hg => simp [F.len] at hg; omega
        | .cons k n s l r, hg =>
          obtain ⟨gb, M, rfl, _, hgb, k0, k1, k2, k3, hM, hr⟩ := fits_next (c := w.cell?) h1.out HC.out
          have N1 : Hid (l.nodes < N) := by have h1 := hn.out; have h2 := HN.out; simp only [F.nodes] at h1; show l.nodes < N; omega
          have N2 : Hid (r.nodes ≤ f.nodes) := by have h1 := hn.out; simp only [F.nodes] at h1; show r.nodes ≤ f.nodes; omega
          obtain ⟨hcc, _⟩ := bcell hb
          have q0 := (hcc gb (i * 4) hgb).trans k0
          have q1 := (hcc gb (i * 4 + 1) hgb).trans k1
          have q2 := (hcc gb (i * 4 + 2) hgb).trans k2
          have q3 := (hcc gb (i * 4 + 3) hgb).trans k3
          have I0 : (0 : Int) ≤ (i : Int) := by omega
          have I1 : (i : Int) < (f.len : Int) := by omega
          have KM : Hid (Rd w A M l) := hM
          have KR : Hid _ := hr
          clear hM hr hcc
          obtain ⟨r1, hr1⟩ : ∃ r1, Hid (r1 = enc1 k n s l.len (d + 1) (encF l (d + 1 + 1))) := ⟨_, rfl⟩
          have W1 : Hid (wt1 k n s l.wt ≤ 140737488355328) := by have h1 := hw.out; have h2 := HW.out; simp only [F.wt] at h1; show _ ≤ _; omega
          have W2 : Hid ((pre.length + wt1 k n s l.wt) + r.wt = f.wt) := by have h1 := hw.out; simp only [F.wt] at h1; show _ = _; omega
          have hw1 : Hid (∀ a, r1 = .ok a → a.length = wt1 k n s l.wt) := fun a h => enc1_size (fun b hb => encF_size hb) (hr1.out ▸ h)
          obtain ⟨U, hU⟩ : ∃ U, Hid (U = bytesB r1) := ⟨_, rfl⟩
          obtain ⟨C, hC⟩ : ∃ C, Hid (C = codeOf r1) := ⟨_, rfl⟩
          have hT1 : T.size ≤ 140737488355328 := by
            have h1 := W2.out; have h2 := HW.out
            rw [hT.out]; show (3 :: be 2 f.len ++ pre).toArray.size ≤ _
            simp only [List.size_toArray, List.length_append, List.length_cons, be_length]; omega
          have hU1 : U.size ≤ 140737488355328 := by
            have h1 := W2.out; have h2 := HW.out; have h3 := hw1.out
            rw [hU.out]
            cases r1 with
            | ok a => have := h3 a rfl; show a.toArray.size ≤ _; simp only [List.size_toArray]; omega
            | error c => exact Nat.zero_le _
          have CC : Hid (∀ W, Below wr.heap.size wr W → Calls Tryz.prog 47 #[.agg #[.int .i64 k, .int .i64 n, .string s, M], .int .i64 ((d : Int) + 1)] W fun e w' => e = .returned (.tuple #[.string U, .int .i64 C]) ∧ Below W.heap.size W w' ∧ (w'.cell? ⟨w.heap.size, 3, none⟩ = some (.slice (some ⟨gb, 0, none⟩) f.len cap) ∧ w'.cell? ⟨gb, i * 4, none⟩ = some (.int .i64 k) ∧ w'.cell? ⟨gb, i * 4 + 1, none⟩ = some (.int .i64 n) ∧ w'.cell? ⟨gb, i * 4 + 2, none⟩ = some (.string s) ∧ w'.cell? ⟨gb, i * 4 + 3, none⟩ = some M)) :=
            fun W hW => by
              have ho := hok.out
              have hcast : (d : Int) + 1 = ((d + 1 : Nat) : Int) := by omega
              rw [hcast]
              refine (IH.out k n s l M (d + 1) W A N1.out ⟨ho.1, ho.2.1, ho.2.2.1, ho.2.2.2.1, trivial⟩ (by omega) (rd_below (rd_below KM.out hb) hW) W1.out).mono
                (fun e w' h => by
                  obtain ⟨hcc, _⟩ := bcell (hW.trans (h.2.mono hW.size))
                  have z := hz.out
                  exact ⟨by rw [hU.out, hC.out, hr1.out]; exact h.1, h.2, (hcc _ _ (by omega)).trans x3, (hcc gb _ (by omega)).trans q0, (hcc gb _ (by omega)).trans q1, (hcc gb _ (by omega)).trans q2, (hcc gb _ (by omega)).trans q3⟩)
          have HO : Hid (r.ok) := hok.out.2.2.2.2
          have ef : Hid (encF f (d + 1) = onto pre (cat r1 (encF r (d + 1)))) := by show _ = _; rw [hr1.out]; exact he.out
          have HE : Hid (∀ c, r1 = .error c → c ≠ 0) := fun c h => code_some (fun e he => codeF he) (hr1.out ▸ h)
          clear k0 k1 k2 k3 hgb
          go_wp2_with fail
          refine (CC.out _ (Below.refl _ _)).mono ?_
          rintro e w2 ⟨rfl, b2, hS⟩
          by_cases c0 : C = 0
          · subst c0
            obtain ⟨a, ha⟩ : ∃ a, r1 = .ok a := by
              cases r1 with
              | ok a => exact ⟨a, rfl⟩
              | error c => exact absurd hC.out.symm (HE.out c rfl)
            subst ha
            go_wp2_with fail
            go_roundw
            case rel =>
              refine ⟨i + 1, r, pre ++ a, T ++ U, by go_num, rfl, ?_, ?_, by simp only [F.len] at hg; omega, N2, HO, ?_, hb.trans (b2.mono hb.size), Nat.le_trans hz.out b2.size, hS.1, by rw [Nat.add_mul]; exact KR⟩
              · show _ = _
                rw [hT.out, hU.out]
                apply ByteArray.ext
                simp [bytesB]
              · show _ = _
                have h1 := W2.out
                have h2 := hw1.out a rfl
                rw [List.length_append]; omega
              · show _ = _
                rw [ef.out, cat_onto, onto_onto]
            case measure => simp [intOf]; omega
          · obtain ⟨c, ha⟩ : ∃ c, r1 = .error c := by
              cases r1 with
              | ok a => exact absurd hC.out c0
              | error c => exact ⟨c, rfl⟩
            subst ha
            have e1 := hC.out
            go_wp2_with fail
            go_ret2
            exact ⟨by rw [ef.out]; rfl, hb.trans (b2.mono hb.size)⟩
      · match g, hg with
        | .cons .., hg => simp [F.len] at hg; omega
        | .nil, hg =>
          have e1 := he.out
          have e2 := hT.out
          simp only [encF, onto, List.append_nil] at e1
          go_wp2_with fail
          go_ret2
          exact ⟨by rw [e1, e2]; rfl, hb⟩

theorem putRef (k n : Int) (s : ByteArray) (f : F) (L : Value) (A : Nat → Prop) (w : World) (hok : (F.cons k n s f .nil).ok) (hL : Rd w A L f) (hl : wt1 k n s f.wt ≤ 140737488355328) :
    Calls Tryz.prog 30 #[.agg #[.int .i64 k, .int .i64 n, .string s, L]] w fun e w' => e = .returned (.tuple #[.string (bytesB (encV k n s f)), .int .i64 (codeOf (encV k n s f))]) ∧ Below w.heap.size w w' := by
  have CC : Hid (∀ W, Below w.heap.size w W → Calls Tryz.prog 47 #[.agg #[.int .i64 k, .int .i64 n, .string s, L], .int .i64 0] W fun e w' => e = .returned (.tuple #[.string (bytesB (encV k n s f)), .int .i64 (codeOf (encV k n s f))]) ∧ Below W.heap.size W w') :=
    fun W hW => one (f.nodes + 1) k n s f L 0 W A (Nat.lt_succ_self _) hok (by omega) (rd_below hL hW) hl
  generalize encV k n s f = r at *
  clear hok hL hl
  go_enter Tryz.func30, Tryz.ntmps30
  go_wp2_with fail
  refine (CC.out _ (by first | exact Below.refl _ _ | exact (Below.refl _ _).alloc (Nat.le_refl _) _)).mono ?_
  rintro e w1 ⟨rfl, b1⟩
  go_wp2_with fail
  go_ret2
  exact ⟨rfl, by first | exact b1 | exact ((Below.refl _ _).alloc (Nat.le_refl _) _).trans (b1.mono (by simp))⟩

end Go.Proofs.YtkelipedpjmmaaaGreatDoor.Wo
