/-
  The walk of the law AreaLost: it returns true, and nothing that was in memory has turned. Conditions: none but that the numbers lie in memory as such do.
-/
import Derived.Test.YtfmgpglgppihoaaArM
import Derived.Deep.RegionHeld3
namespace Go.Proofs.Ytfmgpglgppihoaa.War
open Go.ChangeShapes Go.WideShapes Go.ChangeAt Go.RowKit Go.Proofs.Ytfmgpglgppihoaa.M

def upB (y : Nat → ByteArray) (k : Nat) (x : ByteArray) : Nat → ByteArray := fun j => if j = k then x else y j
theorem upB_at (y : Nat → ByteArray) (k : Nat) (x : ByteArray) : upB y k x k = x := if_pos rfl
theorem upB_off (y : Nat → ByteArray) {k j : Nat} (x : ByteArray) (h : j ≠ k) : upB y k x j = y j := if_neg h
theorem vl_set (y : Nat → ByteArray) (n k : Nat) (x : ByteArray) (h : k < n) : (vl y n).set k (.string x) = vl (upB y k x) n := by
  apply List.ext_getElem?
  intro j
  by_cases hj : j < n
  · rw [vl_get _ hj]
    by_cases c : j = k
    · subst c
      rw [List.getElem?_set_self (by rw [vl_length]; exact hj), upB_at]
    · rw [List.getElem?_set_ne (fun e => c e.symm), vl_get _ hj, upB_off _ _ c]
  · rw [List.getElem?_eq_none (by rw [List.length_set, vl_length]; omega), List.getElem?_eq_none (by rw [vl_length]; omega)]
theorem vl_sp (G : Int) (D : ByteArray) (n : Nat) : spv G 0 D n = vl (sp G 0 D) n := rfl

/-- The text that the law lays. -/
def tx1 : ByteArray := ⟨#[120]⟩
/-- What holds of the sectors, the first F of which are the data's. -/
structure Ls (G O : Int) (D : ByteArray) (m F : Nat) (y : Nat → ByteArray) : Prop where
  le : F ≤ m + 1
  same : ∀ j, j < F → y j = sp G 0 D j
  lost : F ≤ m → y F = sec O (F : Int) tx1
  size : ∀ j, (y j).size ≤ maxLen
theorem Ls.step {G O : Int} {D : ByteArray} {m F : Nat} {y : Nat → ByteArray} (h : Ls G O D m F y) {k : Nat} (hk : k ≤ m) : Ls G O D m (min F k) (upB y k (sec O (k : Int) tx1)) where
  le := by have := h.le; omega
  same := fun j hj => by
    rw [upB_off _ _ (by omega)]
    exact h.same j (by omega)
  lost := fun hF => by
    by_cases c : k ≤ F
    · rw [Nat.min_eq_right c, upB_at]
    · rw [Nat.min_eq_left (by omega), upB_off _ _ (by omega)]
      exact h.lost (by omega)
  size := fun j => by
    by_cases c : j = k
    · subst c
      rw [upB_at, sec_size (by decide)]
      decide
    · rw [upB_off _ _ c]
      exact h.size j
theorem Ls.join {G O : Int} {D : ByteArray} {F : Nat} {y : Nat → ByteArray} (h : Ls G O D (D.size / 55) F y) (hG : 1 ≤ G ∧ G ≤ 281474976710655) (hO : 1 ≤ O ∧ O ≤ 281474976710655) (hne : ¬ O = G) (hn : D.size / 55 ≤ 65535) :
    jn y G 0 (D.size / 55 + 1) = D.extract 0 (min D.size (F * 55)) ∧ (F ≤ D.size / 55 → O ≤ nw y (D.size / 55 + 1)) := by
  by_cases c : F ≤ D.size / 55
  · have hs := h.lost c
    obtain ⟨a1, a2, a3, a4⟩ := sec_back (g := O) (i := (F : Int)) (d := tx1) ⟨hO.1, hO.2, by omega, by omega⟩ (by decide)
    rw [← hs] at a1 a2 a3 a4
    refine ⟨?_, fun _ => by rw [← a2]; exact nw_ge a1 _ (by omega)⟩
    have := jn_lost hG hn c h.same (j_no2 (by rw [a2]; exact hne)) (D.size / 55 + 1 - F) F 0 (by omega)
    rw [show F + (D.size / 55 + 1 - F) = D.size / 55 + 1 by omega, Nat.mul_zero] at this
    rw [this, Nat.min_eq_right (by omega), Nat.mul_comm]
  · have hF : F = D.size / 55 + 1 := by have := h.le; omega
    refine ⟨?_, fun h => absurd h c⟩
    have := jn_back hG hn (fun j hj => h.same j (by omega)) 0 (D.size / 55) 0 (by omega)
    rw [Nat.add_zero, rs_zero] at this
    rw [this, Nat.min_eq_left (by omega)]
    exact ByteArray.extract_zero_size.symm

set_option maxRecDepth 100000 in
set_option maxHeartbeats 4000000 in
theorem lost (g0 g1 : Int) (a : ByteArray) (p : Option Addr) (n cap : Nat) (z : Nat → Int) (w : World) (ha : a.size ≤ 140737488355328) (hz : ∀ i, I64 (z i)) (hc : n ≤ cap) (_ : cap ≤ maxLen) (hL : Nums w p n z) :
    Calls Try.prog 8 #[.agg #[.int .i64 g0, .int .i64 g1], .string a, .slice p n cap] w fun e w' => e = .returned (.bool true) ∧ Below w.heap.size w w' := by
  obtain ⟨G, hG⟩ : ∃ G, max 1 (min g0 281474976710655) = G := ⟨_, rfl⟩
  have hG2 : 1 ≤ G ∧ G ≤ 281474976710655 := by omega
  obtain ⟨O, hO⟩ : ∃ O, G % 281474976710655 + 1 = O := ⟨_, rfl⟩
  have hO2 : 1 ≤ O ∧ O ≤ 281474976710655 := by omega
  have hO3 : ¬ O = G := by omega
  have hmin : min (a.size : Int) 5000 = ((min a.size 5000 : Nat) : Int) := by omega
  have hsl := cutL a (a.extract 0 (min a.size 5000)) _ _ rfl (Nat.min_le_left _ _) rfl
  have hD : (a.extract 0 (min a.size 5000)).size ≤ 5000 := by rw [ByteArray.size_extract]; omega
  generalize a.extract 0 (min a.size 5000) = D at hsl hD
  generalize min a.size 5000 = Na at hmin hsl
  have hm1 : D.size / 55 ≤ 100 := by omega
  obtain ⟨e1, e2⟩ := s_ok (g := G) (f := 0) (d := D) ⟨hG2.1, hG2.2, by omega, by omega⟩ (by omega)
  have C1 := hid fun w => split G 0 D w (by omega)
  rw [e1, e2] at C1
  clear e1 e2
  have K1 := hid fun F y (h : Ls G O D (D.size / 55) F y) => h.join hG2 hO2 hO3 (by omega)
  have K0 : Hid (Ls G O D (D.size / 55) (D.size / 55 + 1) (sp G 0 D)) := ⟨Nat.le_refl _, fun _ _ => rfl, fun h => by omega, fun j => by rw [sp_size]; decide⟩
  have hm2 : Hid (55 * (D.size / 55) ≤ D.size ∧ D.size < 55 * (D.size / 55) + 55) := ⟨by omega, by omega⟩
  generalize D.size / 55 = m at *
  have hN1 : min (n : Int) 20 = ((min n 20 : Nat) : Int) := by omega
  obtain ⟨N, hN⟩ : ∃ N, N = min n 20 := ⟨_, rfl⟩
  rw [← hN] at hN1
  have hNn : N ≤ n := by omega
  have hN2 : N ≤ 20 := by omega
  clear hN
  have hm0 : ((m : Int) + 1 == 0) = false := by simp; omega
  have HL := hid hL
  have HZ := hid hz
  clear hL hz
  go_enter Try.func8, Try.ntmps8
  go_wp2_with fail
  refine (C1.out _).mono ?_
  rintro e w1 ⟨v, rfl, own1, b1⟩
  rw [vl_sp] at own1
  obtain ⟨b, cap1, rfl⟩ : ∃ b cap1, v = .slice (some ⟨b, 0, none⟩) (m + 1) cap1 := by
    rcases own1.2 with ⟨_, h⟩ | ⟨g, cap, cur, h, _⟩
    · omega
    · exact ⟨g, cap, h⟩
  have O1 := hid own1
  have B1 : Hid (Below w.heap.size w w1) := ((Below.refl _ _).alloc (Nat.le_refl _) _).trans (b1.mono (by simp))
  clear own1 b1 C1
  go_wp2_with fail
  refine (wakes _).mono ?_
  rintro e w2 ⟨rfl, b2⟩
  have O2 := hid (own_below O1.out b2)
  have B2 := hid (B1.out.trans (b2.mono B1.out.size))
  clear b2 O1 B1
  go_wp2
  go_loopw [11, 52] (fun fv iv wr => ∃ (i F : Nat) (y : Nat → ByteArray), i ≤ N ∧ iv = .int .i64 (i : Int) ∧ fv = .int .i64 (F : Int) ∧ Ls G O D m F y ∧ wr.ownsRow (w.heap.size + 1) 9 1 (.slice (some ⟨b, 0, none⟩) (m + 1) cap1) (m + 1) (vl y (m + 1)) ∧ Below w.heap.size w wr) (fun _ i _ => N - (intOf i).toNat)
  case atStart => exact ⟨0, m + 1, _, Nat.zero_le _, rfl, by simp, K0.out, by have h := O2.out; rwa [World.size_alloc] at h, B2.out⟩
  case round =>
    obtain ⟨i, F, y, hi, rfl, rfl, hls, hown, hbel⟩ := hrel
    clear K0 O2 B2 hG hO hsl hmin hN1
    have hzz := hbel.size
    by_cases hlt : i < N
    · rcases HL.out with h | ⟨b2, off, ha1, hb, hcell⟩
      · exfalso; omega
      · have hci : wr.cell? ⟨b2, off + i, none⟩ = some (.int .i64 (z i)) := by rw [← hcell i (by omega)]; exact hbel.cell (by exact hb)
        obtain ⟨z0, z1⟩ := HZ.out i
        obtain ⟨k, hk⟩ : ∃ k : Nat, max 0 (z i) % ((m : Int) + 1) = (k : Int) := ⟨(max 0 (z i) % ((m : Int) + 1)).toNat, (Int.toNat_of_nonneg (Int.emod_nonneg _ (by omega))).symm⟩
        have hkm : k ≤ m := by
          have := Int.emod_lt_of_pos (max 0 (z i)) (show (0 : Int) < (m : Int) + 1 by omega)
          omega
        have hk2 : (max 0 (z i)).tmod ((m : Int) + 1) = (k : Int) := by rw [Int.tmod_eq_emod_of_nonneg (by omega)]; exact hk
        have hmn : min (F : Int) (k : Int) = ((min F k : Nat) : Int) := by omega
        have LS := hid (hls.step hkm)
        have C := hid fun w => make O (k : Int) tx1 w (by decide)
        obtain ⟨m1, m2⟩ := m_ok (g := O) (i := (k : Int)) (d := tx1) ⟨hO2.1, hO2.2, by omega, by omega⟩ (by decide)
        rw [m1, m2] at C
        clear m1 m2 hcell hls
        generalize sec O (k : Int) tx1 = X at C LS
        generalize z i = Z at *
        generalize min F k = F2 at hmn LS
        unfold cv tx1 at C
        subst ha1
        go_wp2_with fail
        refine (C.out _).mono ?_
        rintro e w4 ⟨rfl, b4⟩
        have own4 := own_below hown b4
        have hcl := own4.cellAt k (by omega)
        rw [vl_get y (by omega)] at hcl
        have hfr := own4.frozenAt k
        have HO4 := hid (own4.stored k (.string X)).1
        have hb1 := (own4.lt b rfl).1
        have B4 := hid ((hbel.trans (b4.mono hzz)).setCell (p := ⟨b, k, none⟩) (show w.heap.size ≤ b by omega) (.string X))
        clear own4 b4 hown
        generalize y k = Yk at hcl
        go_wp2
        go_roundw
        case rel => exact ⟨i + 1, F2, _, by omega, by go_num, rfl, LS.out, by rw [← vl_set y (m + 1) k X (by omega)]; exact HO4.out, B4.out⟩
        case measure => simp [intOf] <;> omega
    · obtain rfl : i = N := by omega
      obtain ⟨j1, j2⟩ := K1.out F y hls
      have hmn : min (D.size : Int) ((F : Int) * 55) = ((min D.size (F * 55) : Nat) : Int) := by omega
      have hmn2 : (if (F : Int) * 55 < (D.size : Int) then (F : Int) * 55 else (D.size : Int)) = ((min D.size (F * 55) : Nat) : Int) := by split <;> omega
      have hsl2 := cutL D (D.extract 0 (min D.size (F * 55))) _ _ rfl (Nat.min_le_left _ _) rfl
      obtain ⟨p5, cap5, hv, hc5, hm5, L6⟩ := own_lies (f := y) hown (fun j hj => vl_get y hj)
      simp only [Value.slice.injEq] at hv
      obtain ⟨hp5, _, rfl⟩ := hv
      rw [← hp5] at L6
      have J := hid fun W h => join (some ⟨b, 0, none⟩) (m + 1) cap1 y G W (fun i _ => hls.size i) (by omega) h
      rw [j1] at J
      generalize D.extract 0 (min D.size (F * 55)) = R at J hsl2
      generalize min D.size (F * 55) = bb at hmn hmn2 hsl2
      have hFm := hls.le
      have HLS := hid hls
      have L7 := hid L6
      clear hls j1 L6 hp5 hown
      have hwr : IntKind.i64.wrap ((F : Int) * 55) = (F : Int) * 55 := by rw [IntKind.wrap_i64]; omega
      by_cases cF : F = m + 1
      · have hne : ((F : Int) == (m : Int) + 1) = true := by simp; omega
        go_wp2
        clear cF
        refine wp_region_noPanic ?_
        refine wp_region_held_drew (S := fun _ => True) (by kernel_rfl) trivial (fun hH => ?_)
        refine wpAnyH_take (i := 0) (oi := { dst := some 75, op := Op.move (Operand.tmp 8), type := 38, pos := "law.go:92", after := #[], guard := none }) (v := .slice (some ⟨b, 0, none⟩) (m + 1) cap1) rfl (by kernel_rfl) (by kernel_rfl) (by kernel_rfl) (fun _ _ _ h => h) (Or.inl ⟨by rfl, by (intro w hSw; clear hSw; go_simp)⟩) hH ?_
        simp only [Act.put, List.setIfInBounds_toArray, List.set_cons_zero, List.set_cons_succ]
        refine wpAnyH_take (i := 1) (oi := { dst := some 76, op := Op.move (Operand.tmp 7), type := 2, pos := "law.go:92", after := #[], guard := none }) (v := .int .i64 G) rfl (by kernel_rfl) (by kernel_rfl) (by kernel_rfl) (fun _ _ _ h => h) (Or.inl ⟨by rfl, by (intro w hSw; clear hSw; go_simp)⟩) hH ?_
        simp only [Act.put, List.setIfInBounds_toArray, List.set_cons_zero, List.set_cons_succ]
        refine wpAnyH_take (i := 3) (oi := { dst := some 78, op := Op.move (Operand.tmp 1), type := 9, pos := "law.go:92", after := #[], guard := none }) (v := .string D) rfl (by kernel_rfl) (by kernel_rfl) (by kernel_rfl) (fun _ _ _ h => h) (Or.inl ⟨by rfl, by (intro w hSw; clear hSw; go_simp)⟩) hH ?_
        simp only [Act.put, List.setIfInBounds_toArray, List.set_cons_zero, List.set_cons_succ]
        refine wpAnyH_take (i := 4) (oi := { dst := some 79, op := Op.move (Operand.tmp 1), type := 9, pos := "law.go:92", after := #[], guard := none }) (v := .string D) rfl (by kernel_rfl) (by kernel_rfl) (by kernel_rfl) (fun _ _ _ h => h) (Or.inl ⟨by rfl, by (intro w hSw; clear hSw; go_simp)⟩) hH ?_
        simp only [Act.put, List.setIfInBounds_toArray, List.set_cons_zero, List.set_cons_succ]
        refine wpAnyH_take (i := 5) (oi := { dst := some 80, op := Op.call { callee := Callee.builtin Builtin.len, args := #[Operand.tmp 79], argTypes := #[9] }, type := 3, pos := "law.go:92", after := #[{ on := 4, ground := Ground.data }], guard := none }) (v := .int .i64 (D.size : Int)) rfl (by kernel_rfl) (by kernel_rfl) (by kernel_rfl) (fun _ _ _ h => h) (Or.inl ⟨by rfl, by (intro w hSw; clear hSw; go_simp)⟩) hH ?_
        simp only [Act.put, List.setIfInBounds_toArray, List.set_cons_zero, List.set_cons_succ]
        refine wpAnyH_take (i := 6) (oi := { dst := some 81, op := Op.move (Operand.tmp 11), type := 3, pos := "law.go:92", after := #[], guard := none }) (v := .int .i64 (F : Int)) rfl (by kernel_rfl) (by kernel_rfl) (by kernel_rfl) (fun _ _ _ h => h) (Or.inl ⟨by rfl, by (intro w hSw; clear hSw; go_simp)⟩) hH ?_
        simp only [Act.put, List.setIfInBounds_toArray, List.set_cons_zero, List.set_cons_succ]
        refine wpAnyH_take (i := 7) (oi := { dst := some 82, op := Op.binOp BinOp.mul 3 (Operand.tmp 81) (Operand.const (Value.int IntKind.i64 55)) 3, type := 3, pos := "law.go:92", after := #[{ on := 6, ground := Ground.data }], guard := none }) (v := .int .i64 ((F : Int) * 55)) rfl (by kernel_rfl) (by kernel_rfl) (by kernel_rfl) (fun _ _ _ h => h) (Or.inl ⟨by rfl, by (intro w hSw; clear hSw; go_simp)⟩) hH ?_
        simp only [Act.put, List.setIfInBounds_toArray, List.set_cons_zero, List.set_cons_succ]
        refine wpAnyH_take (i := 8) (oi := { dst := some 83, op := Op.call { callee := Callee.builtin Builtin.min, args := #[Operand.tmp 80, Operand.tmp 82], argTypes := #[3, 3] }, type := 3, pos := "law.go:92", after := #[{ on := 5, ground := Ground.data }, { on := 7, ground := Ground.data }], guard := none }) (v := .int .i64 (bb : Int)) rfl (by kernel_rfl) (by kernel_rfl) (by kernel_rfl) (fun _ _ _ h => h) (Or.inl ⟨by rfl, by (intro w hSw; clear hSw; go_simp)⟩) hH ?_
        simp only [Act.put, List.setIfInBounds_toArray, List.set_cons_zero, List.set_cons_succ]
        refine wpAnyH_take (i := 9) (oi := { dst := some 84, op := Op.slice 9 (Operand.tmp 78) none (some (Operand.tmp 83)) none, type := 9, pos := "law.go:92", after := #[{ on := 3, ground := Ground.data }, { on := 8, ground := Ground.data }], guard := none }) (v := .string R) rfl (by kernel_rfl) (by kernel_rfl) (by kernel_rfl) (fun _ _ _ h => h) (Or.inl ⟨by rfl, by (intro w hSw; clear hSw; go_simp)⟩) hH ?_
        simp only [Act.put, List.setIfInBounds_toArray, List.set_cons_zero, List.set_cons_succ]
        refine wpAnyH_ready (rs := [2]) (by kernel_rfl) (by simp) ?_
        refine AllReadyH.cons (o := { dst := some 77, op := Op.call { callee := Callee.value (Operand.func 17), args := #[Operand.tmp 75, Operand.tmp 76], argTypes := #[38, 2] }, type := 9, pos := "law.go:92", after := #[{ on := 0, ground := Ground.data }, { on := 1, ground := Ground.data }], guard := none }) rfl (fun K hK => ?_) AllReadyH.nil
        go_simp
        refine (J.out _ L7.out.drew).mono ?_
        rintro e w6 ⟨rfl, b6⟩
        have B6 := hid (hbel.drew.trans (b6.mono hzz))
        go_wp2_with fail
        refine hK.out _ _ trivial (fun hH2 => ?_)
        clear hK K b6
        refine wpAnyH_take (i := 10) (oi := { dst := some 85, op := Op.binOp BinOp.eql 9 (Operand.tmp 77) (Operand.tmp 84) 9, type := 4, pos := "law.go:92", after := #[{ on := 2, ground := Ground.data }, { on := 9, ground := Ground.data }], guard := none }) (v := .bool true) rfl (by kernel_rfl) (by kernel_rfl) (by kernel_rfl) (fun _ _ _ h => h) (Or.inl ⟨by rfl, by (intro w hSw; clear hSw; go_simp)⟩) hH2 ?_
        simp only [Act.put, List.setIfInBounds_toArray, List.set_cons_zero, List.set_cons_succ]
        refine wpAnyH_take (i := 11) (oi := { dst := some 86, op := Op.move (Operand.tmp 85), type := 4, pos := "law.go:92", after := #[{ on := 10, ground := Ground.data }, { on := 2, ground := Ground.chain }], guard := none }) (v := .bool true) rfl (by kernel_rfl) (by kernel_rfl) (by kernel_rfl) (fun _ _ _ h => h) (Or.inl ⟨by rfl, by (intro w hSw; clear hSw; go_simp)⟩) hH2 ?_
        simp only [Act.put, List.setIfInBounds_toArray, List.set_cons_zero, List.set_cons_succ]
        refine wpAnyH_take (i := 12) (oi := { dst := some 87, op := Op.move (Operand.tmp 11), type := 3, pos := "law.go:92", after := #[{ on := 11, ground := Ground.guard }], guard := some (11, true) }) (v := .int .i64 (F : Int)) rfl (by kernel_rfl) (by kernel_rfl) (by kernel_rfl) (fun _ _ _ h => h) (Or.inl ⟨by rfl, by (intro w hSw; clear hSw; go_simp)⟩) hH2 ?_
        simp only [Act.put, List.setIfInBounds_toArray, List.set_cons_zero, List.set_cons_succ]
        refine wpAnyH_take (i := 13) (oi := { dst := some 88, op := Op.move (Operand.tmp 8), type := 38, pos := "law.go:92", after := #[{ on := 11, ground := Ground.guard }], guard := some (11, true) }) (v := .slice (some ⟨b, 0, none⟩) (m + 1) cap1) rfl (by kernel_rfl) (by kernel_rfl) (by kernel_rfl) (fun _ _ _ h => h) (Or.inl ⟨by rfl, by (intro w hSw; clear hSw; go_simp)⟩) hH2 ?_
        simp only [Act.put, List.setIfInBounds_toArray, List.set_cons_zero, List.set_cons_succ]
        refine wpAnyH_take (i := 14) (oi := { dst := some 89, op := Op.call { callee := Callee.builtin Builtin.len, args := #[Operand.tmp 88], argTypes := #[38] }, type := 3, pos := "law.go:92", after := #[{ on := 13, ground := Ground.data }, { on := 11, ground := Ground.guard }], guard := some (11, true) }) (v := .int .i64 ((m : Int) + 1)) rfl (by kernel_rfl) (by kernel_rfl) (by kernel_rfl) (fun _ _ _ h => h) (Or.inl ⟨by rfl, by (intro w hSw; clear hSw; go_simp)⟩) hH2 ?_
        simp only [Act.put, List.setIfInBounds_toArray, List.set_cons_zero, List.set_cons_succ]
        refine wpAnyH_take (i := 15) (oi := { dst := some 90, op := Op.binOp BinOp.eql 3 (Operand.tmp 87) (Operand.tmp 89) 3, type := 4, pos := "law.go:92", after := #[{ on := 12, ground := Ground.data }, { on := 14, ground := Ground.data }, { on := 11, ground := Ground.guard }], guard := some (11, true) }) (v := .bool true) rfl (by kernel_rfl) (by kernel_rfl) (by kernel_rfl) (fun _ _ _ h => h) (Or.inl ⟨by rfl, by (intro w hSw; clear hSw; go_simp)⟩) hH2 ?_
        simp only [Act.put, List.setIfInBounds_toArray, List.set_cons_zero, List.set_cons_succ]
        refine wpAnyH_take (i := 16) (oi := { dst := some 91, op := Op.move (Operand.tmp 90), type := 4, pos := "law.go:92", after := #[{ on := 15, ground := Ground.data }, { on := 11, ground := Ground.chain }, { on := 11, ground := Ground.guard }], guard := some (11, true) }) (v := .bool true) rfl (by kernel_rfl) (by kernel_rfl) (by kernel_rfl) (fun _ _ _ h => h) (Or.inl ⟨by rfl, by (intro w hSw; clear hSw; go_simp)⟩) hH2 ?_
        simp only [Act.put, List.setIfInBounds_toArray, List.set_cons_zero, List.set_cons_succ]
        refine wpAnyH_take (i := 17) (oi := { dst := some 92, op := Op.move (Operand.tmp 8), type := 38, pos := "law.go:92", after := #[{ on := 16, ground := Ground.guard }], guard := some (16, false) }) (v := undef) rfl (by kernel_rfl) (by kernel_rfl) (by kernel_rfl) (fun _ _ _ h => h) (Or.inr ⟨by rfl, rfl⟩) hH2 ?_
        simp only [Act.put, List.setIfInBounds_toArray, List.set_cons_zero, List.set_cons_succ]
        refine wpAnyH_take (i := 19) (oi := { dst := some 94, op := Op.move (Operand.tmp 10), type := 2, pos := "law.go:92", after := #[{ on := 16, ground := Ground.guard }], guard := some (16, false) }) (v := undef) rfl (by kernel_rfl) (by kernel_rfl) (by kernel_rfl) (fun _ _ _ h => h) (Or.inr ⟨by rfl, rfl⟩) hH2 ?_
        simp only [Act.put, List.setIfInBounds_toArray, List.set_cons_zero, List.set_cons_succ]
        refine wpAnyH_take (i := 18) (oi := { dst := some 93, op := Op.call { callee := Callee.value (Operand.func 16), args := #[Operand.tmp 92], argTypes := #[38] }, type := 2, pos := "law.go:92", after := #[{ on := 17, ground := Ground.data }, { on := 16, ground := Ground.chain }, { on := 16, ground := Ground.guard }], guard := some (16, false) }) (v := undef) rfl (by kernel_rfl) (by kernel_rfl) (by kernel_rfl) (fun _ _ _ h => h) (Or.inr ⟨by rfl, rfl⟩) hH2 ?_
        simp only [Act.put, List.setIfInBounds_toArray, List.set_cons_zero, List.set_cons_succ]
        refine wpAnyH_take (i := 20) (oi := { dst := some 95, op := Op.binOp BinOp.geq 2 (Operand.tmp 93) (Operand.tmp 94) 2, type := 4, pos := "law.go:92", after := #[{ on := 18, ground := Ground.data }, { on := 19, ground := Ground.data }, { on := 16, ground := Ground.guard }], guard := some (16, false) }) (v := undef) rfl (by kernel_rfl) (by kernel_rfl) (by kernel_rfl) (fun _ _ _ h => h) (Or.inr ⟨by rfl, rfl⟩) hH2 ?_
        simp only [Act.put, List.setIfInBounds_toArray, List.set_cons_zero, List.set_cons_succ]
        refine wpAnyH_take (i := 21) (oi := { dst := some 96, op := Op.pick (Operand.tmp 91) (Operand.const (Value.bool true)) (Operand.tmp 95), type := 4, pos := "law.go:92", after := #[{ on := 16, ground := Ground.data }, { on := 20, ground := Ground.data }, { on := 11, ground := Ground.guard }], guard := some (11, true) }) (v := .bool true) rfl (by kernel_rfl) (by kernel_rfl) (by kernel_rfl) (fun _ _ _ h => h) (Or.inl ⟨by rfl, by (intro w hSw; clear hSw; go_simp)⟩) hH2 ?_
        simp only [Act.put, List.setIfInBounds_toArray, List.set_cons_zero, List.set_cons_succ]
        refine wpAnyH_take (i := 22) (oi := { dst := some 97, op := Op.pick (Operand.tmp 86) (Operand.tmp 96) (Operand.const (Value.bool false)), type := 4, pos := "law.go:92", after := #[{ on := 11, ground := Ground.data }, { on := 21, ground := Ground.data }], guard := none }) (v := .bool true) rfl (by kernel_rfl) (by kernel_rfl) (by kernel_rfl) (fun _ _ _ h => h) (Or.inl ⟨by rfl, by (intro w hSw; clear hSw; go_simp)⟩) hH2 ?_
        simp only [Act.put, List.setIfInBounds_toArray, List.set_cons_zero, List.set_cons_succ]
        refine wpAnyH_take (i := 23) (oi := { dst := some 6, op := Op.assign (Operand.tmp 97), type := 4, pos := "law.go:92", after := #[{ on := 22, ground := Ground.data }, { on := 18, ground := Ground.chain }, { on := 0, ground := Ground.phase }, { on := 1, ground := Ground.phase }, { on := 2, ground := Ground.phase }, { on := 3, ground := Ground.phase }, { on := 4, ground := Ground.phase }, { on := 5, ground := Ground.phase }, { on := 6, ground := Ground.phase }, { on := 7, ground := Ground.phase }, { on := 8, ground := Ground.phase }, { on := 9, ground := Ground.phase }, { on := 10, ground := Ground.phase }, { on := 11, ground := Ground.phase }, { on := 12, ground := Ground.phase }, { on := 13, ground := Ground.phase }, { on := 14, ground := Ground.phase }, { on := 15, ground := Ground.phase }, { on := 16, ground := Ground.phase }, { on := 17, ground := Ground.phase }, { on := 18, ground := Ground.phase }, { on := 19, ground := Ground.phase }, { on := 20, ground := Ground.phase }, { on := 21, ground := Ground.phase }, { on := 22, ground := Ground.phase }], guard := none }) (v := .bool true) rfl (by kernel_rfl) (by kernel_rfl) (by kernel_rfl) (fun _ _ _ h => h) (Or.inl ⟨by rfl, by (intro w hSw; clear hSw; go_simp)⟩) hH2 ?_
        simp only [Act.put, List.setIfInBounds_toArray, List.set_cons_zero, List.set_cons_succ]
        refine wpAnyH_done (by kernel_rfl) ?_ _
        refine NoPanic.normal ?_
        all_goals (go_wp2; go_ret; exact ⟨rfl, B6.out⟩)
      · have hne : ((F : Int) == (m : Int) + 1) = false := by simp; omega
        have hge := j2 (by omega)
        have M := hid fun w h => newest (some ⟨b, 0, none⟩) (m + 1) cap1 y w (fun i _ => HLS.out.size i) (by omega) h
        generalize nw y (m + 1) = V at M hge
        go_wp2
        go_region_held3 (fun _ => True)
          (first | exact trivial | go_keep)
          (first | (go_at_call 17; refine (J.out _ ?_).mono ?_; exact L7.out.drew; rintro e w6 ⟨rfl, b6⟩; have B6 := hid (hbel.drew.trans (b6.mono hzz)); have L8 := hid (L7.out.drew.below b6); clear b6) | (go_at_call 16; refine (M.out _ L8.out).mono ?_; rintro e w7 ⟨rfl, b7⟩; have B7 := hid (B6.out.trans (b7.mono B6.out.size)); clear b7))
        all_goals (go_wp2; go_ret; exact ⟨rfl, B7.out⟩)

end Go.Proofs.Ytfmgpglgppihoaa.War
