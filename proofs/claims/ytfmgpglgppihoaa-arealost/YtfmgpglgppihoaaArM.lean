/-
  The walk of the law AreaBack: it returns true, and nothing that was in memory has turned. Conditions: none but that the texts lie in memory as such do.
-/
import Derived.Test.YtfmgpglgppihoaaArK
import Derived.Laws.AppendOwnNone
namespace Go.Proofs.Ytfmgpglgppihoaa.War
open Go.ChangeShapes Go.WideShapes Go.ChangeAt Go.RowKit Go.Proofs.Ytfmgpglgppihoaa.M

/-- A slice of texts that is nil has no room. -/
theorem view_nil {H : Type} {enc : TypeId × Value → H} {W : World} {a : Option Addr} {len cap : Nat} {d : DataW H} {p : List MemPlace}
    (h : DataW.Trod enc Try.prog W 0 (fun _ => true) true 38 (.slice a len cap) d p) (ha : a = none) : len = 0 ∧ cap = 0 := by
  obtain ⟨fuel, hf⟩ := h
  rcases open_strings Try.underlying38 Try.underlying9 cS hf with ⟨hcs, _⟩ | ⟨ad, l, c, ss, hcs, _, hl, hm, hz, _, hcell, hws⟩
  · simp [Value.cells] at hcs
    obtain ⟨rfl, rfl, rfl⟩ := hcs
    exact ⟨rfl, rfl⟩
  · simp [Value.cells] at hcs
    rw [ha] at hcs
    simp at hcs

/-- The sectors, and what stands behind them. -/
def yb (G : Int) (D : ByteArray) (m : Nat) (y : Nat → ByteArray) (j : Nat) : ByteArray := if j < m then sp G 0 D j else y (j - m)
theorem sp_size (G : Int) (D : ByteArray) (j : Nat) : (sp G 0 D j).size = 64 := sec_size (pc_le D j)
theorem yb_size {G : Int} {D : ByteArray} {m : Nat} {y : Nat → ByteArray} (h : ∀ i, (y i).size ≤ maxLen) (j : Nat) : (yb G D m y j).size ≤ maxLen := by
  unfold yb
  split
  · rw [sp_size]; decide
  · exact h _
/-- As values. -/
def vl (y : Nat → ByteArray) (n : Nat) : List Value := (List.range n).map fun j => .string (y j)
theorem vl_get (y : Nat → ByteArray) {n j : Nat} (h : j < n) : (vl y n)[j]? = some (.string (y j)) := by
  unfold vl
  rw [List.getElem?_map, List.getElem?_range h]
  rfl
theorem vl_length (y : Nat → ByteArray) (n : Nat) : (vl y n).length = n := by simp [vl]
theorem yb_get {G : Int} {D : ByteArray} {m n : Nat} {y : Nat → ByteArray} {j : Nat} (h : j < m + n) : (spv G 0 D m ++ vl y n)[j]? = some (.string (yb G D m y j)) := by
  unfold yb
  by_cases c : j < m
  · rw [if_pos c, List.getElem?_append_left (by rw [spv_length]; exact c), spv_get _ _ _ c]
  · rw [if_neg c, List.getElem?_append_right (by rw [spv_length]; omega), spv_length, vl_get _ (by omega)]
theorem back_all {G : Int} {D : ByteArray} {y : Nat → ByteArray} (hg : 1 ≤ G ∧ G ≤ 281474976710655) (hn : D.size / 55 ≤ 65535) (N : Nat) : jn (yb G D (D.size / 55 + 1) y) G 0 (D.size / 55 + 1 + N) = D := by
  have h := jn_back (y := yb G D (D.size / 55 + 1) y) hg hn (fun j hj => if_pos (by omega)) N (D.size / 55) 0 (by omega)
  rw [rs_zero] at h
  rw [show D.size / 55 + 1 + N = D.size / 55 + N + 1 by omega]
  exact h

set_option maxRecDepth 100000 in
set_option maxHeartbeats 4000000 in
theorem back (g : Int) (a : ByteArray) (p : Option Addr) (n cap : Nat) (y : Nat → ByteArray) (w : World) (_ : -9223372036854775808 ≤ g) (_ : g < 9223372036854775808) (ha : a.size ≤ 140737488355328) (hy : ∀ i, (y i).size ≤ maxLen) (hc : n ≤ cap) (_ : cap ≤ maxLen) (hL : Lies w p n y) (hp : p = none → n = 0 ∧ cap = 0) :
    Calls Try.prog 7 #[.int .i64 g, .string a, .slice p n cap] w fun e w' => e = .returned (.bool true) ∧ Below w.heap.size w w' := by
  obtain ⟨G, hG⟩ : ∃ G, max 1 (min g 281474976710655) = G := ⟨_, rfl⟩
  have hG2 : 1 ≤ G ∧ G ≤ 281474976710655 := by omega
  have hmin : min (a.size : Int) 20000 = ((min a.size 20000 : Nat) : Int) := by omega
  have hsl := cutL a (a.extract 0 (min a.size 20000)) _ _ rfl (Nat.min_le_left _ _) rfl
  have hD : (a.extract 0 (min a.size 20000)).size ≤ 20000 := by rw [ByteArray.size_extract]; omega
  generalize a.extract 0 (min a.size 20000) = D at hsl hD
  generalize min a.size 20000 = Na at hmin hsl
  have hm1 : D.size / 55 ≤ 400 := by omega
  have hm2 : Hid (55 * (D.size / 55) ≤ D.size ∧ D.size < 55 * (D.size / 55) + 55) := ⟨by omega, by omega⟩
  obtain ⟨e1, e2⟩ := s_ok (g := G) (f := 0) (d := D) ⟨hG2.1, hG2.2, by omega, by omega⟩ (by omega)
  have C1 := hid fun w => split G 0 D w (by omega)
  rw [e1, e2] at C1
  clear e1 e2
  have K1 : Hid (nw (sp G 0 D) (D.size / 55 + 1) = G) := nw_all (by omega) _ (fun j hj => by
    obtain ⟨h1, h2, _, _⟩ := sp_back (d := D) (j := j) hG2 (by omega)
    exact ⟨h1, h2⟩) (by omega)
  have K2 := hid fun N => back_all (y := y) hG2 (show D.size / 55 ≤ 65535 by omega) N
  have K3 : Hid (∀ j, j ≤ D.size / 55 → pOk (sp G 0 D j) = true ∧ pG (sp G 0 D j) = G ∧ pI (sp G 0 D j) = (j : Int) ∧ pD (sp G 0 D j) = pc D j) := fun j hj => sp_back hG2 (by omega)
  have hq : ((D.size : Int) / 55) = ((D.size / 55 : Nat) : Int) := by omega
  have hq2 : (D.size : Int).tdiv 55 = ((D.size / 55 : Nat) : Int) := by rw [Int.tdiv_eq_ediv_of_nonneg (by omega)]; omega
  generalize D.size / 55 = m at *
  have HL := hid hL
  have HY := hid hy
  have HP := hid hp
  clear hL hy hp
  go_enter Try.func7, Try.ntmps7
  go_wp2_with fail
  refine (C1.out _).mono ?_
  rintro e w1 ⟨v, rfl, own1, b1⟩
  have O1 := hid own1
  have B1 := hid b1
  obtain ⟨p1, cap1, hv, hc1, hmx1, L1⟩ := own_lies own1 (fun j hj => spv_get G 0 D hj)
  subst hv
  have L1 := hid L1
  clear own1 b1 C1
  unfold maxLen at hmx1
  go_wp2_with fail
  refine (wakes _).mono ?_
  rintro e w2 ⟨rfl, b2⟩
  have O2 := hid (own_below O1.out b2)
  have L2 := hid (L1.out.below b2)
  have B2 := hid (B1.out.trans (b2.mono B1.out.size))
  clear b2 O1 L1 B1
  go_wp2_with fail
  refine (newest p1 (m + 1) cap1 (sp G 0 D) _ (fun i _ => by rw [sp_size]; decide) (by omega) L2.out).mono ?_
  rintro e w3 ⟨rfl, b3⟩
  rw [K1.out]
  have O3 := hid (own_below O2.out b3)
  have L3 := hid (L2.out.below b3)
  have B3 := hid (B2.out.trans (b3.mono B2.out.size))
  clear b3 O2 L2 B2 K1
  obtain ⟨i0, hi, hz0, hz1, hz2⟩ := info_parts info9
  go_wp2
  go_loopw [50] (fun iv wr => ∃ i : Nat, i ≤ m + 1 ∧ iv = .int .i64 (i : Int) ∧ Below w3.heap.size w3 wr) (fun i _ => m + 1 - (intOf i).toNat)
  case atStart => exact ⟨0, Nat.zero_le _, rfl, Below.refl _ _⟩
  case round =>
    obtain ⟨i, hi1, rfl, hbel⟩ := hrel
    have hz := hbel.size
    clear hsl hmin hG
    by_cases hlt : i < m + 1
    · rcases L3.out with h | ⟨b, off, ha1, hb, hcell⟩
      · exfalso; omega
      · have hci : wr.cell? ⟨b, off + i, none⟩ = some (.string (sp G 0 D i)) := by rw [← hcell i hlt]; exact hbel.cell (by exact hb)
        have C := hid fun w => parse (sp G 0 D i) w (by rw [sp_size]; decide)
        obtain ⟨q1, q2, q3, q4⟩ := K3.out i (by omega)
        obtain ⟨e1, e2, e3⟩ := p_yes q1
        rw [q1, e1, e2, e3, q2, q3, q4] at C
        have hm3 := hm2.out
        have hmn : min (D.size : Int) (((i : Int) + 1) * 55) = ((min (55 * i + 55) D.size : Nat) : Int) := by omega
        have hsl2 := cut D (pc D i) ((i : Int) * 55) ((min (55 * i + 55) D.size : Nat) : Int) (55 * i) (min (55 * i + 55) D.size) (by omega) rfl (by omega) (by omega) rfl
        generalize min (55 * i + 55) D.size = bb at hmn hsl2
        generalize sp G 0 D i = Y at hci C
        generalize pc D i = X at C hsl2
        unfold cv at C
        clear q1 q2 q3 q4 e1 e2 e3 hcell hm3 hq hq2
        subst ha1
        go_wp2_with fail
        refine (C.out _).mono ?_
        rintro e w4 ⟨rfl, b4⟩
        have B4 := hid (hbel.trans (b4.mono hz))
        go_wp2
        go_quiet (fail)
        go_wp2
        go_roundw
        case rel => exact ⟨i + 1, by omega, by go_num, below_drewN (B4.out.alloc B4.out.size _) _⟩
        case measure => simp [intOf] <;> omega
    · obtain rfl : i = m + 1 := by omega
      have hN1 : min (n : Int) 50 = ((min n 50 : Nat) : Int) := by omega
      obtain ⟨N, hN⟩ : ∃ N, N = min n 50 := ⟨_, rfl⟩
      rw [← hN] at hN1
      have hNn : N ≤ n := by omega
      have hN2 : N ≤ 50 := by omega
      clear hN
      have O5 := own_below O3.out hbel
      have L5 := hid (HL.out.below (B3.out.trans (hbel.mono B3.out.size)))
      have B5 := hid (B3.out.trans (hbel.mono B3.out.size))
      cases hp : p with
      | none =>
        obtain ⟨rfl, rfl⟩ := HP.out hp
        obtain rfl : N = 0 := by omega
        go_wp2_with (at_builtin; refine wpList_append_own_none rfl _ _ 38 rfl w.heap.size 9 i0 1 Try.underlying38 hi _ _ _ rfl O5 rfl ?_)
        obtain ⟨p5, cap5, hv, hc5, hm5, L6⟩ := own_lies (f := yb G D (m + 1) y) O5 (fun j hj => by rw [spv_get _ _ _ hj]; unfold yb; rw [if_pos hj])
        simp only [Value.slice.injEq] at hv
        obtain ⟨rfl, _, rfl⟩ := hv
        have J := hid (join p1 (m + 1) cap1 (yb G D (m + 1) y) G wr (fun i _ => yb_size HY.out i) (by omega) L6)
        have E := K2.out 0
        rw [Nat.add_zero] at E
        rw [E] at J
        clear E L6 O5
        refine J.out.mono ?_
        rintro e w6 ⟨rfl, b6⟩
        have B6 := hid (B5.out.trans (b6.mono B5.out.size))
        go_wp2
        go_ret
        exact ⟨rfl, B6.out⟩
      | some ad =>
        have hnews : ∀ j u, (vl y N)[j]? = some u → wr.cell? (ad.add j) = some u := fun j u hj => by
          have hjN : j < N := by
            rcases Nat.lt_or_ge j N with h | h
            · exact h
            · rw [List.getElem?_eq_none (by rw [vl_length]; exact h)] at hj; cases hj
          rw [vl_get y hjN] at hj
          rcases L5.out with h | ⟨b, off, h1, h2, h3⟩
          · omega
          · rw [hp] at h1
            simp only [Option.some.injEq] at h1
            subst h1
            rw [add_none, h3 j (by omega)]
            exact hj
        have hone : ∀ u ∈ vl y N, u.oneCell' = true := fun u hu => by
          unfold vl at hu
          rw [List.mem_map] at hu
          obtain ⟨_, _, rfl⟩ := hu
          rfl
        have hlen := vl_length y N
        have GET := hid fun j (h : j < m + 1 + N) => yb_get (G := G) (D := D) (m := m + 1) (n := N) (y := y) h
        generalize vl y N = news at hnews hone hlen GET
        subst hp
        go_wp2_with (at_builtin; refine wpList_append_own _ rfl _ _ 38 rfl w.heap.size 9 i0 (.string ⟨#[]⟩) 1 16 Try.underlying38 hi hz0 hz1 hz2 rfl (by decide) _ _ _ rfl O5 ad N cap news rfl ?c1 hnews hone ?c3 ?c4 ?c5 ?_)
        case c1 => rw [hlen, Nat.mul_one]
        case c3 => unfold maxLen; omega
        case c4 => omega
        case c5 => exact B5.out.size
        intro v' w6 hown6 hgrow _
        have hlt3 := O5.lt
        have B6 := hid (B5.out.grown hgrow B5.out.size fun k hk => (hlt3 k hk).1)
        obtain ⟨p6, cap6, rfl, hc6, hm6, L6⟩ := own_lies (f := yb G D (m + 1) y) hown6 (fun j hj => GET.out j hj)
        have J := hid (join p6 (m + 1 + N) cap6 (yb G D (m + 1) y) G w6 (fun i _ => yb_size HY.out i) (by omega) L6)
        rw [K2.out N] at J
        clear hgrow hlt3 hown6 L6 O5 GET hnews hone
        go_wp2_with fail
        refine J.out.mono ?_
        rintro e w7 ⟨rfl, b7⟩
        have B7 := hid (B6.out.trans (b7.mono B6.out.size))
        go_wp2
        go_ret
        exact ⟨rfl, B7.out⟩

end Go.Proofs.Ytfmgpglgppihoaa.War
