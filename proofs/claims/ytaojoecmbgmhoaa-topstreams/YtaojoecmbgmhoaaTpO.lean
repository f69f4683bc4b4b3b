/-
  The walk of TopStreams' closure open: it returns true, and both streams stand opened, each with what was told of it, or that and what was under way in it. Conditions: the law's memory is as its predicate says, the regions are as the plain one says.
-/
import Derived.Test.YtaojoecmbgmhoaaTpR
import Derived.Deep.LoopGhost
namespace Go.Proofs.Ytaojoecmbgmhoaa.Wtp
open Go.ChangeShapes Go.WideShapes Go.ChangeAt Go.RowKit Go.Proofs.Ytaojoecmbgmhoaa.M Go.Proofs.Ytaojoecmbgmhoaa.Wd Go.Proofs.Ytaojoecmbgmhoaa.Wst

/-- Both streams stand opened. -/
def OqP (V : World) (P C D : Nat) (g : Int) (w' : World) : Prop :=
  ∃ lost d s L m F G SP sv v, Tp V w' P C D 2 2 lost d s L m F G SP sv v ∧ Pq 2 d s L m g ∧ lost ≤ 8
/-- A round of open begins: region k is next, n rounds may still come. -/
def OrP (V : World) (P C D n k : Nat) (g : Int) (w' : World) : Prop :=
  ∃ lost d s L m F G SP sv v g', Tp V w' P C D k k lost d s L m F G SP sv v ∧ Pq k d s L m g' ∧ lost ≤ 8 ∧ rnd2 lost d k ≤ n ∧ n ≤ 29 ∧ g' ≤ g + (29 - (n : Int))
/-- Behind an Open: the list that was told is taken over. -/
def OtP (V : World) (P C D k lost : Nat) (d : Dk) (s : Nat → Sm) (L : Nat → List ByteArray) (m : Nat → ByteArray) (SP : Nat → Nat) (sv v : Nat → Value) (X : List ByteArray) (g : Int) (w' : World) : Prop :=
  ∃ F G, Tp V w' P C D (k + 1) k lost d s L m F G SP sv v ∧ Pq (k + 1) d s L m g ∧ L k = X ∧ L 2 = X

/-- The comparison of two texts that are the same. -/
theorem upd_congr {α : Type} {f : Nat → α} {k : Nat} {x : α} (h : x = f k) : ∀ j, upd f k x j = f j := fun j => by
  by_cases c : j = k
  · subst c
    rw [upd_at, h]
  · rw [upd_off _ _ c]

set_option maxRecDepth 100000 in
set_option maxHeartbeats 8000000 in
theorem topen2 {V w : World} {P C D n0 nn0 lost0 : Nat} {d0 : Dk} {s0 : Nat → Sm} {L0 : Nat → List ByteArray} {m0 : Nat → ByteArray} {F0 G0 : Nat → Prop} {SP0 : Nat → Nat} {sv0 v0 : Nat → Value} (h : Tp V w P C D n0 nn0 lost0 d0 s0 L0 m0 F0 G0 SP0 sv0 v0) {g0 : Int} (q : Pq 0 d0 s0 L0 m0 g0) (hlost : lost0 ≤ 8) (hg : g0 < 1000000)
    {a : Option Addr} {nc cc : Nat} {A : Nat → Wls.Cu} (cv : Cv V C a nc cc A) :
    Calls Try.prog 8 #[.pointer (some ⟨P, 0, none⟩), .pointer (some ⟨P + 5, 0, none⟩), .pointer (some ⟨P + 3, 0, none⟩), .pointer (some ⟨P + 2, 0, none⟩), .pointer (some ⟨P + 1, 0, none⟩)] w fun e w' => e = .returned (.bool true) ∧ Hid (OqP V P C D (g0 + 30) w') := by
  have START : Hid (OrP V P C D 29 0 g0 w) := ⟨_, _, _, _, _, _, _, _, _, _, _, h.fewer 0 0 (Nat.zero_le _) (Nat.zero_le _) (Nat.le_refl _), q, hlost, rnd2_le d0, Nat.le_refl _, by omega⟩
  obtain ⟨i0, hi0, hz0, hz1, hz2⟩ := info_parts infoS
  have CV := hid cv
  clear h q hlost cv
  go_enter Try.func8, Try.ntmps8
  go_wp2
  go_loopg [6] 29 (fun n kv wr => ∃ k : Nat, k ≤ 2 ∧ kv = .int .i64 (k : Int) ∧ Hid (OrP V P C D n k g0 wr))
  case atStart => exact ⟨0, by omega, rfl, START⟩
  case round =>
    clear START
    obtain ⟨k, hk, rfl, hr⟩ := hrel
    by_cases hlt : k < 2
    · obtain ⟨lost, d, s, L, m, F, G, SP, sv, v, g, T, q, hlo, hrn, hn29, hgg⟩ := hr.out
      have kP := T.cp
      have OP := hid (topen T q hlt (by omega))
      have HG := hid (And.intro hlo (And.intro hrn (And.intro hn29 hgg)))
      clear T q hr hlo hrn hgg
      go_wp2_with fail
      refine OP.out.mono ?_
      clear OP
      rintro e w1 (⟨S, pl, nl, cl, rfl, h1⟩ | ⟨rfl, h1⟩)
      · obtain ⟨d1, s1, F1, G1, X, T, hnl, q, hX, ha, li, hcl, hlen⟩ := h1.out
        clear h1
        have km := (T.cm hlt).1
        have kt := (T.ct hlt).1
        rw [upd_off _ _ (show k ≠ 2 by omega)] at kt
        obtain ⟨pa, ca, hv, hca, hca2, lia⟩ := (T.r k (by omega)).lies
        rw [upd_off _ _ (show k ≠ 2 by omega)] at hv
        rw [upd_off _ _ (show k ≠ 2 by omega)] at hv hca lia
        rw [hv] at kt
        have HA := hid ha
        have HV := hid hv
        unfold maxLen at hca2
        clear ha hv
        by_cases cz : (m k).size = 0
        · have em := empty_of cz
          have hXk : X = L k := hX.elim id fun c => absurd cz c.1
          have KP : Hid (∃ F G, Tp V w1 P C D (k + 1) k lost d1 (upd s k s1) (upd L 2 X) m F G (upd SP k S) sv (upd v 2 (.slice pl nl cl)) ∧ (∀ j, j < 2 → upd L 2 X j = upd L k X j) ∧ upd L 2 X 2 = X) := ⟨_, _, T, fun j hj => by rw [upd_off _ _ (show j ≠ 2 by omega), upd_congr hXk], upd_at _ _ _⟩
          have HQ := hid (And.intro q (And.intro hnl (And.intro li (And.intro hcl hlen))))
          clear T q hX hnl li lia hXk cz hlen kt
          go_wp2_with fail
          go_quiet (fail)
          have KP2 : Hid (∃ F G LL vv, Tp V (w1.drewN nq) P C D (k + 1) k lost d1 (upd s k s1) LL m F G (upd SP k S) sv vv ∧ (∀ j, j < 2 → LL j = upd L k X j) ∧ vv 2 = .slice pl nl cl ∧ LL 2 = X) := by
            obtain ⟨F, G, T, h1, h2⟩ := KP.out
            exact ⟨F, G, _, _, T.below (below_drewN (Below.refl _ _) nq), h1, upd_at _ _ _, h2⟩
          clear KP km
          generalize w1.drewN nq = w2 at *
          obtain ⟨F2, G2, LL, vv, T, hLL, hv2, hL2⟩ := KP2.out
          clear KP2
          have hLk : LL k = X := by rw [hLL k hlt, upd_at]
          have T3 := T.setM hlt ⟨#[]⟩
          obtain ⟨pt, ct, hvt, hct, hct2, lit⟩ := (T3.r k (by omega)).lies
          obtain ⟨pl', cl', hv2', hcl', hcl2', lil⟩ := (T3.r 2 (by omega)).lies
          rw [hL2] at hv2' lil hcl'
          rw [hLk] at hvt lit hct
          rw [hv2] at hv2'
          obtain ⟨rfl, rfl, rfl⟩ := Value.slice.inj hv2'
          have kt := (T.ct hlt).1
          rw [hvt] at kt
          obtain ⟨km1, km2⟩ := T.cm hlt
          have kt3 := (T3.ct hlt).1
          rw [hvt] at kt3
          have HQ2 := hid (And.intro (HQ.out.1.congr (by omega) hLL fun _ _ => rfl) (And.intro hvt HQ.out.2))
          have HT := hid T3
          have HLS := hid (And.intro lil lit)
          unfold maxLen at hct2 hcl2'
          clear T T3 lil lit hLL hL2 hLk hv2' HQ hvt hv2
          generalize X.length = N at *
          go_wp2_with fail
          go_loopw [82] (fun iv wq => ∃ i : Nat, i ≤ N ∧ iv = .int .i64 (i : Int) ∧ Below (w2.setCell ⟨P + 3, k, none⟩ (.string ⟨#[]⟩)).heap.size (w2.setCell ⟨P + 3, k, none⟩ (.string ⟨#[]⟩)) wq) (fun iv _ => N - (intOf iv).toNat)
          case atStart => exact ⟨0, Nat.zero_le _, rfl, Below.refl _ _⟩
          case round =>
            rename World => wq
            obtain ⟨i, hi, rfl, hbel⟩ := hrel
            have T4 := HT.out.below hbel
            by_cases hlt2 : i < N
            · rcases HLS.out.1 with h | ⟨b1, off, ha, hb, hcell⟩
              · exfalso; omega
              · rcases HLS.out.2 with h | ⟨b2, off', ha', hb', hcell'⟩
                · exfalso; omega
                · have hci : wq.cell? ⟨b1, off + i, none⟩ = some (.string (nth X i)) := by rw [← hcell i hlt2]; exact hbel.cell (by exact hb)
                  have hci' : wq.cell? ⟨b2, off' + i, none⟩ = some (.string (nth X i)) := by rw [← hcell' i hlt2]; exact hbel.cell (by exact hb')
                  have kt4 := (T4.ct hlt).1
                  rw [HQ2.out.2.1] at kt4
                  clear hcell hcell' T4
                  cases ha; cases ha'
                  generalize nth X i = x at *
                  go_wp2
                  go_quiet (fail)
                  go_wp2
                  go_roundw
                  case rel => exact ⟨i + 1, by omega, by go_num, below_drewN hbel _⟩
                  case measure => simp [intOf] <;> omega
            · obtain ⟨ks1, ks2⟩ := T4.cs hlt
              have T5 := T4.setS hlt (by omega)
              rw [upd_at] at T5
              have E : Hid (OrP V P C D (gk - 1) (k + 1) g0 (wq.setCell ⟨P + 1, k, none⟩ (.pointer (some ⟨S, 0, none⟩)))) := by
                obtain ⟨a1, a2, a3, a4⟩ := HG.out
                have := rnd2_ok (lost := lost) hlt HA.out
                exact ⟨_, _, _, _, _, _, _, _, _, _, g + 1, T5, HQ2.out.1, a1, by omega, by omega, by omega⟩
              have hgk : 0 < gk := by
                obtain ⟨a1, a2, a3, a4⟩ := HG.out
                have := rnd2_ok (lost := lost) hlt HA.out
                omega
              clear T4 T5 HQ2 HT HLS
              go_wp2
              go_roundg (gk - 1)
              case measure => omega
              case rel => exact ⟨k + 1, by omega, by go_num, E⟩
        · have fm := Wf.full_of cz
          by_cases cX : X = L k
          · have KP : Hid (∃ F G, Tp V w1 P C D (k + 1) k lost d1 (upd s k s1) (upd L 2 X) m F G (upd SP k S) sv (upd v 2 (.slice pl nl cl)) ∧ (∀ j, j < 2 → upd L 2 X j = upd L k X j) ∧ upd L 2 X 2 = X) := ⟨_, _, T, fun j hj => by rw [upd_off _ _ (show j ≠ 2 by omega), upd_congr cX], upd_at _ _ _⟩
            have ne1 : ¬ (nl : Int) = ((L k).length : Int) + 1 := by rw [hnl, cX]; omega
            have d1' : decide ((nl : Int) = ((L k).length : Int) + 1) = false := decide_eq_false ne1
            have d2' : ((nl : Int) == ((L k).length : Int) + 1) = false := by simpa using ne1
            have HQ := hid (And.intro q (And.intro hnl (And.intro li (And.intro hcl hlen))))
            have hlk : (L k).length ≤ 1650 := by rw [← cX]; exact hlen
            clear T q hX hnl li lia cX cz hlen ne1
            generalize (L k).length = na at *
            go_wp2_with fail
            go_quiet (fail)
            have KP2 : Hid (∃ F G LL vv, Tp V (w1.drewN nq) P C D (k + 1) k lost d1 (upd s k s1) LL m F G (upd SP k S) sv vv ∧ (∀ j, j < 2 → LL j = upd L k X j) ∧ vv 2 = .slice pl nl cl ∧ LL 2 = X) := by
              obtain ⟨F, G, T, h1, h2⟩ := KP.out
              exact ⟨F, G, _, _, T.below (below_drewN (Below.refl _ _) nq), h1, upd_at _ _ _, h2⟩
            clear KP km d1' d2' kt fm hlk
            generalize w1.drewN nq = w2 at *
            obtain ⟨F2, G2, LL, vv, T, hLL, hv2, hL2⟩ := KP2.out
            clear KP2
            have hLk : LL k = X := by rw [hLL k hlt, upd_at]
            have T3 := T.setM hlt ⟨#[]⟩
            obtain ⟨pt, ct, hvt, hct, hct2, lit⟩ := (T3.r k (by omega)).lies
            obtain ⟨pl', cl', hv2', hcl', hcl2', lil⟩ := (T3.r 2 (by omega)).lies
            rw [hL2] at hv2' lil hcl'
            rw [hLk] at hvt lit hct
            rw [hv2] at hv2'
            obtain ⟨rfl, rfl, rfl⟩ := Value.slice.inj hv2'
            have kt := (T.ct hlt).1
            rw [hvt] at kt
            obtain ⟨km1, km2⟩ := T.cm hlt
            have kt3 := (T3.ct hlt).1
            rw [hvt] at kt3
            have HQ2 := hid (And.intro (HQ.out.1.congr (by omega) hLL fun _ _ => rfl) (And.intro hvt HQ.out.2))
            have HT := hid T3
            have HLS := hid (And.intro lil lit)
            unfold maxLen at hct2 hcl2'
            clear T T3 lil lit hLL hL2 hLk hv2' HQ hvt hv2
            generalize X.length = N at *
            go_wp2_with fail
            go_loopw [82] (fun iv wq => ∃ i : Nat, i ≤ N ∧ iv = .int .i64 (i : Int) ∧ Below (w2.setCell ⟨P + 3, k, none⟩ (.string ⟨#[]⟩)).heap.size (w2.setCell ⟨P + 3, k, none⟩ (.string ⟨#[]⟩)) wq) (fun iv _ => N - (intOf iv).toNat)
            case atStart => exact ⟨0, Nat.zero_le _, rfl, Below.refl _ _⟩
            case round =>
              rename World => wq
              obtain ⟨i, hi, rfl, hbel⟩ := hrel
              have T4 := HT.out.below hbel
              by_cases hlt2 : i < N
              · rcases HLS.out.1 with h | ⟨b1, off, ha, hb, hcell⟩
                · exfalso; omega
                · rcases HLS.out.2 with h | ⟨b2, off', ha', hb', hcell'⟩
                  · exfalso; omega
                  · have hci : wq.cell? ⟨b1, off + i, none⟩ = some (.string (nth X i)) := by rw [← hcell i hlt2]; exact hbel.cell (by exact hb)
                    have hci' : wq.cell? ⟨b2, off' + i, none⟩ = some (.string (nth X i)) := by rw [← hcell' i hlt2]; exact hbel.cell (by exact hb')
                    have kt4 := (T4.ct hlt).1
                    rw [HQ2.out.2.1] at kt4
                    clear hcell hcell' T4
                    cases ha; cases ha'
                    generalize nth X i = x at *
                    go_wp2
                    go_quiet (fail)
                    go_wp2
                    go_roundw
                    case rel => exact ⟨i + 1, by omega, by go_num, below_drewN hbel _⟩
                    case measure => simp [intOf] <;> omega
              · obtain ⟨ks1, ks2⟩ := T4.cs hlt
                have T5 := T4.setS hlt (by omega)
                rw [upd_at] at T5
                have E : Hid (OrP V P C D (gk - 1) (k + 1) g0 (wq.setCell ⟨P + 1, k, none⟩ (.pointer (some ⟨S, 0, none⟩)))) := by
                  obtain ⟨a1, a2, a3, a4⟩ := HG.out
                  have := rnd2_ok (lost := lost) hlt HA.out
                  exact ⟨_, _, _, _, _, _, _, _, _, _, g + 1, T5, HQ2.out.1, a1, by omega, by omega, by omega⟩
                have hgk : 0 < gk := by
                  obtain ⟨a1, a2, a3, a4⟩ := HG.out
                  have := rnd2_ok (lost := lost) hlt HA.out
                  omega
                clear T4 T5 HQ2 HT HLS
                go_wp2
                go_roundg (gk - 1)
                case measure => omega
                case rel => exact ⟨k + 1, by omega, by go_num, E⟩
          · have hXa : X = L k ++ [m k] := (hX.resolve_left cX).2
            have hnl1 : nl = (L k).length + 1 := by rw [hnl, hXa]; simp
            have d1t : decide ((nl : Int) = ((L k).length : Int) + 1) = true := decide_eq_true (by omega)
            have d2t : ((nl : Int) == ((L k).length : Int) + 1) = true := by rw [beq_iff_eq]; omega
            have hlt3 : ((L k).length : Int) < (nl : Int) := by omega
            have hlt4 : (L k).length < nl := by omega
            have hlk : (L k).length ≤ 1650 := by omega
            have lst : nth X (L k).length = m k := by rw [hXa]; simp [nth]
            rcases li with h0 | ⟨b1, off, ha1, hb1, hcell⟩
            · exfalso; omega
            have hce : w1.cell? ⟨b1, off + (L k).length, none⟩ = some (.string (m k)) := by rw [hcell _ hlt4, lst]
            have TT := hid T
            have HX := hid (And.intro hXa hnl)
            have HQ := hid (And.intro q (And.intro hcl hlen))
            clear T q hX hnl cX cz hlen hXa hnl1 lst hcell
            subst ha1
            go_wp2_with fail
            go_quiet (fail)
            have TT2 := hid (TT.out.below (below_drewN (Below.refl _ _) nq))
            clear TT km kt hce d1t d2t hlt3 hlt4 fm
            generalize w1.drewN nq = w2 at *
            go_wp2_with fail
            have hk2 : k ≠ 2 := by omega
            have T := TT2.out
            have kt2 := (T.ct hlt).1
            have km2 := (T.cm hlt).1
            have own0 := (T.r k (by omega)).own
            rw [upd_off L X hk2, upd_off v _ hk2, HV.out] at own0
            rw [upd_off v _ hk2, HV.out] at kt2
            have hsz := T.lt
            refine r11 hlt hlk kt2 km2 (by omega) (by omega) T.size own0 (fun gb cap w3 own3 gr3 hg3 => ?_)
            have TD := T.below ((Below.refl w2.heap.size w2).drew)
            obtain ⟨c1, T3⟩ := TD.grow (k := k) hlt (w2 := w3) (x := m k) (o := .cells #[.string (m k)] 9) (g := gb) (cap := cap) (by rw [upd_off L X hk2]; exact own3) (by rw [upd_off v _ hk2, HV.out]; exact gr3) (by rw [upd_off v _ hk2, HV.out]; exact hg3)
            rw [upd_off v _ hk2, HV.out] at c1
            rw [upd_off L X hk2] at T3
            refine ⟨c1, ?_⟩
            have KP2 : Hid (∃ F G LL vv, Tp V (w3.setCell ⟨P + 2, k, none⟩ (.slice (some ⟨gb, 0, none⟩) ((L k).length + 1) cap)) P C D (k + 1) k lost d1 (upd s k s1) LL m F G (upd SP k S) sv vv ∧ (∀ j, j < 2 → LL j = upd L k X j) ∧ vv 2 = .slice (some ⟨b1, off, none⟩) nl cl ∧ LL 2 = X) := by
              refine ⟨_, _, _, _, T3, fun j hj => ?_, by rw [upd_off _ _ (Ne.symm hk2), upd_at], by rw [upd_off _ _ (Ne.symm hk2), upd_at]⟩
              by_cases c : j = k
              · rw [c, upd_at, upd_at, HX.out.1]
              · rw [upd_off _ _ c, upd_off _ _ c, upd_off _ _ (show j ≠ 2 by omega)]
            clear T TD T3 c1 own3 gr3 hg3 own0 kt2 km2 hsz TT2 hlk
            generalize w3.setCell ⟨P + 2, k, none⟩ (.slice (some ⟨gb, 0, none⟩) ((L k).length + 1) cap) = w4 at *
            obtain ⟨F2, G2, LL, vv, T, hLL, hv2, hL2⟩ := KP2.out
            clear KP2
            have hLk : LL k = X := by rw [hLL k hlt, upd_at]
            have T3 := T.setM hlt ⟨#[]⟩
            obtain ⟨pt, ct, hvt, hct, hct2, lit⟩ := (T3.r k (by omega)).lies
            obtain ⟨pl', cl', hv2', hcl', hcl2', lil⟩ := (T3.r 2 (by omega)).lies
            rw [hL2] at hv2' lil hcl'
            rw [hLk] at hvt lit hct
            rw [hv2] at hv2'
            obtain ⟨rfl, rfl, rfl⟩ := Value.slice.inj hv2'
            have kt := (T.ct hlt).1
            rw [hvt] at kt
            obtain ⟨km1, km2⟩ := T.cm hlt
            have kt3 := (T3.ct hlt).1
            rw [hvt] at kt3
            have HQ2 := hid (And.intro (HQ.out.1.congr (by omega) hLL fun _ _ => rfl) (And.intro hvt HQ.out.2))
            have HT := hid T3
            have HLS := hid (And.intro lil lit)
            unfold maxLen at hct2 hcl2'
            clear T T3 lil lit hLL hL2 hLk hv2' HQ hvt hv2
            generalize X.length = N at *
            go_wp2_with fail
            go_loopw [82] (fun iv wq => ∃ i : Nat, i ≤ N ∧ iv = .int .i64 (i : Int) ∧ Below (w4.setCell ⟨P + 3, k, none⟩ (.string ⟨#[]⟩)).heap.size (w4.setCell ⟨P + 3, k, none⟩ (.string ⟨#[]⟩)) wq) (fun iv _ => N - (intOf iv).toNat)
            case atStart => exact ⟨0, Nat.zero_le _, rfl, Below.refl _ _⟩
            case round =>
              rename World => wq
              obtain ⟨i, hi, rfl, hbel⟩ := hrel
              have T4 := HT.out.below hbel
              by_cases hlt2 : i < N
              · rcases HLS.out.1 with h | ⟨b1, off, ha, hb, hcell⟩
                · exfalso; omega
                · rcases HLS.out.2 with h | ⟨b2, off', ha', hb', hcell'⟩
                  · exfalso; omega
                  · have hci : wq.cell? ⟨b1, off + i, none⟩ = some (.string (nth X i)) := by rw [← hcell i hlt2]; exact hbel.cell (by exact hb)
                    have hci' : wq.cell? ⟨b2, off' + i, none⟩ = some (.string (nth X i)) := by rw [← hcell' i hlt2]; exact hbel.cell (by exact hb')
                    have kt4 := (T4.ct hlt).1
                    rw [HQ2.out.2.1] at kt4
                    clear hcell hcell' T4
                    cases ha; cases ha'
                    generalize nth X i = x at *
                    go_wp2
                    go_quiet (fail)
                    go_wp2
                    go_roundw
                    case rel => exact ⟨i + 1, by omega, by go_num, below_drewN hbel _⟩
                    case measure => simp [intOf] <;> omega
              · obtain ⟨ks1, ks2⟩ := T4.cs hlt
                have T5 := T4.setS hlt (by omega)
                rw [upd_at] at T5
                have E : Hid (OrP V P C D (gk - 1) (k + 1) g0 (wq.setCell ⟨P + 1, k, none⟩ (.pointer (some ⟨S, 0, none⟩)))) := by
                  obtain ⟨a1, a2, a3, a4⟩ := HG.out
                  have := rnd2_ok (lost := lost) hlt HA.out
                  exact ⟨_, _, _, _, _, _, _, _, _, _, g + 1, T5, HQ2.out.1, a1, by omega, by omega, by omega⟩
                have hgk : 0 < gk := by
                  obtain ⟨a1, a2, a3, a4⟩ := HG.out
                  have := rnd2_ok (lost := lost) hlt HA.out
                  omega
                clear T4 T5 HQ2 HT HLS
                go_wp2
                go_roundg (gk - 1)
                case measure => omega
                case rel => exact ⟨k + 1, by omega, by go_num, E⟩
      · obtain ⟨d1, F1, G1, T, off, q, hq, hna⟩ := h1.out
        clear h1
        have kP1 := T.cp
        have OF := hid T.o.off
        rw [off] at OF
        have ON := hid (ton T)
        clear T off
        go_wp2_with fail
        refine OF.out.mono ?_
        rintro e w2 ⟨rfl, rfl⟩
        go_wp2_with fail
        refine ON.out.mono ?_
        clear ON OF
        rintro e w2 ⟨rfl, h2⟩
        obtain ⟨F2, G2, T⟩ := h2.out
        have kA := T.ca
        have AR := hid (arm T CV.out HG.out.1)
        have HQ := hid (And.intro q (And.intro hq hna))
        clear T h2 q hq hna kP1
        go_wp2_with fail
        refine AR.out.mono ?_
        clear AR
        rintro e w3 ⟨rfl, h3⟩
        have hgk : 0 < gk := by
          have := HG.out.2.1
          unfold rnd2 at this
          omega
        have E : Hid (OrP V P C D (gk - 1) 0 g0 w3) := by
          obtain ⟨lost', d', F', G', T, c⟩ := h3.out
          obtain ⟨q, hq, hna⟩ := HQ.out
          obtain ⟨a1, a2, a3, a4⟩ := HG.out
          rcases c with ⟨rfl, rfl⟩ | ⟨rfl, l8, ca, cn, cK, rfl⟩
          · have := rnd2_no (lost := lost') hlt hna hq
            exact ⟨_, _, _, _, _, _, _, _, _, _, g + 1, T.fewer 0 0 (Nat.zero_le _) (Nat.zero_le _) (Nat.le_refl _), q, a1, by omega, by omega, by omega⟩
          · have := rnd2_arm (lost := lost) (e := d1.on.cut ca cn cK) hlt hna l8
            exact ⟨_, _, _, _, _, _, _, _, _, _, g + 1, T.fewer 0 0 (Nat.zero_le _) (Nat.zero_le _) (Nat.le_refl _), q.cut ca cn cK, by omega, by omega, by omega, by omega⟩
        clear h3 HQ HG
        go_wp2
        go_roundg (gk - 1)
        case measure => omega
        case rel => exact ⟨0, by omega, rfl, E⟩
    · obtain rfl : k = 2 := by omega
      have E : Hid (OqP V P C D (g0 + 30) wr) := by
        obtain ⟨lost, d, s, L, m, F, G, SP, sv, v, g, T, q, hlo, hrn, hn29, hgg⟩ := hr.out
        exact ⟨lost, d, s, L, m, F, G, SP, sv, v, T, q.mono (by omega), hlo⟩
      clear hr
      go_wp2
      go_ret
      exact ⟨rfl, E⟩

end Go.Proofs.Ytaojoecmbgmhoaa.Wtp
