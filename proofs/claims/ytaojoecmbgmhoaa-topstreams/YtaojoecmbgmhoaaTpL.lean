/-
  The walk of the law TopStreams: two streams in two regions of one disk, whose power fails again and again: it returns true, and nothing that was in memory has turned. Conditions: none but that the arguments lie in memory as such do.
-/
import Derived.Test.YtaojoecmbgmhoaaTpC
import Derived.Laws.EntriesVeiled
namespace Go.Proofs.Ytaojoecmbgmhoaa.Wtp
open Go.ChangeShapes Go.WideShapes Go.ChangeAt Go.RowKit Go.Proofs.Ytaojoecmbgmhoaa.M Go.Proofs.Ytaojoecmbgmhoaa.Wd Go.Proofs.Ytaojoecmbgmhoaa.Wst

/-- A round of the law begins: j records have been asked for. -/
def LpP (V : World) (P C D j : Nat) (w' : World) : Prop :=
  ∃ lost d s L m F G SP sv v g, Tp V w' P C D 2 2 lost d s L m F G SP sv v ∧ Pq 2 d s L m g ∧ lost ≤ 8 ∧ g ≤ 30 * ((j : Int) + 1)

set_option maxRecDepth 100000 in
set_option maxHeartbeats 8000000 in
theorem law (p1 : Option Addr) (n1 c1 : Nat) (A1 : Nat → Wls.Pu) (p2 : Option Addr) (n2 c2 : Nat) (A2 : Nat → Wls.Cu) (w : World) (hc1 : n1 ≤ c1) (_ : c1 ≤ maxLen) (hP : Wls.Pus w p1 n1 A1) (hc2 : n2 ≤ c2) (hc2' : c2 ≤ maxLen) (hC : Wls.Cus w p2 n2 A2) :
    Calls Try.prog 3 #[.slice p1 n1 c1, .slice p2 n2 c2] w fun e w' => e = .returned (.bool true) ∧ Below w.heap.size w w' := by
  obtain ⟨i0, hi0, hz0, hz1, hz2⟩ := info_parts infoS
  obtain ⟨V, hV⟩ : ∃ V, V = w.alloc (.cells #[.slice p2 n2 c2] 23) := ⟨_, rfl⟩
  have bV : Below w.heap.size w V := by rw [hV]; exact (Below.refl _ _).alloc (Nat.le_refl _) _
  have cv : Cv V w.heap.size p2 n2 c2 A2 := by
    refine ⟨by rw [hV]; exact heap_alloc_last w _, ⟨hC.1, hC.2.imp id fun ⟨b, o, h1, h2, h3⟩ => ⟨b, o, h1, Nat.lt_of_lt_of_le h2 bV.size, fun i hi t x hx => (bV.cell (p := ⟨b, o + i * 3 + t, none⟩) h2).trans (h3 i hi t x hx)⟩⟩, hc2, hc2'⟩
  have k1' : min (n1 : Int) 40 = ((min n1 40 : Nat) : Int) := by omega
  obtain ⟨kk, hkk⟩ : ∃ k, k = min n1 40 := ⟨_, rfl⟩
  have hkk1 : kk ≤ 40 := by omega
  have hkk2 : kk ≤ n1 := by omega
  rw [← hkk] at k1'
  clear hkk
  have CV := hid cv
  have BV := hid bV
  have HP := hid hP
  have HV := hid hV
  have C0 := hid (streams V)
  have CN : Hid (∀ W1 : World, Below V.heap.size V W1 → Calls Try.prog 5 #[.slice (some ⟨W1.heap.size, 0, none⟩) 2 2] (W1.alloc (.cells #[.int .i64 61, .int .i64 61] 3)) fun e w' => e = .returned (.pointer (some ⟨W1.heap.size + 1, 0, none⟩)) ∧ Hid (∃ F, One V w' (W1.heap.size + 1) (newD (fun _ => 61) 2) F)) := fun W1 b => newTwo b
  clear cv bV hP hC hc2 hc2' hV
  go_enter Try.func3, Try.ntmps3
  go_wp2_with fail
  rw [← HV.out]
  refine C0.out.mono ?_
  clear C0
  rintro e w1 ⟨rfl, b1⟩
  have N1 := hid (CN.out w1 b1)
  clear CN b1
  go_wp2_with fail
  refine N1.out.mono ?_
  clear N1
  rintro e w2 ⟨rfl, h2⟩
  have T0 : Hid (∃ F, Tp V ((((((w2.alloc (.cells #[.pointer (some ⟨w1.heap.size + 1, 0, none⟩)] 25)).alloc (.cells #[.pointer none, .pointer none] 28)).alloc (.cells #[.slice none 0 0, .slice none 0 0] 30)).alloc (.cells #[.string ⟨#[]⟩, .string ⟨#[]⟩] 31)).alloc (.cells #[.int .i64 0] 3)).alloc (.cells #[.func (.func 6) #[] #[.pointer (some ⟨w2.heap.size + 4, 0, none⟩), .pointer (some ⟨w.heap.size, 0, none⟩), .pointer (some ⟨w2.heap.size, 0, none⟩)]] 1)) w2.heap.size w.heap.size (w1.heap.size + 1) 0 0 0 (newD (fun _ => 61) 2) (fun _ => ⟨0, 0, 0, 0, [], false⟩) (fun _ => []) (fun _ => ⟨#[]⟩) F (fun b => F b ∨ (w2.heap.size ≤ b ∧ b < w2.heap.size + 6)) (fun _ => 0) (fun _ => .pointer none) (fun _ => .slice none 0 0)) := by
    obtain ⟨F, o⟩ := h2.out
    exact ⟨F, tp_start o⟩
  have O1 : Hid (∀ F, Tp V ((((((w2.alloc (.cells #[.pointer (some ⟨w1.heap.size + 1, 0, none⟩)] 25)).alloc (.cells #[.pointer none, .pointer none] 28)).alloc (.cells #[.slice none 0 0, .slice none 0 0] 30)).alloc (.cells #[.string ⟨#[]⟩, .string ⟨#[]⟩] 31)).alloc (.cells #[.int .i64 0] 3)).alloc (.cells #[.func (.func 6) #[] #[.pointer (some ⟨w2.heap.size + 4, 0, none⟩), .pointer (some ⟨w.heap.size, 0, none⟩), .pointer (some ⟨w2.heap.size, 0, none⟩)]] 1)) w2.heap.size w.heap.size (w1.heap.size + 1) 0 0 0 (newD (fun _ => 61) 2) (fun _ => ⟨0, 0, 0, 0, [], false⟩) (fun _ => []) (fun _ => ⟨#[]⟩) F (fun b => F b ∨ (w2.heap.size ≤ b ∧ b < w2.heap.size + 6)) (fun _ => 0) (fun _ => .pointer none) (fun _ => .slice none 0 0) → _) := fun F T => topen2 T pq_new (Nat.zero_le _) (by omega) CV.out
  clear h2
  go_wp2_with fail
  obtain ⟨F0, T0⟩ := T0.out
  refine (O1.out F0 T0).mono ?_
  rintro e w3 ⟨rfl, h3⟩
  clear O1 T0
  simp only [Nat.add_assoc, Nat.reduceAdd]
  generalize w2.heap.size = P at *
  generalize w1.heap.size + 1 = D at *
  obtain ⟨lost, d, s, L, m, F, G, SP, sv, v, T, q, hlo⟩ := h3.out
  have kA := T.ca
  have AR := hid (arm T CV.out hlo)
  have HQ := hid (And.intro q hlo)
  clear h3 T q hlo
  go_wp2_with fail
  refine AR.out.mono ?_
  clear AR
  rintro e w4 ⟨rfl, h4⟩
  have START : Hid (LpP V P w.heap.size D 0 w4) := by
    obtain ⟨lost', d', F', G', T, c⟩ := h4.out
    obtain ⟨q, hlo⟩ := HQ.out
    rcases c with ⟨rfl, rfl⟩ | ⟨rfl, l8, ca, cn, cK, rfl⟩
    · exact ⟨_, _, _, _, _, _, _, _, _, _, 0 + 30, T, q, hlo, by omega⟩
    · exact ⟨_, _, _, _, _, _, _, _, _, _, 0 + 30, T, q.cut ca cn cK, by omega, by omega⟩
  clear h4 HQ kA
  go_wp2_with fail
  go_loopw [34] (fun jv wr => ∃ j : Nat, j ≤ kk ∧ jv = .int .i64 (j : Int) ∧ Hid (LpP V P w.heap.size D j wr)) (fun jv _ => kk - (intOf jv).toNat)
  case atStart => exact ⟨0, Nat.zero_le _, rfl, START⟩
  case round =>
    clear START
    obtain ⟨j, hj, rfl, hr⟩ := hrel
    obtain ⟨lost, d, s, L, m, F, G, SP, sv, v, g, T, q, hlo, hg⟩ := hr.out
    have bw : Below w.heap.size w wr := BV.out.trans (T.o.bel.mono BV.out.size)
    by_cases hlt : j < kk
    · rcases HP.out.2 with hz | ⟨b, o, ha, hb, hcell⟩
      · exfalso; omega
      · have ok : (A1 j).b.size ≤ maxLen := HP.out.1 j (by omega)
        have hc := hcell j (by omega)
        have k0 : wr.cell? ⟨b, o + j * 2, none⟩ = some (.bool (A1 j).s) := (bw.cell (p := ⟨b, o + j * 2, none⟩) hb).trans (hc 0 _ rfl)
        have k1 : wr.cell? ⟨b, o + j * 2 + 1, none⟩ = some (.string (A1 j).b) := (bw.cell (p := ⟨b, o + j * 2 + 1, none⟩) hb).trans (hc 1 _ rfl)
        clear hcell hc bw hr
        subst ha
        generalize (A1 j).s = sec at k0
        generalize (A1 j).b = Y0 at k1 ok
        unfold maxLen at ok
        have hmin : min (Y0.size : Int) 200 = ((min Y0.size 200 : Nat) : Int) := by omega
        have hsl := War.cutL Y0 (Y0.extract 0 (min Y0.size 200)) _ _ rfl (Nat.min_le_left _ _) rfl
        have hBz : (Y0.extract 0 (min Y0.size 200)).size ≤ 200 := by rw [ByteArray.size_extract]; omega
        generalize Y0.extract 0 (min Y0.size 200) = B at hsl hBz
        generalize min Y0.size 200 = M at hmin hsl
        have hPl := T.lt
        have hP1 : P + 1 < wr.heap.size := by omega
        have HG := hid (And.intro hlo hg)
        rcases sec with _ | _
        · have kS := (T.cs (k := 0) (by omega)).1
          rw [T.sp 0 (by omega)] at kS
          have CA := hid (fun (W' : World) (bw : Below wr.heap.size wr W') => tapp (T.below bw) q (k := 0) (by omega) B hBz)
          have TT := hid T
          have QQ := hid q
          clear T q hlo hg
          go_wp2_with fail
          refine (CA.out _ ((Below.refl _ _).alloc (Nat.le_refl _) _)).mono ?_
          clear CA
          rintro e w5 (⟨rfl, h5⟩ | ⟨rfl, cb, h5⟩ | ⟨rfl, cb, cl, h5⟩ | ⟨rfl, h5⟩)
          · clear TT
            obtain ⟨d5, s5, F5, G5, T5, q5⟩ := h5.out
            obtain ⟨pa, ca, hv, hca, hca2, lia⟩ := (T5.r 0 (by omega)).lies
            have kt := (T5.ct (k := 0) (by omega)).1
            rw [hv] at kt
            have hown := (T5.r 0 (by omega)).own
            rw [hv] at hown
            have hlen : (L 0).length ≤ 1650 := by
              obtain ⟨X, r, hX⟩ := QQ.out.rest 0 (by omega)
              have h1 := r.len
              rcases hX with rfl | ⟨_, rfl⟩
              · exact h1
              · rw [List.length_append] at h1
                omega
            have hbase := T5.size
            have HVV := hid hv
            obtain ⟨l0, hll⟩ : ∃ l0, (L 0).length = l0 := ⟨_, rfl⟩
            have HLL := hid hll
            rw [hll] at kt hown hlen
            have H5 := hid (And.intro T5 q5)
            clear T5 q5 h5 hll hv lia hca hca2
            go_wp2_with (at_builtin; refine wpList_append_lies _ rfl _ _ 29 rfl V.heap.size 9 i0 (.string ⟨#[]⟩) 1 16 Try.underlying29 hi0 hz0 hz1 hz2 rfl (by decide) _ _ _ rfl (hown.alloc _) ⟨w5.heap.size, 0, none⟩ 1 1 [.string B] rfl rfl ?c1 ?c2 ?c6 ?c3 ?c4 ?c5 (w5.heap.size + 1) ?c7 ?_)
            case c1 =>
              intro j u hj
              match j, hj with
              | 0, hj => simp at hj; subst hj; simp [Addr.add]
            case c2 => intro u hu; simp at hu; subst hu; rfl
            case c3 => unfold maxLen; omega
            case c4 => omega
            case c5 => simp; omega
            case c6 => omega
            case c7 => simp
            · intro gb cg w6 own6 gr6 hg6 _
              obtain ⟨⟨x1, x2⟩, T6⟩ := H5.out.1.grow (k := 0) (by omega) (x := B) (by rw [HLL.out]; exact own6) (by rw [HVV.out, HLL.out]; exact gr6) (by rw [HVV.out, HLL.out]; exact hg6)
              rw [HVV.out, HLL.out] at x1
              rw [HLL.out] at T6
              have E : Hid (LpP V P w.heap.size D (j + 1) (w6.setCell ⟨P + 2, 0, none⟩ (.slice (some ⟨gb, 0, none⟩) (l0 + 1) cg))) := by
                obtain ⟨a1, a2⟩ := HG.out
                exact ⟨_, _, _, _, _, _, _, _, _, _, g, T6, H5.out.2, a1, by omega⟩
              clear own6 gr6 hg6 T6 H5 HLL HVV HG QQ
              go_wp2
              go_roundw
              case rel => exact ⟨j + 1, by omega, by go_num, E⟩
              case measure => simp [intOf] <;> omega
          · clear TT
            have em := empty_of cb
            have E : Hid (LpP V P w.heap.size D (j + 1) w5) := by
              obtain ⟨F5, G5, T5⟩ := h5.out
              obtain ⟨a1, a2⟩ := HG.out
              exact ⟨_, _, _, _, _, _, _, _, _, _, g, T5, QQ.out, a1, by omega⟩
            clear h5 HG QQ cb
            go_wp2
            go_roundw
            case rel => exact ⟨j + 1, by omega, by go_num, E⟩
            case measure => simp [intOf] <;> omega
          · clear TT
            have fm := Wf.full_of cb
            obtain ⟨F5, G5, T5⟩ := h5.out
            have kS5 := (T5.cs (k := 0) (by omega)).1
            rw [T5.sp 0 (by omega)] at kS5
            have CL := hid (tleft T5 QQ.out (k := 0) (by omega))
            generalize (s 0).left = lf at cl CL
            clear T5 h5 cb
            go_wp2_with fail
            refine CL.out.mono ?_
            clear CL
            rintro e w6 ⟨rfl, h6⟩
            have E : Hid (LpP V P w.heap.size D (j + 1) w6) := by
              obtain ⟨F6, G6, T6⟩ := h6.out
              obtain ⟨a1, a2⟩ := HG.out
              exact ⟨_, _, _, _, _, _, _, _, _, _, g, T6, QQ.out, a1, by omega⟩
            clear h6 HG QQ
            go_wp2
            go_roundw
            case rel => exact ⟨j + 1, by omega, by go_num, E⟩
            case measure => simp [intOf] <;> omega
          · clear TT
            obtain ⟨d5, s5, F5, G5, T5, q5⟩ := h5.out
            obtain ⟨km1, km2⟩ := T5.cm (k := 0) (by omega)
            have T6 := T5.setM (k := 0) (by omega) B
            have kP6 := T6.cp
            have kP5 := T5.cp
            have ON := hid (ton T6)
            have HQ := hid q5
            clear T5 T6 h5 q5 QQ
            go_wp2_with fail
            refine ON.out.mono ?_
            clear ON
            rintro e w7 ⟨rfl, h7⟩
            obtain ⟨F7, G7, T7⟩ := h7.out
            have kA := T7.ca
            have AR := hid (arm T7 CV.out HG.out.1)
            clear T7 h7 kP6 km1 km2 kP5
            go_wp2_with fail
            refine AR.out.mono ?_
            clear AR
            rintro e w8 ⟨rfl, h8⟩
            have OP : Hid (Calls Try.prog 8 #[.pointer (some ⟨P, 0, none⟩), .pointer (some ⟨P + 5, 0, none⟩), .pointer (some ⟨P + 3, 0, none⟩), .pointer (some ⟨P + 2, 0, none⟩), .pointer (some ⟨P + 1, 0, none⟩)] w8 fun e w' => e = .returned (.bool true) ∧ Hid (OqP V P w.heap.size D (g + 30) w')) := by
              obtain ⟨lost', d', F', G', T, c⟩ := h8.out
              obtain ⟨a1, a2⟩ := HG.out
              rcases c with ⟨rfl, rfl⟩ | ⟨rfl, l8, ca, cn, cK, rfl⟩
              · exact topen2 T HQ.out a1 (by omega) CV.out
              · exact topen2 T (HQ.out.cut ca cn cK) (by omega) (by omega) CV.out
            clear h8 HQ kA
            go_wp2_with fail
            refine OP.out.mono ?_
            clear OP
            rintro e w9 ⟨rfl, h9⟩
            have E : Hid (LpP V P w.heap.size D (j + 1) w9) := by
              obtain ⟨lost', d', s', L', m', F', G', SP', sv', v', T, q, hlo⟩ := h9.out
              obtain ⟨a1, a2⟩ := HG.out
              exact ⟨_, _, _, _, _, _, _, _, _, _, g + 30, T, q, hlo, by omega⟩
            clear h9 HG
            go_wp2
            go_roundw
            case rel => exact ⟨j + 1, by omega, by go_num, E⟩
            case measure => simp [intOf] <;> omega
        · have kS := (T.cs (k := 1) (by omega)).1
          rw [T.sp 1 (by omega)] at kS
          have CA := hid (fun (W' : World) (bw : Below wr.heap.size wr W') => tapp (T.below bw) q (k := 1) (by omega) B hBz)
          have TT := hid T
          have QQ := hid q
          clear T q hlo hg
          go_wp2_with fail
          refine (CA.out _ ((Below.refl _ _).alloc (Nat.le_refl _) _)).mono ?_
          clear CA
          rintro e w5 (⟨rfl, h5⟩ | ⟨rfl, cb, h5⟩ | ⟨rfl, cb, cl, h5⟩ | ⟨rfl, h5⟩)
          · clear TT
            obtain ⟨d5, s5, F5, G5, T5, q5⟩ := h5.out
            obtain ⟨pa, ca, hv, hca, hca2, lia⟩ := (T5.r 1 (by omega)).lies
            have kt := (T5.ct (k := 1) (by omega)).1
            rw [hv] at kt
            have hown := (T5.r 1 (by omega)).own
            rw [hv] at hown
            have hlen : (L 1).length ≤ 1650 := by
              obtain ⟨X, r, hX⟩ := QQ.out.rest 1 (by omega)
              have h1 := r.len
              rcases hX with rfl | ⟨_, rfl⟩
              · exact h1
              · rw [List.length_append] at h1
                omega
            have hbase := T5.size
            have HVV := hid hv
            obtain ⟨l0, hll⟩ : ∃ l0, (L 1).length = l0 := ⟨_, rfl⟩
            have HLL := hid hll
            rw [hll] at kt hown hlen
            have H5 := hid (And.intro T5 q5)
            clear T5 q5 h5 hll hv lia hca hca2
            go_wp2_with (at_builtin; refine wpList_append_lies _ rfl _ _ 29 rfl V.heap.size 9 i0 (.string ⟨#[]⟩) 1 16 Try.underlying29 hi0 hz0 hz1 hz2 rfl (by decide) _ _ _ rfl (hown.alloc _) ⟨w5.heap.size, 0, none⟩ 1 1 [.string B] rfl rfl ?c1 ?c2 ?c6 ?c3 ?c4 ?c5 (w5.heap.size + 1) ?c7 ?_)
            case c1 =>
              intro j u hj
              match j, hj with
              | 0, hj => simp at hj; subst hj; simp [Addr.add]
            case c2 => intro u hu; simp at hu; subst hu; rfl
            case c3 => unfold maxLen; omega
            case c4 => omega
            case c5 => simp; omega
            case c6 => omega
            case c7 => simp
            · intro gb cg w6 own6 gr6 hg6 _
              obtain ⟨⟨x1, x2⟩, T6⟩ := H5.out.1.grow (k := 1) (by omega) (x := B) (by rw [HLL.out]; exact own6) (by rw [HVV.out, HLL.out]; exact gr6) (by rw [HVV.out, HLL.out]; exact hg6)
              rw [HVV.out, HLL.out] at x1
              rw [HLL.out] at T6
              have E : Hid (LpP V P w.heap.size D (j + 1) (w6.setCell ⟨P + 2, 1, none⟩ (.slice (some ⟨gb, 0, none⟩) (l0 + 1) cg))) := by
                obtain ⟨a1, a2⟩ := HG.out
                exact ⟨_, _, _, _, _, _, _, _, _, _, g, T6, H5.out.2, a1, by omega⟩
              clear own6 gr6 hg6 T6 H5 HLL HVV HG QQ
              go_wp2
              go_roundw
              case rel => exact ⟨j + 1, by omega, by go_num, E⟩
              case measure => simp [intOf] <;> omega
          · clear TT
            have em := empty_of cb
            have E : Hid (LpP V P w.heap.size D (j + 1) w5) := by
              obtain ⟨F5, G5, T5⟩ := h5.out
              obtain ⟨a1, a2⟩ := HG.out
              exact ⟨_, _, _, _, _, _, _, _, _, _, g, T5, QQ.out, a1, by omega⟩
            clear h5 HG QQ cb
            go_wp2
            go_roundw
            case rel => exact ⟨j + 1, by omega, by go_num, E⟩
            case measure => simp [intOf] <;> omega
          · clear TT
            have fm := Wf.full_of cb
            obtain ⟨F5, G5, T5⟩ := h5.out
            have kS5 := (T5.cs (k := 1) (by omega)).1
            rw [T5.sp 1 (by omega)] at kS5
            have CL := hid (tleft T5 QQ.out (k := 1) (by omega))
            generalize (s 1).left = lf at cl CL
            clear T5 h5 cb
            go_wp2_with fail
            refine CL.out.mono ?_
            clear CL
            rintro e w6 ⟨rfl, h6⟩
            have E : Hid (LpP V P w.heap.size D (j + 1) w6) := by
              obtain ⟨F6, G6, T6⟩ := h6.out
              obtain ⟨a1, a2⟩ := HG.out
              exact ⟨_, _, _, _, _, _, _, _, _, _, g, T6, QQ.out, a1, by omega⟩
            clear h6 HG QQ
            go_wp2
            go_roundw
            case rel => exact ⟨j + 1, by omega, by go_num, E⟩
            case measure => simp [intOf] <;> omega
          · clear TT
            obtain ⟨d5, s5, F5, G5, T5, q5⟩ := h5.out
            obtain ⟨km1, km2⟩ := T5.cm (k := 1) (by omega)
            have T6 := T5.setM (k := 1) (by omega) B
            have kP6 := T6.cp
            have kP5 := T5.cp
            have ON := hid (ton T6)
            have HQ := hid q5
            clear T5 T6 h5 q5 QQ
            go_wp2_with fail
            refine ON.out.mono ?_
            clear ON
            rintro e w7 ⟨rfl, h7⟩
            obtain ⟨F7, G7, T7⟩ := h7.out
            have kA := T7.ca
            have AR := hid (arm T7 CV.out HG.out.1)
            clear T7 h7 kP6 km1 km2 kP5
            go_wp2_with fail
            refine AR.out.mono ?_
            clear AR
            rintro e w8 ⟨rfl, h8⟩
            have OP : Hid (Calls Try.prog 8 #[.pointer (some ⟨P, 0, none⟩), .pointer (some ⟨P + 5, 0, none⟩), .pointer (some ⟨P + 3, 0, none⟩), .pointer (some ⟨P + 2, 0, none⟩), .pointer (some ⟨P + 1, 0, none⟩)] w8 fun e w' => e = .returned (.bool true) ∧ Hid (OqP V P w.heap.size D (g + 30) w')) := by
              obtain ⟨lost', d', F', G', T, c⟩ := h8.out
              obtain ⟨a1, a2⟩ := HG.out
              rcases c with ⟨rfl, rfl⟩ | ⟨rfl, l8, ca, cn, cK, rfl⟩
              · exact topen2 T HQ.out a1 (by omega) CV.out
              · exact topen2 T (HQ.out.cut ca cn cK) (by omega) (by omega) CV.out
            clear h8 HQ kA
            go_wp2_with fail
            refine OP.out.mono ?_
            clear OP
            rintro e w9 ⟨rfl, h9⟩
            have E : Hid (LpP V P w.heap.size D (j + 1) w9) := by
              obtain ⟨lost', d', s', L', m', F', G', SP', sv', v', T, q, hlo⟩ := h9.out
              obtain ⟨a1, a2⟩ := HG.out
              exact ⟨_, _, _, _, _, _, _, _, _, _, g + 30, T, q, hlo, by omega⟩
            clear h9 HG
            go_wp2
            go_roundw
            case rel => exact ⟨j + 1, by omega, by go_num, E⟩
            case measure => simp [intOf] <;> omega
    · obtain rfl : j = kk := by omega
      have kP := T.cp
      have ON := hid (ton T)
      have HQ := hid (And.intro q (And.intro hlo hg))
      clear T q hlo hg hr bw
      go_wp2_with fail
      refine ON.out.mono ?_
      clear ON
      rintro e w7 ⟨rfl, h7⟩
      obtain ⟨F7, G7, T7⟩ := h7.out
      have OP := hid (topen2 T7 (HQ.out.1.pon.empty 0 (Nat.zero_le _)) HQ.out.2.1 (by have := HQ.out.2.2; omega) CV.out)
      clear T7 h7 HQ
      go_wp2_with fail
      refine OP.out.mono ?_
      clear OP
      rintro e w9 ⟨rfl, h9⟩
      obtain ⟨_, _, _, _, _, _, _, _, _, _, T9, _, _⟩ := h9.out
      have B9 := hid (BV.out.trans (T9.o.bel.mono BV.out.size))
      clear T9 h9
      go_wp2
      go_ret
      exact ⟨rfl, B9.out⟩

end Go.Proofs.Ytaojoecmbgmhoaa.Wtp
