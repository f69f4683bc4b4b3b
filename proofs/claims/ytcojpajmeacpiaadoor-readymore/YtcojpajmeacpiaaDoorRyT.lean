/-
  The walk of the law ReadyWhole: it returns true, and nothing that was in memory has turned. Conditions: the masks and the picks are such as fit their kinds.
-/
import Derived.Test.YtcojpajmeacpiaaDoorRyS
namespace Go.Proofs.YtcojpajmeacpiaaDoor.Wry
open Go.ChangeShapes Go.WideShapes Go.ChangeAt Go.RowKit Go.Shelf Go.Proofs.YtcojpajmeacpiaaDoor.M

theorem u32_and_one (a : Nat) (ha : a < 4294967296) : bits .and .u32 (a : Int) 1 = ((a % 2 : Nat) : Int) := by
  show IntKind.u32.wrap ((BitVec.ofInt 32 (a : Int) &&& BitVec.ofInt 32 1).toNat : Int) = _
  rw [BitVec.toNat_and, ofInt_u32 a ha, show (BitVec.ofInt 32 1).toNat = 1 from rfl, Nat.and_one_is_mod, IntKind.wrap_u32]
  omega
theorem bit_one (P i : Nat) (hP : P < 4294967296) : (bits .and .u32 ((P : Int) / 2 ^ i) 1 == 1) = P.testBit i := by
  have e : ((P : Int) / 2 ^ i) = ((P / 2 ^ i : Nat) : Int) := by simp
  have hd : P / 2 ^ i ≤ P := Nat.div_le_self _ _
  rw [e, u32_and_one _ (by omega), Nat.testBit_eq_decide_div_mod_eq]
  by_cases h : P / 2 ^ i % 2 = 1
  · rw [h]; rfl
  · rw [decide_eq_false h, beq_eq_false_iff_ne]; omega
theorem bit_nil (P i : Nat) (hP : P < 4294967296) : (bits .and .u32 ((P : Int) / 2 ^ i) 1 == 0) = !P.testBit i := by
  have e : ((P : Int) / 2 ^ i) = ((P / 2 ^ i : Nat) : Int) := by simp
  have hd : P / 2 ^ i ≤ P := Nat.div_le_self _ _
  rw [e, u32_and_one _ (by omega), Nat.testBit_eq_decide_div_mod_eq]
  by_cases h : P / 2 ^ i % 2 = 1
  · rw [h]; rfl
  · rw [decide_eq_false h]
    have : P / 2 ^ i % 2 = 0 := by omega
    rw [this]; rfl

/-- Where the first loop stands: what is placed, and what is still to come. -/
def WhA (N : List Nat) (t P : Nat) : Prop := GR N P ∧ ∃ f, lft N P ≤ f ∧ (od N).drop t = ord N f P
theorem wh_start (N : List Nat) : WhA N 0 0 := ⟨.zero, nn N, lft_le N 0, rfl⟩
theorem wh_step {N : List Nat} {t P i : Nat} (h : WhA N t P) (hi : (od N)[t]? = some i) : isR N P.testBit i = true ∧ WhA N (t + 1) (P ||| 2 ^ i) := by
  obtain ⟨h1, f, h2, h3⟩ := h
  have hd : i :: (od N).drop (t + 1) = ord N f P := by
    rw [← h3]
    obtain ⟨hl, e⟩ := List.getElem?_eq_some_iff.1 hi
    rw [List.drop_eq_getElem_cons hl, e]
  obtain ⟨hr, f', hf, h4⟩ := ord_cons hd
  obtain ⟨q1, q2, _⟩ := isR_iff.1 hr
  have := lft_put q1 q2
  exact ⟨hr, .step h1 hr, f', by omega, h4⟩
theorem wh_end {N : List Nat} {P : Nat} (h : WhA N (od N).length P) : GR N P ∧ rdn N P = 0 := by
  obtain ⟨h1, f, h2, h3⟩ := h
  rw [List.drop_length] at h3
  exact ⟨h1, ord_nil h3 h2⟩
theorem isB_nat {N : List Nat} {k x : Nat} (h : IsB N (k : Int) x) (i : Nat) : x.testBit i = true ↔ Rea N k i := by
  rw [h.2 i, Int.toNat_natCast]
  exact ⟨fun q => q.2, fun q => ⟨Int.natCast_nonneg k, q⟩⟩
/-- Where the last loop stands. -/
def WhC (N : List Nat) (i D : Nat) : Prop := GR N D ∧ lft N D + i ≤ 32
theorem wc_start (N : List Nat) : WhC N 0 0 := ⟨.zero, by have := lft_le N 0; have := nn_le N; omega⟩
theorem wc_step {N : List Nat} {i D k : Nat} (h : WhC N i D) (hk : k ∈ bl (rdn N D)) : WhC N (i + 1) (D ||| 2 ^ k) := by
  have hr : isR N D.testBit k = true := by rw [← rdn_bit]; exact (mem_bl.1 hk).2
  obtain ⟨q1, q2, _⟩ := isR_iff.1 hr
  have := lft_put q1 q2
  have := h.2
  exact ⟨.step h.1 hr, by omega⟩
theorem wc_end {N : List Nat} {D : Nat} (h : WhC N 32 D) : rdn N D = 0 := rd_left (by have := h.2; omega)
theorem bl_nil {x : Nat} (hx : x < 4294967296) (h : bl x = []) : x = 0 := by
  apply Decidable.byContradiction
  intro hn
  have := (bl_step hx hn).2.2.2.1
  rw [h] at this
  cases this
/-- Where the middle loop stands. -/
def StkB (N : List Nat) (j k : Nat) (s : Bool) : Prop := s = true ↔ (Rea N j j ∨ ∃ k', k' < k ∧ Rea N k' k' ∧ Rea N k' j)
theorem sb_more {N : List Nat} {j k : Nat} (h : StkB N j k true) : StkB N j (k + 1) true := by
  refine ⟨fun _ => ?_, fun _ => rfl⟩
  rcases h.1 rfl with q | ⟨k', q1, q2⟩
  · exact .inl q
  · exact .inr ⟨k', by omega, q2⟩
theorem sb_next {N : List Nat} {j k : Nat} {b : Bool} (h : StkB N j k false) (hb : b = true ↔ (Rea N k k ∧ Rea N k j)) : StkB N j (k + 1) b := by
  have h' : ¬ (Rea N j j ∨ ∃ k', k' < k ∧ Rea N k' k' ∧ Rea N k' j) := fun q => by cases h.2 q
  refine ⟨fun e => .inr ⟨k, by omega, hb.1 e⟩, fun q => ?_⟩
  rcases q with q | ⟨k', q1, q2⟩
  · exact absurd (.inl q) h'
  · by_cases e : k' = k
    · rw [e] at q2; exact hb.2 q2
    · exact absurd (.inr ⟨k', by omega, q2⟩) h'
theorem sb_end {N : List Nat} {j m : Nat} {s : Bool} (h : StkB N j m s) (hm : nn N = m) : s = true ↔ Stk N j := by
  refine ⟨fun e => ?_, fun q => h.2 ?_⟩
  · rcases h.1 e with q | ⟨k, _, q⟩
    · exact .inl q
    · exact .inr ⟨k, q⟩
  · rcases q with q | ⟨k, q1, q2⟩
    · exact .inl q
    · exact .inr ⟨k, by rw [← hm]; exact q1.lt.1, q1, q2⟩

set_option maxRecDepth 100000 in
set_option maxHeartbeats 25600000 in
theorem wholes (a : Option Addr) (cap : Nat) (M : List Nat) (b : Option Addr) (cp : Nat) (L : List Int) (w : World) (hM : MOk M) (hcap : M.length ≤ cap) (_ : cap ≤ maxLen) (h : Ms w a M)
    (hLb : ∀ x ∈ L, -9223372036854775808 ≤ x ∧ x < 9223372036854775808) (_ : L.length ≤ cp) (_ : cp ≤ maxLen) (hL : Is w b L) (hT : Tab w) :
    Calls Tryd.prog 6 #[.slice a M.length cap, .slice b L.length cp] w fun e w' => e = .returned (.bool true) ∧ Below w.heap.size w w' := by
  have hT0 := hT.lt
  have hN := take_ok hM 32
  have HN0 := h.take 32
  have e1 := take_len M
  have hnn := take_nn M
  have hle : (M.take 32).length ≤ M.length := by rw [List.length_take]; omega
  generalize M.take 32 = N at *
  have hn32 := nn_le N
  rw [hnn] at hn32
  have CO := hid (order (cap := cap) HN0 hN hT)
  have hom := hid (od_mem (M := N))
  have hol := od_len N
  have HN := hid HN0
  have HT := hid hT
  have HL := hid hL
  have hLB := hid hLb
  have hmk := hid (fun i (hi : i < nn N) => mk_at hi)
  have hmlt := hid (fun i => mk_lt hN i)
  have hw0 := hid (wh_start N)
  have hws := hid (fun t P i (q : WhA N t P) (hi : (od N)[t]? = some i) => wh_step q hi)
  have hwe := hid (fun P (q : WhA N (od N).length P) => wh_end q)
  have hlt := hid (fun P (q : GR N P) => q.lt)
  have hisR := hid (fun (P i : Nat) (q : isR N P.testBit i = true) => isR_iff.1 q)
  have hwtk := hid (fun i (hi : i < nn N) k (hk : k < nn N) (q : k ∈ bl (mk N i)) => (show wt N i k = true from wt_iff.2 ⟨hi, hk, (mem_bl.1 q).2⟩))
  have hpi := hid (fun (P i : Nat) (q1 : GR N P) (q2 : rdn N P = 0) (q3 : i < nn N) => place_iff q1 q2 q3)
  have hsbe := hid (fun j m s (q : StkB N j m s) (hm : nn N = m) => sb_end q hm)
  have CB1 := hid (fun (W : World) (b : Below w.heap.size w W) (j : Nat) (hj : j < nn N) => behind (cap := cap) (HN0.below b) hN (hT.below hT0 b) hj)
  have CR1 := hid (fun (W : World) (b : Below w.heap.size w W) (D : Nat) (hD : D < 4294967296) => ready (cap := cap) (HN0.below b) hN hD (hT.below hT0 b))
  have CL1 := hid (fun (W : World) (b : Below w.heap.size w W) (x : Nat) (hx : x < 4294967296) => list hx (hT.below hT0 b))
  have CW1 := hid (fun (W : World) (b : Below w.heap.size w W) => wakes (hT.below hT0 b))
  have hsl := hid (fun j m s (q : StkB N j m s) (hm : nn N = m) => sb_end q hm)
  rw [hnn] at hom hmk hwtk hpi CB1 hsl
  clear hsbe
  obtain ⟨m, hm⟩ : ∃ m, m = N.length := ⟨_, rfl⟩
  have hnm := hid (show nn N = m by rw [hnn, hm])
  rw [← hm] at CO hom hmk hwtk hpi CB1 CR1 hn32 hle e1 hsl
  have hsl2 := hid (fun j s (q : StkB N j m s) => hsl.out j m s q (by rw [hm]))
  clear hsl hm hnn h hT hLb hL HN0
  generalize hod : od N = o at *
  clear hod
  go_enter Tryd.func6, Tryd.ntmps6
  go_wp2_with fail
  refine CO.out.mono ?_
  rintro e w1 ⟨v, rfl, own, b1⟩
  obtain ⟨ao, co, rfl, HO0⟩ := own_nI own
  rw [List.length_map]
  have HO := hid HO0
  have B1 := hid b1
  clear own HO0 b1 CO
  have CB := hid (fun (W : World) (b : Below w1.heap.size w1 W) => CB1.out W (B1.out.trans (b.mono B1.out.size)))
  have CR := hid (fun (W : World) (b : Below w1.heap.size w1 W) => CR1.out W (B1.out.trans (b.mono B1.out.size)))
  have CL := hid (fun (W : World) (b : Below w1.heap.size w1 W) => CL1.out W (B1.out.trans (b.mono B1.out.size)))
  have CW := hid (fun (W : World) (b : Below w1.heap.size w1 W) => CW1.out W (B1.out.trans (b.mono B1.out.size)))
  have HN1 := hid (HN.out.below B1.out)
  have HL1 := hid (HL.out.below B1.out)
  clear CB1 CR1 CL1 CW1 HN HL HT
  go_wp2_with fail
  go_loopw [5, 27] (fun pv tv wr => ∃ t P : Nat, t ≤ o.length ∧ tv = .int .i64 (t : Int) ∧ pv = .int .u32 (P : Int) ∧ Hid (WhA N t P) ∧ Below w1.heap.size w1 wr) (fun _ tv _ => o.length - (intOf tv).toNat)
  case atStart => exact ⟨0, 0, Nat.zero_le _, rfl, rfl, hw0, Below.refl _ _⟩
  case round =>
    obtain ⟨t, P, ht, rfl, rfl, hA, hb⟩ := hrel
    by_cases ct : t < o.length
    · obtain ⟨i, hi⟩ : ∃ i, o[t]? = some i := ⟨o[t], List.getElem?_eq_getElem ct⟩
      obtain ⟨go, oo, rfl, hgo, y0⟩ := (HO.out.below hb).at (i := t) (s := (i : Int)) (by rw [List.getElem?_map, hi]; rfl)
      have him := hom.out i (List.mem_of_getElem? hi)
      obtain ⟨hr, hA2⟩ := hws.out t P i hA.out hi
      have HA2 := hid hA2
      obtain ⟨_, r2, r3⟩ := hisR.out P i hr
      have R3 := hid r3
      have hP := hlt.out P hA.out.1
      obtain ⟨g, og, rfl, hg, x0⟩ := (HN1.out.below hb).at (hmk.out i him)
      have t0 : (bits .and .u32 ((P : Int) / 2 ^ i) 1 == 1) = false := by rw [bit_one P i hP, r2]
      have t1 : decide ((i : Int) < 0) = false := decide_eq_false (by omega)
      have t2 : decide ((m : Int) ≤ (i : Int)) = false := decide_eq_false (by omega)
      have t3 : decide (m ≤ i) = false := decide_eq_false (by omega)
      have hu := hid (u32_or_nat P (2 ^ i) hP (by have : 2 ^ i < 2 ^ 32 := Nat.pow_lt_pow_right (by decide) (show i < 32 by omega); omega))
      have hpw := hid (pow_u32 (show i < 32 by omega))
      have hbl := hid (fun k (hk : k < m) (q : k ∈ bl (mk N i)) => R3.out k (hwtk.out i him k hk q))
      obtain ⟨q, hq⟩ : ∃ q, Hid (mk N i = q) := ⟨_, hid rfl⟩
      rw [hq.out] at x0 hbl
      have CLq := hid (CL.out _ hb q (by rw [← hq.out]; exact hmlt.out i))
      clear hi hr hA2 r2 r3 R3
      go_wp2_with fail
      refine CLq.out.mono ?_
      rintro e w2 ⟨v, rfl, own, b2⟩
      obtain ⟨al', cl, rfl, HL0⟩ := own_nI own
      rw [List.length_map]
      have HLi := hid HL0
      have B2 := hid (hb.trans (b2.mono hb.size))
      clear own HL0 b2 CLq x0 y0 hb hg hgo
      obtain ⟨l, hl⟩ : ∃ l, Hid (bl q = l) := ⟨_, hid rfl⟩
      rw [hl.out] at HLi hbl ⊢
      have hl32 : l.length ≤ 32 := by
        have := List.length_filter_le (fun i => q.testBit i) (List.range 32)
        rw [List.length_range] at this
        rw [← hl.out]; exact this
      go_wp2_with fail
      obtain ⟨wo, hwo⟩ : ∃ wo, wo = w2 := ⟨_, rfl⟩
      rw [← hwo] at HLi B2 ⊢
      clear hwo
      go_loopw [52] (fun sv wr => ∃ s : Nat, s ≤ l.length ∧ sv = .int .i64 (s : Int) ∧ wr = wo) (fun sv _ => l.length - (intOf sv).toNat)
      case atStart => exact ⟨0, Nat.zero_le _, rfl, rfl⟩
      case round =>
        obtain ⟨s, hs, rfl, rfl⟩ := hrel
        by_cases cs : s < l.length
        · obtain ⟨k, hk⟩ : ∃ k, l[s]? = some k := ⟨l[s], List.getElem?_eq_getElem cs⟩
          obtain ⟨gl, ol, rfl, hgl, z0⟩ := HLi.out.at (i := s) (s := (k : Int)) (by rw [List.getElem?_map, hk]; rfl)
          have hkl := List.mem_of_getElem? hk
          have hk32 : k < 32 := by rw [← hl.out] at hkl; exact (mem_bl.1 hkl).1
          by_cases ck : k < m
          · have hPk := hbl.out k ck hkl
            have t4 : (bits .and .u32 ((P : Int) / 2 ^ k) 1 == 0) = false := by rw [bit_nil P k hP, hPk]; rfl
            have t5 : decide ((k : Int) < (m : Int)) = true := decide_eq_true (by omega)
            clear hk hkl hPk
            go_wp2_with fail
            go_roundw
            case rel => exact ⟨s + 1, cs, by go_num, by trivial⟩
            case measure => simp [intOf]; omega
          · have t5 : decide ((k : Int) < (m : Int)) = false := decide_eq_false (by omega)
            clear hk hkl
            go_wp2_with fail
            go_roundw
            case rel => exact ⟨s + 1, cs, by go_num, by trivial⟩
            case measure => simp [intOf]; omega
        · go_wp2_with fail
          go_roundw
          case rel => exact ⟨t + 1, P ||| 2 ^ i, ct, by go_num, by rw [← hu.out, ← hpw.out], HA2, B2.out⟩
          case measure => simp [intOf]; omega
    · obtain ⟨pg, pz⟩ := hwe.out P (by have := hA.out; rw [show t = o.length by omega] at this; exact this)
      have PG := hid pg
      have PZ := hid pz
      have hP := hlt.out P pg
      clear pg pz hA
      go_wp2_with fail
      go_loopw [75] (fun jv wr => ∃ j : Nat, j ≤ m ∧ jv = .int .i64 (j : Int) ∧ Below w1.heap.size w1 wr) (fun jv _ => m - (intOf jv).toNat)
      case atStart => exact ⟨0, Nat.zero_le _, rfl, hb⟩
      case round =>
        clear hb
        obtain ⟨j, hj, rfl, hb⟩ := hrel
        by_cases cj : j < m
        · have C0 := hid (CB.out _ hb j cj)
          go_wp2_with fail
          refine C0.out.mono ?_
          rintro e w2 ⟨⟨x, rfl, hx⟩, b2⟩
          have B2 := hid (hb.trans (b2.mono hb.size))
          have t0 := bit_one x j hx.1
          have hS0 : Hid (StkB N j 0 (x.testBit j)) := hid (by
            refine ⟨fun q => .inl ((isB_nat hx j).1 q), fun q => ?_⟩
            rcases q with q | ⟨k', q1, _⟩
            · exact (isB_nat hx j).2 q
            · omega)
          obtain ⟨s0, hs0⟩ : ∃ s0, x.testBit j = s0 := ⟨_, rfl⟩
          rw [hs0] at t0 hS0
          clear b2 hx C0 hs0 hb
          go_wp2_with fail
          clear t0
          go_loopw [12, 87] (fun sv kv wr => ∃ (k : Nat) (s : Bool), k ≤ m ∧ kv = .int .i64 (k : Int) ∧ sv = .bool s ∧ Hid (StkB N j k s) ∧ Below w1.heap.size w1 wr) (fun _ kv _ => m - (intOf kv).toNat)
          case atStart => exact ⟨0, s0, Nat.zero_le _, rfl, rfl, hS0, B2.out⟩
          case round =>
            clear hS0 B2
            obtain ⟨k, s, hk, rfl, rfl, hS, hb⟩ := hrel
            by_cases ck : k < m
            · rcases s with _ | _
              · have C0 := hid (CB.out _ hb k ck)
                go_wp2_with fail
                refine C0.out.mono ?_
                rintro e w3 ⟨⟨x, rfl, hx⟩, b3⟩
                have B3 := hid (hb.trans (b3.mono hb.size))
                have t0 := bit_one x k hx.1
                have HX := hid hx
                clear b3 hx C0 hb
                rcases e1 : x.testBit k with _ | _
                · rw [e1] at t0
                  have hS2 : Hid (StkB N j (k + 1) false) := hid (sb_next hS.out ⟨fun q => (by cases q), fun q => (by rw [(isB_nat HX.out k).2 q.1] at e1; cases e1)⟩)
                  clear e1 HX
                  go_wp2_with fail
                  go_roundw
                  case rel => exact ⟨k + 1, false, ck, by go_num, rfl, hS2, B3.out⟩
                  case measure => simp [intOf]; omega
                · rw [e1] at t0
                  have hkk := hid ((isB_nat HX.out k).1 e1)
                  have C1 := hid (CB.out _ B3.out k ck)
                  clear e1
                  go_wp2_with fail
                  refine C1.out.mono ?_
                  rintro e w4 ⟨⟨x', rfl, hx'⟩, b4⟩
                  obtain rfl := HX.out.one hx'
                  have B4 := hid (B3.out.trans (b4.mono B3.out.size))
                  have t1 := bit_one x j hx'.1
                  have hS2 : Hid (StkB N j (k + 1) (x.testBit j)) := hid (sb_next hS.out ⟨fun q => ⟨hkk.out, (isB_nat hx' j).1 q⟩, fun q => (isB_nat hx' j).2 q.2⟩)
                  obtain ⟨s1, hs1⟩ : ∃ s1, x.testBit j = s1 := ⟨_, rfl⟩
                  rw [hs1] at t1 hS2
                  clear b4 hx' C1 HX B3 hs1
                  go_wp2_with fail
                  go_roundw
                  case rel => exact ⟨k + 1, s1, ck, by go_num, rfl, hS2, B4.out⟩
                  case measure => simp [intOf]; omega
              · have hS2 := hid (sb_more hS.out)
                go_wp2_with fail
                go_roundw
                case rel => exact ⟨k + 1, true, ck, by go_num, rfl, hS2, hb⟩
                case measure => simp [intOf]; omega
            · have hE := hsl2.out j s (by have := hS.out; rw [show k = m by omega] at this; exact this)
              have hpj := hpi.out P j PG.out PZ.out cj
              have t0 := bit_one P j hP
              have hPs : P.testBit j = !s := by
                rcases s with _ | _
                · show P.testBit j = true
                  exact hpj.2 (fun q => by cases hE.2 q)
                · rcases e : P.testBit j with _ | _
                  · rfl
                  · exact absurd (hE.1 rfl) (hpj.1 e)
              rw [hPs] at t0
              clear hE hpj hPs hS
              rcases s with _ | _
              all_goals
                simp only [Bool.not_false, Bool.not_true] at t0
                go_wp2_with fail
                go_roundw
                case rel => exact ⟨j + 1, cj, by go_num, hb⟩
                case measure => simp [intOf]; omega
        · have hc0 := hid (wc_start N)
          go_wp2_with fail
          go_loopw [14, 15] (fun dv iv wr => ∃ i D : Nat, i ≤ 32 ∧ iv = .int .i64 (i : Int) ∧ dv = .int .u32 (D : Int) ∧ Hid (WhC N i D) ∧ Below w1.heap.size w1 wr) (fun _ iv _ => 32 - (intOf iv).toNat)
          case atStart => exact ⟨0, 0, by omega, rfl, rfl, hc0, hb⟩
          case round =>
            clear hc0 hb
            obtain ⟨i, D, hi, rfl, rfl, hC, hb⟩ := hrel
            by_cases ci : i < 32
            · have hD := hC.out.1.lt
              have C0 := hid (CR.out _ hb D hD)
              go_wp2_with fail
              refine C0.out.mono ?_
              rintro e w2 ⟨rfl, b2⟩
              have B2 := hid (hb.trans (b2.mono hb.size))
              have C1 := hid (CL.out _ B2.out (rdn N D) (rdn_lt N D))
              clear b2 C0 hb
              have hnil := hid (fun q => bl_nil (rdn_lt N D) q)
              have hstep := hid (fun k (q : k ∈ bl (rdn N D)) => wc_step hC.out q)
              have hin := hid (fun k (q : k ∈ bl (rdn N D)) => (mem_bl.1 q).1)
              obtain ⟨x, hx⟩ : ∃ x, Hid (rdn N D = x) := ⟨_, hid rfl⟩
              rw [hx.out] at C1 hnil hstep hin ⊢
              go_wp2_with fail
              refine C1.out.mono ?_
              rintro e w3 ⟨v, rfl, own, b3⟩
              obtain ⟨al', cl, rfl, HL0⟩ := own_nI own
              rw [List.length_map]
              have HLi := hid HL0
              have B3 := hid (B2.out.trans (b3.mono B2.out.size))
              clear own HL0 b3 C1 B2
              obtain ⟨l, hl⟩ : ∃ l, Hid (bl x = l) := ⟨_, hid rfl⟩
              rw [hl.out] at HLi hnil hstep hin ⊢
              have hl32 : l.length ≤ 32 := by
                have := List.length_filter_le (fun i => x.testBit i) (List.range 32)
                rw [List.length_range] at this
                rw [← hl.out]; exact this
              by_cases c0 : l = []
              · have hDP : D = P := GR.one hC.out.1 PG.out (by rw [hx.out]; exact hnil.out c0) PZ.out
                have tl : ((l.length : Int) == 0) = true := by rw [c0]; rfl
                subst hDP
                have C2 := hid (CW.out _ B3.out)
                clear c0 HLi
                go_wp2_with fail
                refine C2.out.mono ?_
                rintro e w4 ⟨rfl, b4⟩
                have B4 := hid (B1.out.trans ((B3.out.trans (b4.mono B3.out.size)).mono B1.out.size))
                clear b4 C2 B3
                go_wp2_with fail
                go_ret
                exact ⟨rfl, B4.out⟩
              · have hlp : 0 < l.length := List.length_pos_iff.2 c0
                have tl : ((l.length : Int) == 0) = false := by rw [beq_eq_false_iff_ne]; omega
                have tn : (l.length == 0) = false := by rw [beq_eq_false_iff_ne]; omega
                clear c0
                have fin : ∀ k : Nat, k < l.length → ∃ (c : Nat) (gl ol : Nat), l[k]? = some c ∧ al' = some ⟨gl, ol, none⟩ ∧ w3.cell? ⟨gl, ol + k, none⟩ = some (.int .i64 (c : Int)) ∧ c < 32 ∧ WhC N (i + 1) (D ||| 2 ^ c) ∧ bits .or .u32 (D : Int) ((2 : Int) ^ c % 4294967296) = ((D ||| 2 ^ c : Nat) : Int) := fun k hk => by
                  obtain ⟨c, hc⟩ : ∃ c, l[k]? = some c := ⟨l[k], List.getElem?_eq_getElem hk⟩
                  obtain ⟨gl, ol, h1, _, h2⟩ := HLi.out.at (i := k) (s := (c : Int)) (by rw [List.getElem?_map, hc]; rfl)
                  have hcl := List.mem_of_getElem? hc
                  have hc32 := hin.out c hcl
                  refine ⟨c, gl, ol, hc, h1, h2, hc32, hstep.out c hcl, ?_⟩
                  rw [pow_u32 hc32]
                  exact u32_or_nat D (2 ^ c) hD (by have : 2 ^ c < 2 ^ 32 := Nat.pow_lt_pow_right (by decide) hc32; omega)
                have FIN := hid fin
                clear fin
                by_cases cL : i < L.length
                · obtain ⟨pk, hpk⟩ : ∃ pk, L[i]? = some pk := ⟨L[i], List.getElem?_eq_getElem cL⟩
                  obtain ⟨gb, ob, rfl, hgb, u0⟩ := (HL1.out.below B3.out).at hpk
                  obtain ⟨q, hq⟩ : ∃ q : Nat, (max 0 pk).tmod (l.length : Int) = (q : Int) := Int.eq_ofNat_of_zero_le (Int.tmod_nonneg _ (by omega))
                  have hql : q < l.length := by
                    have := Int.tmod_lt_of_pos (max 0 pk) (show (0 : Int) < (l.length : Int) by omega)
                    omega
                  obtain ⟨c, gl, ol, _, rfl, z0, hc32, hC2, hor⟩ := FIN.out q hql
                  have HC2 := hid hC2
                  have hor' := hid hor
                  have hb2 := hid (hLB.out pk (List.mem_of_getElem? hpk))
                  clear hpk hC2 hor FIN
                  go_wp2_with fail
                  go_roundw
                  case rel => exact ⟨i + 1, D ||| 2 ^ c, ci, by go_num, by rw [hor'.out], HC2, B3.out⟩
                  case measure => simp [intOf]; omega
                · obtain ⟨c, gl, ol, _, rfl, z0, hc32, hC2, hor⟩ := FIN.out 0 hlp
                  have HC2 := hid hC2
                  have hor' := hid hor
                  rw [Nat.add_zero] at z0
                  clear hC2 hor FIN
                  go_wp2_with fail
                  go_roundw
                  case rel => exact ⟨i + 1, D ||| 2 ^ c, ci, by go_num, by rw [hor'.out], HC2, B3.out⟩
                  case measure => simp [intOf]; omega
            · obtain rfl : i = 32 := by omega
              have hDP : D = P := GR.one hC.out.1 PG.out (wc_end hC.out) PZ.out
              subst hDP
              have C2 := hid (CW.out _ hb)
              go_wp2_with fail
              refine C2.out.mono ?_
              rintro e w4 ⟨rfl, b4⟩
              have B4 := hid (B1.out.trans ((hb.trans (b4.mono hb.size)).mono B1.out.size))
              clear b4 C2 hb
              go_wp2_with fail
              go_ret
              exact ⟨rfl, B4.out⟩

end Go.Proofs.YtcojpajmeacpiaaDoor.Wry
