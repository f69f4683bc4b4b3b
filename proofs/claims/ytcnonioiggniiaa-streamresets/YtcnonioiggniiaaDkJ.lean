/-
  The walks of the disk's fails, Write and Flush.
-/
import Derived.Test.YtcnonioiggniiaaDkI
namespace Go.Proofs.Ytcnonioiggniiaa.Wd
open Go.ChangeShapes Go.WideShapes Go.ChangeAt Go.RowKit Go.Proofs.Ytcnonioiggniiaa.M

theorem now_none {d : Dk} {a : Nat} (h : d.ask = none) : d.now a = false ∧ d.cnt a = d := by unfold Dk.now Dk.cnt; rw [h]; exact ⟨rfl, rfl⟩
theorem now_some {d : Dk} {a b l : Nat} {K : List Int} (h : d.ask = some (b, l, K)) : d.now a = decide (b = a ∧ l = 1) ∧ d.cnt a = if b = a then (if l = 1 then { d.lose K with off := true, ask := none } else { d with ask := some (b, l - 1, K) }) else d := by unfold Dk.now Dk.cnt; rw [h]; exact ⟨rfl, rfl⟩

/-- How many calls are left, stored. -/
theorem DkL.left {w : World} {D : Nat} {d : Dk} {F : Nat → Prop} {L : Ly} (h : DkL w D d F L) {b l m : Nat} {K : List Int} (ha : d.ask = some (b, l, K)) (hm : m ≤ l) :
    DkL (w.setCell ⟨D, 3, none⟩ (.int .i64 (m : Int))) D { d with ask := some (b, m, K) } F L ∧ Kept F w (w.setCell ⟨D, 3, none⟩ (.int .i64 (m : Int))) ∧ Nums w (w.setCell ⟨D, 3, none⟩ (.int .i64 (m : Int))) ∧ (w.setCell ⟨D, 3, none⟩ (.int .i64 (m : Int))).heap.size = w.heap.size := by
  have hok := h.ok.ask b l K ha
  have e1 := setD_cell (j := 3) (v := .int .i64 (m : Int)) h.dk
  have hkr := h.kr
  rw [ha] at e1 hkr
  refine ⟨?_, Kept.setCell (Kept.refl _ _) h.ownD _, Nums.setCell h.dk (by decide) _, setD_size⟩
  have := h.setD (off := d.off) (ask := some (b, m, K)) (ka := L.ka) (kc := L.kc) e1 (fun k hk _ => setD_other hk) (fun _ hb => hb) (fun k hk => by rw [setD_size]; exact h.lt k hk) (hkr.kept (fun b' cs fr hb _ => Nums.setCell h.dk (by decide) _ b' cs fr hb) fun _ hb => hb) (fun a' l' K' e => by
    simp at e
    obtain ⟨rfl, rfl, rfl⟩ := e
    exact ⟨hok.1, by omega, hok.2.2⟩)
  exact this

set_option maxRecDepth 100000 in
theorem fails {w : World} {D : Nat} {d : Dk} {F : Nat → Prop} {L : Ly} (h : DkL w D d F L) (hq : ∀ j, j < d.k → (d.r j).q.length ≤ 1048576) (a : Nat) :
    Calls Try.prog 76 #[dp D, .int .i64 (a : Int)] w fun e w' => e = .returned (.bool (d.now a)) ∧ ((d.now a = false → w'.heap.size = w.heap.size ∧ DkL w' D (d.cnt a) F L) ∧ (∃ L', DkL w' D (d.cnt a) (Gr F w w') L')) ∧ Kept F w w' ∧ Nums w w' := by
  obtain ⟨c1, c2, c3, c4, c5, c6⟩ := h.cD
  clear c1 c2
  unfold dp
  have SAME : ∀ {W : World} {d' : Dk}, DkL W D d' F L → W.heap.size = w.heap.size → Kept F w W → Nums w W → ((False → False) ∧ (W.heap.size = w.heap.size ∧ DkL W D d' F L)) ∧ (∃ L', DkL W D d' (Gr F w W) L') ∧ Kept F w W ∧ Nums w W := by
    intro W d' h1 h2 h3 h4
    refine ⟨⟨id, h2, h1⟩, ⟨L, ?_⟩, h3, h4⟩
    have : Gr F w W = F := by
      have e := Gr.self F w
      unfold Gr at e ⊢
      rw [h2]
      exact e
    rw [this]
    exact h1
  rcases ha : d.ask with _ | ⟨b, l, K⟩
  · obtain ⟨e1, e2⟩ := now_none (a := a) ha
    obtain ⟨⟨_, s1⟩, s2⟩ := SAME (d' := d) h rfl (Kept.refl _ _) (Nums.refl _)
    have SS := hid (And.intro s1 s2)
    rw [ha] at c4
    have E1 := hid e1
    have E2 := hid e2
    clear e1 e2 c3 c5 s1 s2 SAME ha
    unfold aL at c4
    go_enter Try.func76, Try.ntmps76
    go_wp2
    go_ret
    rw [E1.out, E2.out]
    exact ⟨rfl, ⟨fun _ => ⟨rfl, SS.out.1.2⟩, SS.out.2.1⟩, SS.out.2.2⟩
  · obtain ⟨e1, e2⟩ := now_some (a := a) ha
    have hok := h.ok.ask b l K ha
    have hk8 := h.ok.k
    rw [ha] at c3 c4 c5
    unfold aR at c3
    unfold aL at c4
    unfold aK at c5
    dsimp only at c3 c4 c5
    by_cases hz : l = 0
    · subst hz
      have e1' : d.now a = false := by rw [e1]; simp
      have e2' : d.cnt a = d := by
        rw [e2]
        split
        · rw [if_neg (by omega)]
          cases d
          simp at ha
          subst ha
          rfl
        · rfl
      obtain ⟨⟨_, s1⟩, s2⟩ := SAME (d' := d) h rfl (Kept.refl _ _) (Nums.refl _)
      have SS := hid (And.intro s1 s2)
      have E1 := hid e1'
      have E2 := hid e2'
      clear e1 e2 e1' e2' c3 c5 s1 s2 SAME ha
      go_enter Try.func76, Try.ntmps76
      go_wp2
      go_ret
      rw [E1.out, E2.out]
      exact ⟨rfl, ⟨fun _ => ⟨rfl, SS.out.1.2⟩, SS.out.2.1⟩, SS.out.2.2⟩
    · by_cases hb : b = a
      · subst hb
        rw [if_pos rfl] at e2
        by_cases hl : l = 1
        · subst hl
          rw [if_pos rfl] at e2
          have e1' : d.now b = true := by rw [e1]; simp
          obtain ⟨k1, k2, k3, k4⟩ := h.left (m := 0) ha (by omega)
          have CL := hid (lose k1 hq (k1.kr.kr) hok.2.2 L.kc)
          have r4 := k1.cD.2.2.2.1
          have r5 := k1.cD.2.2.2.2.1
          have KK := hid (And.intro k2 (And.intro k3 k4))
          have E1 := hid e1'
          have E2 := hid e2
          clear k1 k2 k3 k4 e1 e1' e2 SAME ha
          simp only [aK, aL, Int.natCast_zero] at CL r4 r5
          go_enter Try.func76, Try.ntmps76
          go_wp2_with fail
          refine CL.out.mono ?_
          rintro e w1 ⟨rfl, g1, g2, g3⟩
          have f1 := g1.cD
          obtain ⟨f1, f2, f3, f4, f5, f6⟩ := f1
          have HP := hid (g1.off4 true)
          have GG := hid (And.intro g2 g3)
          clear g1 g2 g3 f1
          unfold off4 at HP
          go_wp2
          go_ret
          obtain ⟨⟨L', p1⟩, p2, p3, p4⟩ := HP.out
          obtain ⟨k2, k3, k4⟩ := KK.out
          obtain ⟨g2, g3⟩ := GG.out
          rw [E1.out, E2.out]
          have eG : ∀ W : World, Gr F (w.setCell ⟨D, 3, none⟩ (.int .i64 (0 : Int))) W = Gr F w W := fun W => by
            unfold Gr
            rw [setD_size]
          have k2' : Kept F w (w.setCell ⟨D, 3, none⟩ (.int .i64 (0 : Int))) := k2
          have g2' : Kept F w w1 := k2'.trans (by
            have : Gr F w (w.setCell ⟨D, 3, none⟩ (.int .i64 (0 : Int))) = F := by
              have e := Gr.self F w
              unfold Gr at e ⊢
              rw [setD_size]
              exact e
            rw [this]
            exact g2)
          refine ⟨rfl, ⟨fun e => (by cases e), ⟨L', ?_⟩⟩, g2'.trans (by rw [← eG]; exact p2), (Nums.trans k3 g3).trans p3⟩
          have : Gr F w (Wd.off4 w1 D true) = Gr F (w.setCell ⟨D, 3, none⟩ (.int .i64 (0 : Int))) w1 := by
            rw [eG]
            unfold Gr
            rw [show (Wd.off4 w1 D true).heap.size = w1.heap.size from p4]
          have p1' := p1
          unfold Wd.off4 at this
          rw [this]
          exact p1'
        · rw [if_neg hl] at e2
          have e1' : d.now b = false := by rw [e1]; simp [hl]
          obtain ⟨k1, k2, k3, k4⟩ := h.left (m := l - 1) ha (by omega)
          obtain ⟨⟨_, s1⟩, s2⟩ := SAME k1 k4 k2 k3
          have r4 := k1.cD.2.2.2.1
          have SS := hid (And.intro s1 s2)
          have E1 := hid e1'
          have E2 := hid e2
          have el : ((l - 1 : Nat) : Int) = (l : Int) - 1 := by omega
          simp only [aL, el] at r4
          rw [el] at SS
          clear k1 k2 k3 k4 e1 e1' e2 s1 s2 SAME ha el
          go_enter Try.func76, Try.ntmps76
          go_wp2
          go_ret
          rw [E1.out, E2.out]
          exact ⟨rfl, ⟨fun _ => SS.out.1, SS.out.2.1⟩, SS.out.2.2⟩
      · rw [if_neg hb] at e2
        have e1' : d.now a = false := by rw [e1]; simp [hb]
        have hne : ((b : Int) != (a : Int)) = true := by simp; omega
        obtain ⟨⟨_, s1⟩, s2⟩ := SAME (d' := d) h rfl (Kept.refl _ _) (Nums.refl _)
        have SS := hid (And.intro s1 s2)
        have E1 := hid e1'
        have E2 := hid e2
        clear e1 e2 e1' c5 s1 s2 SAME ha
        go_enter Try.func76, Try.ntmps76
        go_wp2
        go_ret
        rw [E1.out, E2.out]
        exact ⟨rfl, ⟨fun _ => ⟨rfl, SS.out.1.2⟩, SS.out.2.1⟩, SS.out.2.2⟩

theorem preW_ok {d : Dk} {a b : Int} {x : ByteArray} (h : d.preW a b x = 0) : d.readE a b = 0 ∧ x.size = 64 := by
  unfold Dk.preW at h
  split at h
  · rename_i c
    split at h
    · exact ⟨c, ‹_›⟩
    · cases h
  · exact absurd h ‹_›
theorem readE_ok {d : Dk} {a b : Int} (h : d.readE a b = 0) : ∃ i s : Nat, a = (i : Int) ∧ b = (s : Int) ∧ i < d.k ∧ s < (d.r i).n ∧ d.off = false := by
  have c1 : d.preF a = 0 := by
    by_cases c1 : d.preF a = 0
    · exact c1
    · rw [readE_pre c1] at h; exact h
  rw [readE_in c1] at h
  obtain ⟨c0, c2⟩ := preF_ok c1
  obtain ⟨i, rfl, hi⟩ := has_nat c2
  rw [Int.toNat_natCast] at h
  have cb : 0 ≤ b ∧ b < (d.r i).n := by
    by_cases cb : 0 ≤ b ∧ b < (d.r i).n
    · exact cb
    · rw [if_neg cb] at h; cases h
  obtain ⟨s, rfl⟩ := Int.eq_ofNat_of_zero_le cb.1
  exact ⟨i, s, rfl, rfl, hi, by omega, c0⟩

theorem Kept.grown {F : Nat → Prop} {a b c : World} (h : Kept F a b) (k : Kept (Gr F a b) b c) : Kept F a c ∧ Gr (Gr F a b) b c = Gr F a c := ⟨h.trans k, Gr.trans h.size k.size⟩

set_option maxRecDepth 100000 in
theorem writeD {w : World} {D : Nat} {d : Dk} {F : Nat → Prop} {L : Ly} (h : DkL w D d F L) (hq : ∀ j, j < d.k → (d.r j).q.length < 1048576) (a b : Int) (x : ByteArray) :
    Calls Try.prog 59 #[dp D, .int .i64 a, .int .i64 b, .string x] w fun e w' => e = .returned (.int .i64 (d.writeE a b x)) ∧ (∃ L', DkL w' D (d.write a b x) (Gr F w w') L') ∧ Kept F w w' ∧ Nums w w' := by
  have CA := hid (sectorAsked h a b)
  have SAME := hid (show (∃ L', DkL w D d (Gr F w w) L') ∧ Kept F w w ∧ Nums w w from ⟨⟨L, by rw [Gr.self]; exact h⟩, Kept.refl _ _, Nums.refl _⟩)
  unfold dp at *
  by_cases c : d.readE a b = 0
  · rw [c] at CA
    obtain ⟨i, s, rfl, rfl, hi, hs, ho⟩ := readE_ok c
    have e1 : raS L (i : Int) ((0 : Int) == 0) = .pointer (some ⟨L.R, i * 2, none⟩) := rfl
    rw [e1] at CA
    by_cases cx : x.size = 64
    · have hp : d.preW (i : Int) (s : Int) x = 0 := by unfold Dk.preW; rw [if_pos c, if_pos cx]
      have hE : Hid (d.writeE (i : Int) (s : Int) x = if (d.put (i : Int) (s : Int) x).now i then 11 else 0) := if_pos hp
      have hD : Hid (d.write (i : Int) (s : Int) x = (d.put (i : Int) (s : Int) x).cnt i) := if_pos hp
      have CW := hid (write h hi (hq i hi) hs cx)
      unfold rp at CW
      clear c e1 hp
      go_enter Try.func59, Try.ntmps59
      go_wp2_with fail
      refine CA.out.mono ?_
      rintro e w1 ⟨rfl, rfl⟩
      go_wp2_with fail
      refine CW.out.mono ?_
      rintro e w1 ⟨rfl, ⟨L1, g0, g1⟩, g2, g3⟩
      have CF := hid (fails g1 (fun j hj => by
        show (upd d.r i _ j).q.length ≤ _
        unfold upd
        split
        · show ((d.r i).q ++ [(s, x)]).length ≤ _
          have := hq i hi
          simp
          omega
        · exact Nat.le_of_lt (hq j hj)) i)
      have GG := hid (And.intro g2 g3)
      unfold dp at CF
      have eP : d.at i ((d.r i).put s x) = d.put (i : Int) (s : Int) x := rfl
      rw [eP] at CF
      clear g0 g1 g2 g3 eP
      generalize d.put (i : Int) (s : Int) x = d1 at CF hE hD
      cases hn : d1.now i
      · rw [hn] at CF hE
        go_wp2_with fail
        refine CF.out.mono ?_
        rintro e w2 ⟨rfl, ⟨_, k1⟩, k2, k3⟩
        have KK := hid (And.intro k1 (And.intro k2 k3))
        clear k1 k2 k3
        go_wp2
        go_ret
        obtain ⟨⟨L2, k1⟩, k2, k3⟩ := KK.out
        obtain ⟨e1, e2⟩ := GG.out.1.grown k2
        rw [hE.out, hD.out]
        rw [e2] at k1
        exact ⟨rfl, ⟨L2, k1⟩, e1, GG.out.2.trans k3⟩
      · rw [hn] at CF hE
        go_wp2_with fail
        refine CF.out.mono ?_
        rintro e w2 ⟨rfl, ⟨_, k1⟩, k2, k3⟩
        have KK := hid (And.intro k1 (And.intro k2 k3))
        clear k1 k2 k3
        go_wp2
        go_ret
        obtain ⟨⟨L2, k1⟩, k2, k3⟩ := KK.out
        obtain ⟨e1, e2⟩ := GG.out.1.grown k2
        rw [hE.out, hD.out]
        rw [e2] at k1
        exact ⟨rfl, ⟨L2, k1⟩, e1, GG.out.2.trans k3⟩
    · have hp : d.preW (i : Int) (s : Int) x = 2 := by unfold Dk.preW; rw [if_pos c, if_neg cx]
      have hE : Hid (d.writeE (i : Int) (s : Int) x = 2) := by show _ = _; unfold Dk.writeE; rw [hp]; rfl
      have hD : Hid (d.write (i : Int) (s : Int) x = d) := by show _ = _; unfold Dk.write; rw [hp]; rfl
      have cx' : ((x.size : Int) != 64) = true := by simp; omega
      clear c e1 hp
      go_enter Try.func59, Try.ntmps59
      go_wp2_with fail
      refine CA.out.mono ?_
      rintro e w1 ⟨rfl, rfl⟩
      go_wp2
      go_ret
      rw [hE.out, hD.out]
      exact ⟨rfl, SAME.out⟩
  · have hp : d.preW a b x = d.readE a b := if_neg c
    have hE : Hid (d.writeE a b x = d.readE a b) := by show _ = _; unfold Dk.writeE; rw [hp, if_neg c]
    have hD : Hid (d.write a b x = d) := by show _ = _; unfold Dk.write; rw [hp, if_neg c]
    have hx2 : raS L a (d.readE a b == 0) = .pointer none := by
      unfold raS
      rw [if_neg (by simpa using c)]
    rw [hx2] at CA
    have hx : (d.readE a b == 0) = false := by simpa using c
    have hx3 : (d.readE a b != 0) = true := by simpa using c
    clear hp
    generalize d.readE a b = E at *
    go_enter Try.func59, Try.ntmps59
    go_wp2_with fail
    refine CA.out.mono ?_
    rintro e w1 ⟨rfl, rfl⟩
    go_wp2
    go_ret
    rw [hE.out, hD.out]
    exact ⟨rfl, SAME.out⟩

set_option maxRecDepth 100000 in
theorem flushD {w : World} {D : Nat} {d : Dk} {F : Nat → Prop} {L : Ly} (h : DkL w D d F L) (hq : ∀ j, j < d.k → (d.r j).q.length ≤ 1048576) (a : Int) :
    Calls Try.prog 60 #[dp D, .int .i64 a] w fun e w' => e = .returned (.int .i64 (d.flushE a)) ∧ (∃ L', DkL w' D (d.flush a) (Gr F w w') L') ∧ Kept F w w' ∧ Nums w w' := by
  have CA := hid (regionAsked h a)
  have SAME := hid (show (∃ L', DkL w D d (Gr F w w) L') ∧ Kept F w w ∧ Nums w w from ⟨⟨L, by rw [Gr.self]; exact h⟩, Kept.refl _ _, Nums.refl _⟩)
  unfold dp at *
  by_cases c : d.preF a = 0
  · rw [c] at CA
    obtain ⟨_, c2⟩ := preF_ok c
    obtain ⟨i, rfl, hi⟩ := has_nat c2
    have e1 : ra L (i : Int) ((0 : Int) == 0) = .pointer (some ⟨L.R, i * 2, none⟩) := rfl
    rw [e1] at CA
    have hE : Hid (d.flushE (i : Int) = if d.now i then 11 else 0) := if_pos c
    have hD : Hid (d.flush (i : Int) = if d.now i then d.cnt i else (d.cnt i).at i ((d.r i).set fun _ => true)) := if_pos c
    have CF := hid (fails h hq i)
    unfold dp at CF
    clear c e1 c2
    cases hn : d.now i
    · rw [hn] at CF hE hD
      have hr : (d.cnt i).r = d.r := by
        rcases ha : d.ask with _ | ⟨b, l, K⟩
        · rw [(now_none ha).2]
        · obtain ⟨e1, e2⟩ := now_some (a := i) ha
          rw [hn] at e1
          rw [e2]
          split
          · split
            · exact absurd (show b = i ∧ l = 1 from ⟨‹_›, ‹_›⟩) (by simpa using e1.symm)
            · rfl
          · rfl
      have hkk : (d.cnt i).k = d.k := by
        rcases ha : d.ask with _ | ⟨b, l, K⟩
        · rw [(now_none ha).2]
        · rw [(now_some (a := i) ha).2]
          split
          · split <;> rfl
          · rfl
      have HR := hid hr
      have HKK := hid hkk
      clear hr hkk
      go_enter Try.func60, Try.ntmps60
      go_wp2_with fail
      refine CA.out.mono ?_
      rintro e w1 ⟨rfl, rfl⟩
      go_wp2_with fail
      refine CF.out.mono ?_
      rintro e w2 ⟨rfl, ⟨k0, _⟩, k2, k3⟩
      obtain ⟨k4, k5⟩ := k0 (by first | rfl | trivial)
      have CS := hid (settle k5 (i := i) (by rw [HKK.out]; exact hi) (by rw [HR.out]; exact hq i hi) (.inl ⟨rfl, fun _ => rfl⟩) (kp := fun _ => true))
      have KK := hid (And.intro k2 (And.intro k3 k4))
      rw [HR.out] at CS
      unfold rp at CS
      clear k0 k2 k3 k4 k5
      go_wp2_with fail
      refine CS.out.mono ?_
      rintro e w3 ⟨rfl, m1, m2, m3, m4⟩
      have MM := hid (And.intro m1 (And.intro m2 (And.intro m3 m4)))
      clear m1 m2 m3 m4
      go_wp2
      go_ret
      obtain ⟨m1, m2, m3, m4⟩ := MM.out
      obtain ⟨k2, k3, k4⟩ := KK.out
      rw [hE.out, hD.out]
      have e1 : Gr F w w2 = F := by
        have e := Gr.self F w
        unfold Gr at e ⊢
        rw [k4]
        exact e
      have e2 : Gr F w w3 = F := by
        have e := Gr.self F w
        unfold Gr at e ⊢
        rw [m4, k4]
        exact e
      refine ⟨rfl, ⟨L, by rw [e2]; exact m1⟩, k2.trans (by rw [e1]; exact m2), k3.trans m3⟩
    · rw [hn] at CF hE hD
      go_enter Try.func60, Try.ntmps60
      go_wp2_with fail
      refine CA.out.mono ?_
      rintro e w1 ⟨rfl, rfl⟩
      go_wp2_with fail
      refine CF.out.mono ?_
      rintro e w2 ⟨rfl, ⟨_, k1⟩, k2, k3⟩
      have KK := hid (And.intro k1 (And.intro k2 k3))
      clear k1 k2 k3
      go_wp2
      go_ret
      rw [hE.out, hD.out]
      exact ⟨rfl, KK.out⟩
  · have hE : Hid (d.flushE a = d.preF a) := if_neg c
    have hD : Hid (d.flush a = d) := if_neg c
    have hx2 : ra L a (d.preF a == 0) = .pointer none := by
      unfold ra
      rw [if_neg (by simpa using c)]
    rw [hx2] at CA
    have hx : (d.preF a == 0) = false := by simpa using c
    have hx3 : (d.preF a != 0) = true := by simpa using c
    generalize d.preF a = E at *
    go_enter Try.func60, Try.ntmps60
    go_wp2_with fail
    refine CA.out.mono ?_
    rintro e w1 ⟨rfl, rfl⟩
    go_wp2
    go_ret
    rw [hE.out, hD.out]
    exact ⟨rfl, SAME.out⟩

end Go.Proofs.Ytcnonioiggniiaa.Wd
