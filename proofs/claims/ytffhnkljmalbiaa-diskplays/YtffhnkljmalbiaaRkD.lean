/-
  The walks of the document's Put, Flush and Crash.
-/
import Derived.Test.YtffhnkljmalbiaaRkC
import Derived.Deep.AppendLies
namespace Go.Proofs.Ytffhnkljmalbiaa.Wr
open Go.ChangeShapes Go.WideShapes Go.ChangeAt Go.RowKit Go.Proofs.Ytffhnkljmalbiaa.M Go.Proofs.Ytffhnkljmalbiaa.Wd

theorem infoW : (Try.prog.info? 94).map (fun i => (i.zero, i.size, i.bytes)) = some (some (.agg #[.int .i64 0, .string ⟨#[]⟩]), 2, 24) := by kernel_rfl

theorem RkL.ownQ {w : World} {D : Nat} {d : Dk} {F : Nat → Prop} {L : Lr} (h : RkL w D d F L) {i : Nat} (hi : i < d.k) : w.ownsRow 0 94 2 (.slice (pt (d.r i).q.length (L.qb i)) (d.r i).q.length (cp (d.r i).q.length (L.qm i))) (d.r i).q.length (qs (d.r i).q) := by
  refine ⟨by rw [qs_length], ?_⟩
  by_cases c : 0 < (d.r i).q.length
  · obtain ⟨l, h1, h2, h3, h4, h5⟩ := h.que i hi c
    exact .inr ⟨L.qb i, L.qm i, l.toArray, by rw [pt_pos _ c, cp_pos _ c], Nat.zero_le _, h1, h3, h4, by rw [List.size_toArray]; exact h2, h5⟩
  · have e : (d.r i).q.length = 0 := by omega
    rw [e]
    exact .inl ⟨rfl, rfl⟩

/-- What a write comes to, behind the append and the store. -/
theorem RkL.push {w w3 : World} {D : Nat} {d : Dk} {F : Nat → Prop} {L : Lr} (h : RkL w D d F L) {i : Nat} (hi : i < d.k) {s : Nat} {x : ByteArray} (hs : s < (d.r i).n) (hx : x.size = 64) {g cap : Nat} {o1 : Obj}
    (own3 : w3.ownsRow 0 94 2 (.slice (some ⟨g, 0, none⟩) ((d.r i).q.length + 1) cap) ((d.r i).q.length + 1) (qs (d.r i).q ++ [.int .i64 (s : Int), .string x])) (gr3 : (w.alloc o1).grownBy w3 (Value.slice (pt (d.r i).q.length (L.qb i)) (d.r i).q.length (cp (d.r i).q.length (L.qm i))).ownBlock) (hg3 : (Value.slice (pt (d.r i).q.length (L.qb i)) (d.r i).q.length (cp (d.r i).q.length (L.qm i))).ownBlock = some g ∨ g = w.heap.size + 1) :
      (w3.cell? ⟨L.rb i, 1, none⟩ = some (.slice (pt (d.r i).q.length (L.qb i)) (d.r i).q.length (cp (d.r i).q.length (L.qm i))) ∧ w3.frozen? ⟨L.rb i, 1, none⟩ = false) ∧
      (∃ L', L'.R = L.R ∧ L'.rb = L.rb ∧ RkL (w3.setCell ⟨L.rb i, 1, none⟩ (.slice (some ⟨g, 0, none⟩) ((d.r i).q.length + 1) cap)) D (d.at i ((d.r i).put s x)) (Gr F w (w3.setCell ⟨L.rb i, 1, none⟩ (.slice (some ⟨g, 0, none⟩) ((d.r i).q.length + 1) cap))) L') ∧ Kept F w (w3.setCell ⟨L.rb i, 1, none⟩ (.slice (some ⟨g, 0, none⟩) ((d.r i).q.length + 1) cap)) := by
  have bW : Below w.heap.size w (w.alloc o1) := (Below.refl _ _).alloc (Nat.le_refl _) o1
  have sW : (w.alloc o1).heap.size = w.heap.size + 1 := by simp
  have hsz : w.heap.size + 1 ≤ w3.heap.size := by rw [← sW]; exact gr3.size
  have hob : ∀ b, (Value.slice (pt (d.r i).q.length (L.qb i)) (d.r i).q.length (cp (d.r i).q.length (L.qm i))).ownBlock = some b → 0 < (d.r i).q.length ∧ b = L.qb i := by
    intro b hb
    by_cases c : 0 < (d.r i).q.length
    · rw [pt_pos _ c] at hb
      exact ⟨c, by simpa [Value.ownBlock] using hb.symm⟩
    · have e : (d.r i).q.length = 0 := by omega
      rw [e, pt_zero] at hb
      cases hb
  have hblk : ∀ b, b < w.heap.size → (0 < (d.r i).q.length → b ≠ L.qb i) → w3.heap[b]? = w.heap[b]? := fun b hb hne =>
    (gr3.block b (by omega) (fun e => by
      obtain ⟨q0, e'⟩ := hob b e.symm
      exact hne q0 e')).trans (bW.block b hb)
  have hrg := h.reg i hi
  have hrq : 0 < (d.r i).q.length → L.rb i ≠ L.qb i := fun hp e => by
    obtain ⟨l, q1, _⟩ := h.que i hi hp
    rw [e, q1] at hrg
    simp at hrg
  have hrg3 := (hblk _ (blk_lt hrg) hrq).trans hrg
  have hgr : g ≠ L.rb i := by
    intro e
    rcases hg3 with e2 | e2
    · obtain ⟨hp, e3⟩ := hob g e2
      exact hrq hp (e.symm.trans e3)
    · have := blk_lt hrg; omega
  have eS : (w3.setCell ⟨L.rb i, 1, none⟩ (.slice (some ⟨g, 0, none⟩) ((d.r i).q.length + 1) cap)).heap.size = w3.heap.size := setD_size
  have hql : ((d.r i).put s x).q.length = (d.r i).q.length + 1 := by show ((d.r i).q ++ [(s, x)]).length = _; simp
  have P := h.turn (w' := w3.setCell ⟨L.rb i, 1, none⟩ (.slice (some ⟨g, 0, none⟩) ((d.r i).q.length + 1) cap)) hi (r := (d.r i).put s x) (Rg.put_ok (h.ok.r i hi) hs hx) (lb := L.lb i) (lm := L.lm i) (qb := g) (qm := cap) (by rw [eS]; omega)
    (fun b hb h1 _ h3 => (setD_other h1).trans (hblk b hb h3))
    (by
      rw [hql, pt_pos (n := (d.r i).q.length + 1) g (by omega), cp_pos (n := (d.r i).q.length + 1) cap (by omega)]
      exact blk_set (l := [_, _]) hrg3 1 _)
    (fun hn => by
      obtain ⟨l', q1, q2⟩ := h.las i hi hn
      refine ⟨l', ?_, q2⟩
      rw [setD_other (fun e => by rw [e, hrg] at q1; simp at q1), hblk _ (blk_lt q1) (fun hp e => by
        obtain ⟨l2, q3, _⟩ := h.que i hi hp
        rw [e, q3] at q1; simp at q1)]
      exact q1) (fun hn => .inl ⟨hn, rfl⟩)
    (fun _ => by
      rcases own3.2 with ⟨_, e⟩ | ⟨g', cap', cur, e, _, k1, k2, k3, k4, k5⟩
      · omega
      · simp at e
        obtain ⟨rfl, rfl⟩ := e
        refine ⟨cur.toList, ?_, by simpa using k4, by rw [hql]; exact k2, k3, ?_⟩
        · rw [setD_other hgr]; simpa using k1
        · rw [hql, k5]
          show _ = qs ((d.r i).q ++ [(s, x)])
          rw [qs_app]
          rfl) (fun _ => by
      rcases hg3 with e | e
      · exact .inl (hob g e)
      · exact .inr (by omega))
  refine ⟨⟨blk_cell (l := [_, _]) hrg3 rfl, blk_free hrg3 _⟩, ⟨{ L with lb := upd L.lb i (L.lb i), lm := upd L.lm i (L.lm i), qb := upd L.qb i g, qm := upd L.qm i cap }, rfl, rfl, P⟩, ?_⟩
  refine Kept.setCell ⟨gr3.os.trans bW.os, gr3.tape.trans bW.tape, gr3.output.trans bW.output, by omega, fun k hk hF => hblk k hk fun q0 e => hF (by rw [e]; exact h.ownq i hi q0)⟩ (h.ownr i hi) _

theorem dec_no {d : Dk} {a : Nat} (h : d.now a = false) : dec d a = d.cnt a := by
  rcases ha : d.ask with _ | ⟨b, l, K⟩
  · rw [(now_none ha).2]; unfold dec; rw [ha]
  · obtain ⟨e1, e2⟩ := now_some (a := a) ha
    rw [h] at e1
    rw [e2]
    unfold dec
    rw [ha]
    dsimp only
    by_cases c : b = a
    · rw [if_pos c, if_pos c, if_neg (fun hl => by simp [c, hl] at e1)]
    · rw [if_neg c, if_neg c]
theorem dec_yes {d : Dk} {a : Nat} (h : d.now a = true) : { (dec d a).lose (aK (dec d a).ask) with off := true, ask := none } = d.cnt a := by
  rcases ha : d.ask with _ | ⟨b, l, K⟩
  · rw [(now_none ha).1] at h; cases h
  · obtain ⟨e1, e2⟩ := now_some (a := a) ha
    rw [h] at e1
    have e3 : b = a ∧ l = 1 := by simpa using e1.symm
    rw [e2, if_pos e3.1, if_pos e3.2]
    unfold dec
    rw [ha]
    dsimp only
    rw [if_pos e3.1]
    rfl
theorem dec_q {d : Dk} {a : Nat} : (dec d a).r = d.r ∧ (dec d a).k = d.k := by
  unfold dec
  split
  · exact ⟨rfl, rfl⟩
  · split <;> exact ⟨rfl, rfl⟩

set_option maxRecDepth 100000 in
set_option maxHeartbeats 1000000 in
theorem putR {w : World} {D : Nat} {d : Dk} {F : Nat → Prop} {L : Lr} (h : RkL w D d F L) (hq : ∀ j, j < d.k → (d.r j).q.length < 1048576) (a b : Int) (x : ByteArray) :
    Calls Try.prog 36 #[.pointer (some ⟨D, 0, none⟩), .int .i64 a, .int .i64 b, .string x] w fun e w' => e = .returned (.int .i64 (d.writeE a b x)) ∧ (∃ L', RkL w' D (d.write a b x) (Gr F w w') L') ∧ Kept F w w' := by
  obtain ⟨i1, hi1, hy0, hy1, hy2⟩ := info_parts infoW
  have CA := hid (readR h (fun j hj => Nat.le_of_lt (hq j hj)) a b)
  have SAME := hid (show (∃ L', RkL w D d (Gr F w w) L') ∧ Kept F w w from ⟨⟨L, by rw [Gr.self]; exact h⟩, Kept.refl _ _⟩)
  by_cases c : d.readE a b = 0
  · rw [c] at CA
    obtain ⟨i, s, rfl, rfl, hi, hs, ho⟩ := readE_ok c
    by_cases cx : x.size = 64
    · have hp : d.preW (i : Int) (s : Int) x = 0 := by unfold Dk.preW; rw [if_pos c, if_pos cx]
      have hE : Hid (d.writeE (i : Int) (s : Int) x = if (d.put (i : Int) (s : Int) x).now i then 11 else 0) := if_pos hp
      have hD : Hid (d.write (i : Int) (s : Int) x = (d.put (i : Int) (s : Int) x).cnt i) := if_pos hp
      have c1 := h.cD.1
      have hk8 := h.ok.k
      rw [pt_pos _ (by omega), cp_pos _ (by omega)] at c1
      have r1 := h.cR hi
      obtain ⟨g1, g2, g3⟩ := h.cG hi
      have hqi := hq i hi
      have OW := hid (fun o => (h.ownQ hi).alloc o)
      have PU := hid (fun (w3 : World) (g cap : Nat) (o : Obj) own3 gr3 hg3 => h.push (w3 := w3) hi hs cx (g := g) (cap := cap) (o1 := o) own3 gr3 hg3)
      have hqq : Hid (∀ j, j < (d.put (i : Int) (s : Int) x).k → ((d.put (i : Int) (s : Int) x).r j).q.length ≤ 1048576) := by
        have h1 : ∀ j, j < d.k → (d.r j).q.length ≤ 1048576 := fun j hj => Nat.le_of_lt (hq j hj)
        refine q_at h1 ?_
        show ((d.r i).q ++ [(s, x)]).length ≤ _
        simp
        omega
      generalize d.readB (i : Int) (s : Int) = rb0 at CA
      clear c hp
      go_enter Try.func36, Try.ntmps36
      go_wp2_with fail
      refine CA.out.mono ?_
      rintro e w1 ⟨rfl, rfl⟩
      go_wp2_with (at_builtin; refine wpList_append_lies _ rfl _ _ 70 rfl 0 94 i1 (.agg #[.int .i64 0, .string ⟨#[]⟩]) 2 24 Try.underlying70 hi1 hy0 hy1 hy2 rfl (by decide) _ _ _ rfl (OW.out _) ⟨w.heap.size, 0, none⟩ 1 1 [.int .i64 (s : Int), .string x] rfl rfl (World.news_of_block (heap_alloc_last w _)) (by intro u hu; simp at hu; rcases hu with rfl | rfl <;> rfl) (by decide) (by unfold maxLen; omega) (by omega) (Nat.zero_le _) (w.heap.size + 1) (by simp) ?_; intro g cap w3 own3 gr3 hg3 hlt3; obtain ⟨⟨f1, f2⟩, f3⟩ := PU.out w3 g cap _ own3 gr3 hg3; have F3 := hid f3; clear f3 own3 gr3 hg3 hlt3)
      obtain ⟨⟨L1, _, _, k1⟩, kk1⟩ := F3.out
      have eP : d.at i ((d.r i).put s x) = d.put (i : Int) (s : Int) x := rfl
      rw [eP] at k1
      generalize d.put (i : Int) (s : Int) x = d1 at *
      have CF := hid (failsR k1 i)
      have KK1 := hid kk1
      clear k1 kk1 F3 eP CA OW PU f1 f2
      generalize w3.setCell ⟨L.rb i, 1, none⟩ (.slice (some ⟨g, 0, none⟩) ((d.r i).q.length + 1) cap) = W3 at *
      cases hn : d1.now i
      · rw [hn] at CF hE
        have DN := hid (dec_no hn)
        refine CF.out.mono ?_
        rintro e w4 ⟨rfl, m1, m2, _, m4⟩
        rw [DN.out] at m1
        have MM := hid (And.intro m1 (And.intro m2 m4))
        clear m1 m2 m4
        go_wp2
        go_ret
        obtain ⟨m1, m2, m4⟩ := MM.out
        rw [hE.out, hD.out]
        have eG : Gr F w w4 = Gr F w W3 := by unfold Gr; rw [m4]
        exact ⟨rfl, ⟨L1, by rw [eG]; exact m1⟩, KK1.out.trans m2⟩
      · rw [hn] at CF hE
        have DY := hid (dec_yes hn)
        have DQ := dec_q (d := d1) (a := i)
        refine CF.out.mono ?_
        rintro e w4 ⟨rfl, m1, m2, _, m4⟩
        have c5 := m1.cD.2.2.2.2.1
        have CL := hid (loseR m1 (fun j hj => by rw [DQ.1]; rw [DQ.2] at hj; exact hqq.out j hj) m1.kr.kr (K := aK (dec d1 i).ask) (by
          rcases ha : (dec d1 i).ask with _ | ⟨b', l', K'⟩
          · exact fun y hy => by cases hy
          · exact (m1.ok.ask b' l' K' ha).2.2) L1.kc)
        rw [DY.out] at CL
        have MM := hid (And.intro m2 m4)
        clear m1 m2 m4 DQ
        generalize (aK (dec d1 i).ask).length = kl at *
        go_wp2_with fail
        refine CL.out.mono ?_
        rintro e w5 ⟨rfl, n1, n2, _, n4⟩
        have NN := hid (And.intro n1 (And.intro n2 n4))
        clear n1 n2 n4
        go_wp2
        go_ret
        obtain ⟨m2, m4⟩ := MM.out
        obtain ⟨n1, n2, n4⟩ := NN.out
        rw [hE.out, hD.out]
        have eG4 : Gr F w w4 = Gr F w W3 := by unfold Gr; rw [m4]
        have eG : Gr F w w5 = Gr F w W3 := by unfold Gr; rw [n4, m4]
        exact ⟨rfl, by rw [eG]; exact n1, (KK1.out.trans m2).trans (by rw [eG4]; exact n2)⟩
    · have hp : d.preW (i : Int) (s : Int) x = 2 := by unfold Dk.preW; rw [if_pos c, if_neg cx]
      have hE : Hid (d.writeE (i : Int) (s : Int) x = 2) := by show _ = _; unfold Dk.writeE; rw [hp]; rfl
      have hD : Hid (d.write (i : Int) (s : Int) x = d) := by show _ = _; unfold Dk.write; rw [hp]; rfl
      have cx' : ((x.size : Int) != 64) = true := by simp; omega
      generalize d.readB (i : Int) (s : Int) = rb0 at CA
      clear c hp
      go_enter Try.func36, Try.ntmps36
      go_wp2_with fail
      refine CA.out.mono ?_
      rintro e w1 ⟨rfl, rfl⟩
      go_wp2
      go_ret
      rw [hE.out, hD.out]
      exact ⟨rfl, SAME.out⟩
  · have hp : d.preW a b x = d.readE a b := if_neg c
    have hE : Hid (d.writeE a b x = d.readE a b) := by show _ = _; unfold Dk.writeE; rw [hp, if_neg c]
    have hD : Hid (d.write a b x = d) := by show _ = _; unfold Dk.write; rw [hp, if_neg c]
    have hx : (d.readE a b == 0) = false := by simpa using c
    have hx3 : (d.readE a b != 0) = true := by simpa using c
    clear hp
    generalize d.readE a b = E at *
    generalize d.readB a b = rb0 at CA
    go_enter Try.func36, Try.ntmps36
    go_wp2_with fail
    refine CA.out.mono ?_
    rintro e w1 ⟨rfl, rfl⟩
    go_wp2
    go_ret
    rw [hE.out, hD.out]
    exact ⟨rfl, SAME.out⟩

set_option maxRecDepth 100000 in
theorem crashR {w : World} {D : Nat} {d : Dk} {F : Nat → Prop} {L : Lr} (h : RkL w D d F L) (hq : ∀ j, j < d.k → (d.r j).q.length ≤ 1048576) (ho : d.off = true → ∀ j, j < d.k → (d.r j).q = []) {K : List Int} {ao : Option Addr} (hK : KR F w ao K) (h64 : K64 K) (c : Nat) :
    Calls Try.prog 33 #[.pointer (some ⟨D, 0, none⟩), .slice ao K.length c] w fun e w' => e = .returned (.tuple #[]) ∧ (∃ L', RkL w' D (d.crash K) F L') ∧ Kept F w w' ∧ w'.heap.size = w.heap.size := by
  have c2 := h.cD.2.1
  have CL := hid (loseR h hq hK h64 c)
  cases hof : d.off
  · rw [hof] at c2
    go_enter Try.func33, Try.ntmps33
    go_wp2_with fail
    refine CL.out.mono ?_
    rintro e w1 ⟨rfl, ⟨L1, m1⟩, m2, _, m4⟩
    have CO := hid (onR m1)
    have MM := hid (And.intro m2 m4)
    clear m1 m2 m4
    go_wp2_with fail
    refine CO.out.mono ?_
    rintro e w2 ⟨rfl, ⟨L2, n1⟩, n2, _, n4⟩
    have NN := hid (And.intro n1 (And.intro n2 n4))
    clear n1 n2 n4
    go_wp2
    go_end0
    obtain ⟨m2, m4⟩ := MM.out
    obtain ⟨n1, n2, n4⟩ := NN.out
    have e0 : Gr F w w1 = F := Gr.same m4
    exact ⟨rfl, ⟨L2, n1⟩, m2.trans (by rw [e0]; exact n2), n4.trans m4⟩
  · rw [hof] at c2
    have hc : ∀ j, j < d.k → (d.crash K).r j = d.r j := fun j hj => by
      show (d.r j).set (kb K j) = d.r j
      have e := ho hof j hj
      unfold Rg.set
      rw [e]
      cases hr : d.r j
      rw [hr] at e
      simp at e
      subst e
      rfl
    have HC := hid hc
    have CO := hid (onR h)
    clear hc
    go_enter Try.func33, Try.ntmps33
    go_wp2_with fail
    refine CO.out.mono ?_
    rintro e w2 ⟨rfl, ⟨L2, n1⟩, n2, _, n4⟩
    have NN := hid (And.intro (show RkL w2 D (d.crash K) F L2 from n1.congr rfl rfl rfl (fun j hj => HC.out j hj)) (And.intro n2 n4))
    clear n1 n2 n4
    go_wp2
    go_end0
    obtain ⟨n1, n2, n4⟩ := NN.out
    exact ⟨rfl, ⟨L2, n1⟩, n2, n4⟩

end Go.Proofs.Ytffhnkljmalbiaa.Wr
