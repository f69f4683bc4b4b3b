/-
  The walk of the law ReadyMore: it returns true, and nothing that was in memory has turned. Conditions: the masks and numbers are such as fit their kinds.
-/
import Derived.Test.YtcojpajmeacpiaaDoorRyT
import Derived.Test.YtcojpajmeacpiaaDoorRyO
import Derived.Laws.AppendOwnNone
import Derived.Deep.RegionHeld3
import Derived.Deep.RegionWith
namespace Go.Proofs.YtcojpajmeacpiaaDoor.Wry
open Go.ChangeShapes Go.WideShapes Go.ChangeAt Go.RowKit Go.Shelf Go.Proofs.YtcojpajmeacpiaaDoor.M

/-- Masks that are nil have no room. -/
theorem view_nil {H : Type} {enc : TypeId × Value → H} {W : World} {a : Option Addr} {len cap : Nat} {d : DataW H} {p : List MemPlace}
    (h : DataW.Trod enc Tryd.prog W 0 (fun _ => true) true 22 (.slice a len cap) d p) (ha : a = none) : len = 0 ∧ cap = 0 := by
  obtain ⟨fuel, hf⟩ := h
  rcases open_ints Tryd.underlying22 Tryd.underlying28 cU hf with ⟨hcs, _⟩ | ⟨ad, l, c, zs, hcs, _, _, _, _, _, _, _⟩
  · simp [Value.cells] at hcs
    obtain ⟨rfl, rfl, rfl⟩ := hcs
    exact ⟨rfl, rfl⟩
  · simp [Value.cells] at hcs
    rw [ha] at hcs
    simp at hcs
theorem wpList_append_any {P : Program} (w : World) {ops : Array Oper} {rest : List Oper} {o : Oper} {a : Act} {Q : Exit → Act → World → Prop} (hgd : o.guard = none) (s x : Operand) (t : TypeId)
    (ho : o.op = .call { callee := .builtin .append, args := #[s, x], argTypes := #[t, t] })
    (base : Nat) (e : TypeId) (i : TypeInfo) (z : Value) (size bytes : Nat) (ht : P.underlying t = some (.slice e)) (hi : P.info? e = some i) (hz : i.zero = some z)
    (hsize : i.size = size) (hby : i.bytes = bytes) (hzs : z.cells.size = size) (hsz : 0 < size)
    (v : Value) (n : Nat) (xs : List Value) (hs : a.eval s = v) (hown : w.ownsRow base e size v n xs)
    (ad : Option Addr) (m c : Nat) (news : List Value) (hx : a.eval x = .slice ad m c) (hnone : ad = none → m = 0 ∧ c = 0) (hl : news.length = m * size) (hnews : ∀ b, ad = some b → ∀ j u, news[j]? = some u → w.cell? (b.add j) = some u) (h1 : ∀ u ∈ news, u.oneCell' = true)
    (h63 : n + m ≤ maxLen) (hbytes : (n + m) * bytes ≤ 140737488355328) (hbase : base ≤ w.heap.size)
    (h : ∀ v' w', w'.ownsRow base e size v' (n + m) (xs ++ news) → w.grownBy w' v.ownBlock → wpList P ops Q rest (a.put o.dst v') w') : wpList P ops Q (o :: rest) a w := by
  cases ad with
  | none =>
    obtain ⟨h2, h3⟩ := hnone rfl
    subst h2 h3
    have hn : news = [] := List.length_eq_zero_iff.1 (by omega)
    subst hn
    refine wpList_append_own_none (w := w) hgd s x t ho base e i size ht hi v n xs hs hown hx (h v w (by simpa using hown) ⟨rfl, rfl, rfl, Nat.le_refl _, fun _ _ _ => rfl⟩)
  | some b => exact wpList_append_own (w := w) hgd s x t ho base e i z size bytes ht hi hz hsize hby hzs hsz v n xs hs hown b m c news hx hl (hnews b rfl) h1 h63 hbytes hbase (fun v' w' h2 h3 _ => h v' w' h2 h3)
theorem infoU : (Tryd.prog.info? 28).map (fun i => (i.zero, i.size, i.bytes)) = some (some (.int .u32 0), 1, 4) := by kernel_rfl
/-- Masks as cells. -/
def mI (M : List Nat) : List Value := M.map fun i : Nat => Value.int .u32 (i : Int)
theorem mI_len (M : List Nat) : (mI M).length = M.length := by simp [mI]
theorem ms_news {w : World} {a : Option Addr} {M : List Nat} (h : Ms w a M) : ∀ b, a = some b → ∀ j u, (mI M)[j]? = some u → w.cell? (b.add j) = some u := fun b hb j u hj => by
  rw [mI, List.getElem?_map] at hj
  obtain ⟨x, hx, rfl⟩ := Option.map_eq_some_iff.1 hj
  obtain ⟨g, o, h1, _, h2⟩ := h.at hx
  rw [h1] at hb; cases hb
  rw [add_none]
  exact h2
/-- Masks in a row of the law's own. -/
def Mr (w : World) (g : Nat) (M : List Nat) : Prop := ∃ cur : Array Value, w.heap[g]? = some (.cells cur 28 (0, 0)) ∧ ∀ j, j < M.length → cur[j]? = some (.int .u32 (mk M j : Int))
theorem Mr.lt {w : World} {g : Nat} {M : List Nat} (h : Mr w g M) : g < w.heap.size := by
  obtain ⟨_, h1, _⟩ := h
  exact (Array.getElem?_eq_some_iff.1 h1).1
theorem Mr.cell {w : World} {g : Nat} {M : List Nat} (h : Mr w g M) {j : Nat} (hj : j < M.length) : w.cell? ⟨g, j, none⟩ = some (.int .u32 (mk M j : Int)) := by
  obtain ⟨cur, h1, h2⟩ := h
  unfold World.cell?
  rw [h1]
  exact h2 j hj
theorem Mr.frozen {w : World} {g : Nat} {M : List Nat} (h : Mr w g M) (j : Nat) : w.frozen? ⟨g, j, none⟩ = false := by
  obtain ⟨cur, h1, _⟩ := h
  simp [World.frozen?, h1]
theorem Mr.of_block {w w' : World} {g : Nat} {M : List Nat} (h : Mr w g M) (e : w'.heap[g]? = w.heap[g]?) : Mr w' g M := by
  obtain ⟨cur, h1, h2⟩ := h
  exact ⟨cur, e.trans h1, h2⟩
theorem Mr.ms {w : World} {g : Nat} {M : List Nat} (h : Mr w g M) : Ms w (some ⟨g, 0, none⟩) M := by
  refine .inr ⟨g, 0, rfl, h.lt, fun i x hx => ?_⟩
  obtain ⟨hl, e⟩ := List.getElem?_eq_some_iff.1 hx
  rw [Nat.zero_add, h.cell hl]
  unfold mk
  rw [List.getD_eq_getElem?_getD, hx]
  rfl
theorem own_mr {w : World} {base : Nat} {v : Value} {M : List Nat} (h : w.ownsRow base 28 1 v M.length (mI M)) (hne : M ≠ []) : ∃ g cap, v = .slice (some ⟨g, 0, none⟩) M.length cap ∧ M.length ≤ cap ∧ cap ≤ maxLen ∧ base ≤ g ∧ Mr w g M := by
  rcases h.2 with ⟨rfl, hn⟩ | ⟨g, cap, cur, rfl, hb, hg, hc, hm, hs, ht⟩
  · exact absurd (List.length_eq_zero_iff.1 hn) hne
  · refine ⟨g, cap, rfl, hc, hm, hb, cur, hg, fun i hi => ?_⟩
    have hcell : w.cell? ⟨g, i, none⟩ = cur[i]? := by simp [World.cell?, hg]
    rw [← hcell, h.cellAt i (by omega)]
    unfold mI mk
    rw [List.getElem?_map, List.getD_eq_getElem?_getD, List.getElem?_eq_getElem hi]
    rfl
/-- One edge more. -/
def mor (M : List Nat) (i k : Nat) : List Nat := M.set i (mk M i ||| 2 ^ k)
theorem mor_len (M : List Nat) (i k : Nat) : (mor M i k).length = M.length := by simp [mor]
theorem mor_nn (M : List Nat) (i k : Nat) : nn (mor M i k) = nn M := by simp [nn, mor_len]
theorem mor_mk {M : List Nat} {i k : Nat} (hi : i < M.length) (j : Nat) : mk (mor M i k) j = if j = i then mk M i ||| 2 ^ k else mk M j := by
  unfold mk mor
  rw [List.getD_eq_getElem?_getD, List.getElem?_set]
  by_cases e : i = j
  · subst e; simp [hi, mk]
  · have e' : ¬ j = i := fun q => e q.symm
    simp [e, e', List.getD_eq_getElem?_getD]
theorem mr_set {w : World} {g : Nat} {M : List Nat} {i k : Nat} (h : Mr w g M) (hi : i < M.length) : Mr (w.setCell ⟨g, i, none⟩ (.int .u32 ((mk M i ||| 2 ^ k : Nat) : Int))) g (mor M i k) := by
  obtain ⟨cur, h1, h2⟩ := h
  refine ⟨cur.setIfInBounds i (.int .u32 ((mk M i ||| 2 ^ k : Nat) : Int)), by simp [World.setCell, Array.getElem?_modify, h1], fun j hj => ?_⟩
  rw [mor_len] at hj
  rw [mor_mk hi, Array.getElem?_setIfInBounds]
  have hs : i < cur.size := (Array.getElem?_eq_some_iff.1 (h2 i hi)).1
  by_cases e : i = j
  · subst e; simp [hs]
  · have e' : ¬ j = i := fun q => e q.symm
    rw [if_neg e, if_neg e']
    exact h2 j hj
theorem mor_ok {M : List Nat} (h : MOk M) {i k : Nat} (hk : k < 32) : MOk (mor M i k) := fun x hx => by
  rcases List.mem_or_eq_of_mem_set hx with q | q
  · exact h x q
  · rw [q]; exact put_lt (mk_lt h i) hk
theorem mor_le {M : List Nat} {i k : Nat} (hi : i < M.length) : Le M (mor M i k) := by
  refine ⟨(mor_nn M i k).symm, fun x y hxy => ?_⟩
  obtain ⟨h1, h2, h3⟩ := wt_iff.1 hxy
  refine wt_iff.2 ⟨by rw [mor_nn]; exact h1, by rw [mor_nn]; exact h2, ?_⟩
  rw [mor_mk hi]
  by_cases e : x = i
  · rw [if_pos e, put_bit, ← e, h3, Bool.true_or]
  · rw [if_neg e]; exact h3
theorem mor_wt {M : List Nat} {i k : Nat} (hi : i < nn M) (hk : k < nn M) : wt (mor M i k) i k = true := by
  refine wt_iff.2 ⟨by rw [mor_nn]; exact hi, by rw [mor_nn]; exact hk, ?_⟩
  rw [mor_mk (by have := nn_len M; omega), if_pos rfl, put_bit]
  simp
theorem beh_none {M N : List Nat} {j x y : Nat} (h : Le M N) (hx : IsB M (j : Int) x) (hy : IsB N (j : Int) y) : x &&& (4294967295 - y) = 0 := by
  apply Nat.eq_of_testBit_eq
  intro i
  rw [Nat.testBit_and, Nat.zero_testBit]
  rcases e : x.testBit i with _ | _
  · rfl
  · have := (isB_nat hy i).2 (h.rea ((isB_nat hx i).1 e))
    have hi : i < 32 := bit_lt hx.1 e
    have e2 : 4294967295 - y = 2 ^ 32 - (y + 1) := by omega
    rw [e2, Nat.testBit_two_pow_sub_succ hy.1, this]
    simp

open Classical in
theorem isB_ex (M : List Nat) (n : Nat) : ∃ b, IsB M (n : Int) b := by
  refine ⟨bsm (fun i => decide (Rea M n i)) 32, bsm_lt _ 32, fun i => ?_⟩
  rw [bsm_bit, Int.toNat_natCast, Bool.and_eq_true, decide_eq_true_eq, decide_eq_true_eq]
  exact ⟨fun q => ⟨Int.natCast_nonneg n, q.2⟩, fun q => ⟨by have := q.2.lt.2; have := nn_le M; omega, q.2⟩⟩
/-- Both searches from a node, as numbers. -/
theorem pairs {w5 wr : World} {N R : List Nat} {m g g2 c1 c2 H1 H2 j : Nat} {vA vB : Int} (hb : Below w5.heap.size w5 wr)
    (CA : ∀ (W : World), Below w5.heap.size w5 W → ∀ (j : Nat), j < m → Calls Tryd.prog 19 #[.slice (some ⟨g, 0, none⟩) m c1, .int .i64 (j : Int)] W fun e w' => (∃ b : Nat, e = .returned (.int .u32 (b : Int)) ∧ IsB N (j : Int) b) ∧ Below W.heap.size W w')
    (CB : ∀ (W : World), Below w5.heap.size w5 W → ∀ (j : Nat), j < m → Calls Tryd.prog 19 #[.slice (some ⟨g2, 0, none⟩) m c2, .int .i64 (j : Int)] W fun e w' => (∃ b : Nat, e = .returned (.int .u32 (b : Int)) ∧ IsB R (j : Int) b) ∧ Below W.heap.size W w')
    (hbn : ∀ (j x y : Nat), IsB N (j : Int) x → IsB R (j : Int) y → x &&& (4294967295 - y) = 0)
    (y0 : wr.cell? ⟨H1, j, none⟩ = some (.int .i64 vA)) (y1 : wr.cell? ⟨H2, j, none⟩ = some (.int .i64 vB)) (h1 : H1 < wr.heap.size) (h2 : H2 < wr.heap.size) (cj : j < m) :
    ∃ xA xB : Nat, bits .andNot .u32 (xA : Int) (xB : Int) = 0 ∧
      (∀ (W : World), Below wr.heap.size wr W → Calls Tryd.prog 19 #[.slice (some ⟨g, 0, none⟩) m c1, .int .i64 (j : Int)] W fun e w' => e = .returned (.int .u32 (xA : Int)) ∧ Hid (Below wr.heap.size wr w') ∧ (w'.cell? ⟨H1, j, none⟩ = some (.int .i64 vA) ∧ w'.cell? ⟨H2, j, none⟩ = some (.int .i64 vB))) ∧
      ∀ (W : World), Below wr.heap.size wr W → Calls Tryd.prog 19 #[.slice (some ⟨g2, 0, none⟩) m c2, .int .i64 (j : Int)] W fun e w' => e = .returned (.int .u32 (xB : Int)) ∧ Hid (Below wr.heap.size wr w') ∧ (w'.cell? ⟨H1, j, none⟩ = some (.int .i64 vA) ∧ w'.cell? ⟨H2, j, none⟩ = some (.int .i64 vB)) := by
  obtain ⟨xA, hA⟩ := isB_ex N j
  obtain ⟨xB, hB⟩ := isB_ex R j
  refine ⟨xA, xB, ?_, fun W b => (CA W (hb.trans (b.mono hb.size)) j cj).mono fun e w' h => ?_, fun W b => (CB W (hb.trans (b.mono hb.size)) j cj).mono fun e w' h => ?_⟩
  · rw [u32_andnot_nat xA xB hA.1 hB.1, hbn j xA xB hA hB]; rfl
  · obtain ⟨⟨x, rfl, hx⟩, b'⟩ := h
    have bb := b.trans (b'.mono b.size)
    exact ⟨by rw [hx.one hA], hid bb, (bb.cell (p := ⟨H1, j, none⟩) h1).trans y0, (bb.cell (p := ⟨H2, j, none⟩) h2).trans y1⟩
  · obtain ⟨⟨x, rfl, hx⟩, b'⟩ := h
    have bb := b.trans (b'.mono b.size)
    exact ⟨by rw [hx.one hB], hid bb, (bb.cell (p := ⟨H1, j, none⟩) h1).trans y0, (bb.cell (p := ⟨H2, j, none⟩) h2).trans y1⟩

set_option maxRecDepth 100000 in
set_option maxHeartbeats 25600000 in
theorem mores (a : Option Addr) (cap : Nat) (M : List Nat) (x y : Int) (w : World) (hM : MOk M) (hcap : M.length ≤ cap) (_ : cap ≤ maxLen) (h : Ms w a M) (hnil : a = none → M.length = 0 ∧ cap = 0)
    (_ : -9223372036854775808 ≤ x) (_ : x < 9223372036854775808) (_ : -9223372036854775808 ≤ y) (_ : y < 9223372036854775808) (hT : Tab w) :
    Calls Tryd.prog 8 #[.slice a M.length cap, .int .i64 x, .int .i64 y] w fun e w' => e = .returned (.bool true) ∧ Below w.heap.size w w' := by
  obtain ⟨i0, hi0, hz0, hz1, hz2⟩ := info_parts infoU
  have hT0 := hT.lt
  have HT := hid hT
  have hN := take_ok hM 32
  have HN0 := hid (h.take 32)
  have e1 := take_len M
  have hnn := hid (take_nn M)
  have hle : (M.take 32).length ≤ M.length := by rw [List.length_take]; omega
  have hnone : Hid (a = none → (M.take 32).length = 0 ∧ cap = 0) := hid (fun e => by have := hnil e; rw [List.length_take]; omega)
  generalize M.take 32 = N at *
  have hn32 := nn_le N
  rw [hnn.out] at hn32
  have hnw := hid (ms_news HN0.out)
  have hml := hid (mI_len N)
  obtain ⟨m, hm⟩ : ∃ m, m = N.length := ⟨_, rfl⟩
  have HM := hid hm
  rw [← hm] at hn32 hle e1 hnone hml hnn
  clear h hT hnil hm
  go_enter Tryd.func8, Tryd.ntmps8
  go_wp2_with (at_builtin; refine wpList_append_any _ rfl _ _ 22 rfl w.heap.size 28 i0 (.int .u32 0) 1 4 Tryd.underlying22 hi0 hz0 hz1 hz2 rfl (by decide) _ _ _ rfl (World.ownsRow_nil _ _ _ _) a m cap (mI N) rfl hnone.out (by rw [hml.out, Nat.mul_one]) hnw.out (fun u hu => by obtain ⟨s, _, rfl⟩ := List.mem_map.1 hu; rfl) (by unfold maxLen; omega) (by omega) (by simp) ?_)
  intro v w1 own grw
  have own1 : w1.ownsRow w.heap.size 28 1 v N.length (mI N) := by rw [← HM.out]; simpa using own
  have B1 := hid ((Below.refl w.heap.size w).grown grw (Nat.le_refl _) (fun k hk => by simp [Value.ownBlock] at hk))
  clear own grw
  by_cases m0 : m = 0
  · obtain ⟨a0, c0, rfl⟩ : ∃ a0 c0, v = .slice a0 m c0 := by
      rw [HM.out]
      rcases own1.2 with ⟨q, hq⟩ | ⟨g, cp, cur, q, _⟩
      · exact ⟨none, 0, by rw [q, hq]⟩
      · exact ⟨_, cp, q⟩
    have W1 := hid (wakes (HT.out.below hT0 B1.out))
    have t0 : ((m : Int) == 0) = true := by rw [m0]; rfl
    clear own1 hnone hnw m0
    go_wp2_with fail
    refine W1.out.mono ?_
    rintro e w2 ⟨rfl, b2⟩
    have B2 := hid (B1.out.trans (b2.mono B1.out.size))
    have W2 := hid (wakes (HT.out.below hT0 B2.out))
    clear b2 B1 W1
    go_wp2_with fail
    refine W2.out.mono ?_
    rintro e w3 ⟨rfl, b3⟩
    have B3 := hid (B2.out.trans (b3.mono B2.out.size))
    clear b3 B2 W2
    go_wp2_with fail
    go_ret
    exact ⟨rfl, B3.out⟩
  · obtain ⟨g, c1, rfl, hc1, hc1m, hg, mr1⟩ := own_mr own1 (fun e => m0 (by rw [HM.out, e]; rfl))
    rw [← HM.out] at hc1 ⊢
    unfold maxLen at hc1m
    have MR1 := hid mr1
    have W1 := hid (wakes (HT.out.below hT0 B1.out))
    have t0 : ((m : Int) == 0) = false := by rw [beq_eq_false_iff_ne]; omega
    have hmp : 0 < m := by omega
    clear own1 hnone hnw m0 mr1
    obtain ⟨i, hi⟩ : ∃ q : Nat, (max 0 x).tmod (m : Int) = (q : Int) := Int.eq_ofNat_of_zero_le (Int.tmod_nonneg _ (by omega))
    have him : i < m := by
      have := Int.tmod_lt_of_pos (max 0 x) (show (0 : Int) < (m : Int) by omega)
      omega
    obtain ⟨k, hk⟩ : ∃ q : Nat, (max 0 y).tmod (m : Int) = (q : Int) := Int.eq_ofNat_of_zero_le (Int.tmod_nonneg _ (by omega))
    have hkm : k < m := by
      have := Int.tmod_lt_of_pos (max 0 y) (show (0 : Int) < (m : Int) by omega)
      omega
    go_wp2_with fail
    refine W1.out.mono ?_
    rintro e w2 ⟨rfl, b2⟩
    have MR2 := hid (MR1.out.of_block (b2.block _ MR1.out.lt))
    have B2 := hid (B1.out.trans (b2.mono B1.out.size))
    clear b2 B1 W1 MR1
    go_wp2_with fail
    go_quiet (fail)
    obtain ⟨X, hX⟩ : ∃ X, Hid (X = w2.drewN nq) := ⟨_, hid rfl⟩
    have MRX : Hid (Mr X g N) := hid (by rw [hX.out]; exact MR2.out)
    have BX : Hid (Below w.heap.size w X) := hid (by rw [hX.out]; exact below_drewN B2.out _)
    have hgX := MRX.out.lt
    rw [← hX.out]
    clear hi hk hX MR2 B2
    have hnw2 := hid (ms_news MRX.out.ms)
    have BX2 := BX.out.size
    go_wp2_with (at_builtin; refine wpList_append_any _ rfl _ _ 22 rfl X.heap.size 28 i0 (.int .u32 0) 1 4 Tryd.underlying22 hi0 hz0 hz1 hz2 rfl (by decide) _ _ _ rfl (World.ownsRow_nil _ _ _ _) (some ⟨g, 0, none⟩) m c1 (mI N) rfl (fun e => by cases e) (by rw [hml.out, Nat.mul_one]) hnw2.out (fun u hu => by obtain ⟨s, _, rfl⟩ := List.mem_map.1 hu; rfl) (by unfold maxLen; omega) (by omega) (by simp) ?_)
    intro v2 w3 own grw
    have own2 : w3.ownsRow X.heap.size 28 1 v2 N.length (mI N) := by rw [← HM.out]; simpa using own
    have b3 : Below X.heap.size X w3 := (Below.refl X.heap.size X).grown grw (Nat.le_refl _) (fun k hk => by simp [Value.ownBlock] at hk)
    obtain ⟨g2, c2, rfl, hc2, hc2m, hg2, mr2⟩ := own_mr own2 (fun e => by rw [HM.out, e] at hmp; simp at hmp)
    rw [← HM.out] at hc2 ⊢
    have MR3 := hid (MRX.out.of_block (b3.block _ hgX))
    have NR3 := hid mr2
    have B3 := hid (BX.out.trans (b3.mono BX.out.size))
    clear own grw own2 b3 MRX BX hnw2 mr2
    have hgg : g ≠ g2 := by omega
    have z0 := NR3.out.cell (j := i) (by rw [← HM.out]; exact him)
    have z1 := NR3.out.frozen i
    have zl := NR3.out.lt
    have hor := hid (u32_or_nat (mk N i) (2 ^ k) (mk_lt hN i) (by have : 2 ^ k < 2 ^ 32 := Nat.pow_lt_pow_right (by decide) (show k < 32 by omega); omega))
    rw [← pow_u32 (show k < 32 by omega)] at hor
    have hset := hid (mr_set (k := k) NR3.out (i := i) (by rw [← HM.out]; exact him))
    rw [← hor.out] at hset
    have MRs := hid (MR3.out.of_block (w' := w3.setCell ⟨g2, i, none⟩ (.int .u32 (bits .or .u32 (mk N i : Int) ((2 : Int) ^ k % 4294967296)))) (Below.heap_setCell _ _ _ _ (by show g ≠ g2; exact hgg)))
    have BS := hid (B3.out.setCell (p := ⟨g2, i, none⟩) (by show w.heap.size ≤ g2; omega) (.int .u32 (bits .or .u32 (mk N i : Int) ((2 : Int) ^ k % 4294967296))))
    generalize hq : mk N i = q at z0 hset MRs BS
    go_wp2_with fail
    go_region
    go_wp2_with fail
    obtain ⟨Y, hY⟩ : ∃ Y, Hid (Y = (w3.setCell ⟨g2, i, none⟩ (.int .u32 (bits .or .u32 (q : Int) ((2 : Int) ^ k % 4294967296)))).drew) := ⟨_, hid rfl⟩
    rw [← hY.out]
    have MRY : Hid (Mr Y g N) := hid (by rw [hY.out]; exact MRs.out)
    have NRY : Hid (Mr Y g2 (mor N i k)) := hid (by rw [hY.out]; exact hset.out)
    have BY : Hid (Below w.heap.size w Y) := hid (by rw [hY.out]; exact BS.out.drew)
    have hMN := hid (mor_ok (i := i) hN (show k < 32 by omega))
    have hlN : (mor N i k).length = m := by rw [mor_len]; exact HM.out.symm
    have hnN := hid ((mor_nn N i k).trans hnn.out)
    have hLe := hid (mor_le (M := N) (i := i) (k := k) (by rw [← HM.out]; exact him))
    have hWt := hid (mor_wt (M := N) (i := i) (k := k) (by rw [hnn.out]; exact him) (by rw [hnn.out]; exact hkm))
    have hdm := hid (fun j (hj : j < nn N) (hb : 0 ≤ (dps (mor N i k)).getD j 0) => dps_more hLe.out hj hb)
    have hbn := hid (fun (j x y : Nat) (hx : IsB N (j : Int) x) (hy : IsB (mor N i k) (j : Int) y) => beh_none hLe.out hx hy)
    have hrea : Hid (Rea (mor N i k) k i) := hid (.one hWt.out)
    have hdl1 := dps_len N
    have hdl2 := dps_len (mor N i k)
    rw [hnn.out] at hdl1 hdm
    rw [hnN.out] at hdl2
    generalize mor N i k = R at *
    have CD1 := hid (depths (cap := c1) MRY.out.ms hN (HT.out.below hT0 BY.out))
    rw [hnn.out, ← HM.out] at CD1
    clear hset MRs BS MR3 NR3 B3 z0 z1 zl hor hq hY hLe hWt
    refine CD1.out.mono ?_
    rintro e w4 ⟨⟨H1, rfl, I1⟩, b4⟩
    have MR4 := hid (MRY.out.of_block (b4.block _ MRY.out.lt))
    have NR4 := hid (NRY.out.of_block (b4.block _ NRY.out.lt))
    have HI1 := hid I1
    have B4 := hid (BY.out.trans (b4.mono BY.out.size))
    clear I1 b4 CD1 MRY NRY BY
    have CD2 := hid (depths (cap := c2) NR4.out.ms hMN.out (HT.out.below hT0 B4.out))
    rw [hnN.out, hlN] at CD2
    go_wp2_with fail
    refine CD2.out.mono ?_
    rintro e w5 ⟨⟨H2, rfl, I2⟩, b5⟩
    have MR5 := hid (MR4.out.of_block (b5.block _ MR4.out.lt))
    have NR5 := hid (NR4.out.of_block (b5.block _ NR4.out.lt))
    have HI1' := hid (HI1.out.below b5)
    have HI2 := hid I2
    have B5 := hid (B4.out.trans (b5.mono B4.out.size))
    clear I2 b5 CD2 MR4 NR4 B4 HI1
    have hT5 : 0 < w5.heap.size := (HT.out.below hT0 B5.out).lt
    have CA := hid (fun (W : World) (b : Below w5.heap.size w5 W) (j : Nat) (hj : j < nn N) => behind (cap := c1) (MR5.out.ms.below b) hN ((HT.out.below hT0 B5.out).below hT5 b) hj)
    have CB := hid (fun (W : World) (b : Below w5.heap.size w5 W) (j : Nat) (hj : j < nn R) => behind (cap := c2) (NR5.out.ms.below b) hMN.out ((HT.out.below hT0 B5.out).below hT5 b) hj)
    rw [hnn.out, ← HM.out] at CA
    rw [hnN.out, hlN] at CB
    generalize dps N = dA at *
    generalize dps R = dB at *
    clear hlN
    go_wp2_with fail
    go_loopw [60] (fun jv wr => ∃ j : Nat, j ≤ m ∧ jv = .int .i64 (j : Int) ∧ Below w5.heap.size w5 wr) (fun jv _ => m - (intOf jv).toNat)
    case atStart => exact ⟨0, Nat.zero_le _, rfl, Below.refl _ _⟩
    case round =>
      obtain ⟨j, hj, rfl, hb⟩ := hrel
      by_cases cj : j < m
      · obtain ⟨_, _, h1, hgA, y0⟩ := (HI1'.out.below hb).at (i := j) (s := dA.getD j 0) (by rw [List.getD_eq_getElem?_getD, List.getElem?_eq_getElem (by omega)]; rfl)
        cases h1
        obtain ⟨_, _, h1, hgB, y1⟩ := (HI2.out.below hb).at (i := j) (s := dB.getD j 0) (by rw [List.getD_eq_getElem?_getD, List.getElem?_eq_getElem (by omega)]; rfl)
        cases h1
        rw [Nat.zero_add] at y0 y1
        by_cases cb : 0 ≤ dB.getD j 0
        · obtain ⟨q1, q2⟩ := hdm.out j cj cb
          have t0 : decide (0 ≤ dB.getD j 0) = true := decide_eq_true cb
          have t1 : decide (dA.getD j 0 < 0) = false := decide_eq_false (by omega)
          have t2 : decide (dB.getD j 0 < dA.getD j 0) = false := decide_eq_false (by omega)
          have CA0 := hid (fun (W : World) (b : Below wr.heap.size wr W) => CA.out W (hb.trans (b.mono hb.size)) j cj)
          have CB0 := hid (fun (W : World) (b : Below wr.heap.size wr W) => CB.out W (hb.trans (b.mono hb.size)) j cj)
          generalize dA.getD j 0 = vA at *
          generalize dB.getD j 0 = vB at *
          obtain ⟨xA, xB, hAB, ca, cb2⟩ := pairs hb CA.out CB.out hbn.out y0 y1 hgA hgB cj
          have CA0 := hid ca
          have CB0 := hid cb2
          have BD := (Below.refl wr.heap.size wr).drew
          have t3 : bits .andNot .u32 (xA : Int) (xB : Int) = 0 := hAB
          clear ca cb2 hAB q1 q2 cb CA CB
          go_wp2_with fail
          refine wp_region_noPanic ?_
          refine wp_region_held_drew (S := fun W => W.cell? ⟨H1, j, none⟩ = some (.int .i64 vA) ∧ W.cell? ⟨H2, j, none⟩ = some (.int .i64 vB)) (by kernel_rfl) ⟨y0, y1⟩ (fun hH => ?_)
          refine wpAnyH_take (i := 0) (oi := { dst := some 63, op := Op.move (Operand.tmp 10), type := 25, pos := "law.go:129", after := #[], guard := none }) (v := .slice (some ⟨H2, 0, none⟩) m m) rfl (by kernel_rfl) (by kernel_rfl) (by kernel_rfl) (fun _ _ _ h => h) (Or.inl ⟨by rfl, by (intro w hSw; clear hSw; go_simp)⟩) hH ?_
          simp only [Act.put, List.setIfInBounds_toArray, List.set_cons_zero, List.set_cons_succ]
          refine wpAnyH_take (i := 1) (oi := { dst := some 64, op := Op.move (Operand.tmp 11), type := 3, pos := "law.go:129", after := #[], guard := none }) (v := .int .i64 (j : Int)) rfl (by kernel_rfl) (by kernel_rfl) (by kernel_rfl) (fun _ _ _ h => h) (Or.inl ⟨by rfl, by (intro w hSw; clear hSw; go_simp)⟩) hH ?_
          simp only [Act.put, List.setIfInBounds_toArray, List.set_cons_zero, List.set_cons_succ]
          refine wpAnyH_take (i := 2) (oi := { dst := some 65, op := Op.indexAddr 25 (Operand.tmp 63) (Operand.tmp 64), type := 0, pos := "law.go:129", after := #[{ on := 0, ground := Ground.data }, { on := 1, ground := Ground.data }], guard := none }) (v := .pointer (some ⟨H2, j, none⟩)) rfl (by kernel_rfl) (by kernel_rfl) (by kernel_rfl) (fun _ _ _ h => h) (Or.inl ⟨by rfl, by (intro w hSw; clear hSw; go_simp)⟩) hH ?_
          simp only [Act.put, List.setIfInBounds_toArray, List.set_cons_zero, List.set_cons_succ]
          refine wpAnyH_take (i := 3) (oi := { dst := some 66, op := Op.load 3 (Operand.tmp 65), type := 3, pos := "law.go:129", after := #[{ on := 2, ground := Ground.data }], guard := none }) (v := .int .i64 vB) rfl (by kernel_rfl) (by kernel_rfl) (by kernel_rfl) (fun _ _ _ h => h) (Or.inl ⟨by rfl, by (intro w hSw; (try dsimp only at hSw); go_simp)⟩) hH ?_
          simp only [Act.put, List.setIfInBounds_toArray, List.set_cons_zero, List.set_cons_succ]
          refine wpAnyH_take (i := 4) (oi := { dst := some 67, op := Op.binOp BinOp.geq 3 (Operand.tmp 66) (Operand.const (Value.int IntKind.i64 0)) 3, type := 4, pos := "law.go:129", after := #[{ on := 3, ground := Ground.data }], guard := none }) (v := .bool true) rfl (by kernel_rfl) (by kernel_rfl) (by kernel_rfl) (fun _ _ _ h => h) (Or.inl ⟨by rfl, by (intro w hSw; clear hSw; go_simp)⟩) hH ?_
          simp only [Act.put, List.setIfInBounds_toArray, List.set_cons_zero, List.set_cons_succ]
          refine wpAnyH_take (i := 5) (oi := { dst := some 68, op := Op.move (Operand.tmp 67), type := 4, pos := "law.go:129", after := #[{ on := 4, ground := Ground.data }], guard := none }) (v := .bool true) rfl (by kernel_rfl) (by kernel_rfl) (by kernel_rfl) (fun _ _ _ h => h) (Or.inl ⟨by rfl, by (intro w hSw; clear hSw; go_simp)⟩) hH ?_
          simp only [Act.put, List.setIfInBounds_toArray, List.set_cons_zero, List.set_cons_succ]
          refine wpAnyH_take (i := 6) (oi := { dst := some 69, op := Op.move (Operand.tmp 9), type := 25, pos := "law.go:129", after := #[{ on := 5, ground := Ground.guard }], guard := some (5, true) }) (v := .slice (some ⟨H1, 0, none⟩) m m) rfl (by kernel_rfl) (by kernel_rfl) (by kernel_rfl) (fun _ _ _ h => h) (Or.inl ⟨by rfl, by (intro w hSw; clear hSw; go_simp)⟩) hH ?_
          simp only [Act.put, List.setIfInBounds_toArray, List.set_cons_zero, List.set_cons_succ]
          refine wpAnyH_take (i := 7) (oi := { dst := some 70, op := Op.move (Operand.tmp 11), type := 3, pos := "law.go:129", after := #[{ on := 5, ground := Ground.guard }], guard := some (5, true) }) (v := .int .i64 (j : Int)) rfl (by kernel_rfl) (by kernel_rfl) (by kernel_rfl) (fun _ _ _ h => h) (Or.inl ⟨by rfl, by (intro w hSw; clear hSw; go_simp)⟩) hH ?_
          simp only [Act.put, List.setIfInBounds_toArray, List.set_cons_zero, List.set_cons_succ]
          refine wpAnyH_take (i := 8) (oi := { dst := some 71, op := Op.indexAddr 25 (Operand.tmp 69) (Operand.tmp 70), type := 0, pos := "law.go:129", after := #[{ on := 6, ground := Ground.data }, { on := 7, ground := Ground.data }, { on := 5, ground := Ground.guard }], guard := some (5, true) }) (v := .pointer (some ⟨H1, j, none⟩)) rfl (by kernel_rfl) (by kernel_rfl) (by kernel_rfl) (fun _ _ _ h => h) (Or.inl ⟨by rfl, by (intro w hSw; clear hSw; go_simp)⟩) hH ?_
          simp only [Act.put, List.setIfInBounds_toArray, List.set_cons_zero, List.set_cons_succ]
          refine wpAnyH_take (i := 9) (oi := { dst := some 72, op := Op.load 3 (Operand.tmp 71), type := 3, pos := "law.go:129", after := #[{ on := 8, ground := Ground.data }, { on := 5, ground := Ground.guard }], guard := some (5, true) }) (v := .int .i64 vA) rfl (by kernel_rfl) (by kernel_rfl) (by kernel_rfl) (fun _ _ _ h => h) (Or.inl ⟨by rfl, by (intro w hSw; (try dsimp only at hSw); go_simp)⟩) hH ?_
          simp only [Act.put, List.setIfInBounds_toArray, List.set_cons_zero, List.set_cons_succ]
          refine wpAnyH_take (i := 10) (oi := { dst := some 73, op := Op.binOp BinOp.lss 3 (Operand.tmp 72) (Operand.const (Value.int IntKind.i64 0)) 3, type := 4, pos := "law.go:129", after := #[{ on := 9, ground := Ground.data }, { on := 5, ground := Ground.guard }], guard := some (5, true) }) (v := .bool false) rfl (by kernel_rfl) (by kernel_rfl) (by kernel_rfl) (fun _ _ _ h => h) (Or.inl ⟨by rfl, by (intro w hSw; clear hSw; go_simp)⟩) hH ?_
          simp only [Act.put, List.setIfInBounds_toArray, List.set_cons_zero, List.set_cons_succ]
          refine wpAnyH_take (i := 11) (oi := { dst := some 74, op := Op.move (Operand.tmp 73), type := 4, pos := "law.go:129", after := #[{ on := 10, ground := Ground.data }, { on := 5, ground := Ground.chain }, { on := 5, ground := Ground.guard }], guard := some (5, true) }) (v := .bool false) rfl (by kernel_rfl) (by kernel_rfl) (by kernel_rfl) (fun _ _ _ h => h) (Or.inl ⟨by rfl, by (intro w hSw; clear hSw; go_simp)⟩) hH ?_
          simp only [Act.put, List.setIfInBounds_toArray, List.set_cons_zero, List.set_cons_succ]
          refine wpAnyH_take (i := 12) (oi := { dst := some 75, op := Op.move (Operand.tmp 10), type := 25, pos := "law.go:129", after := #[{ on := 11, ground := Ground.guard }], guard := some (11, false) }) (v := .slice (some ⟨H2, 0, none⟩) m m) rfl (by kernel_rfl) (by kernel_rfl) (by kernel_rfl) (fun _ _ _ h => h) (Or.inl ⟨by rfl, by (intro w hSw; clear hSw; go_simp)⟩) hH ?_
          simp only [Act.put, List.setIfInBounds_toArray, List.set_cons_zero, List.set_cons_succ]
          refine wpAnyH_take (i := 13) (oi := { dst := some 76, op := Op.move (Operand.tmp 11), type := 3, pos := "law.go:129", after := #[{ on := 11, ground := Ground.guard }], guard := some (11, false) }) (v := .int .i64 (j : Int)) rfl (by kernel_rfl) (by kernel_rfl) (by kernel_rfl) (fun _ _ _ h => h) (Or.inl ⟨by rfl, by (intro w hSw; clear hSw; go_simp)⟩) hH ?_
          simp only [Act.put, List.setIfInBounds_toArray, List.set_cons_zero, List.set_cons_succ]
          refine wpAnyH_take (i := 14) (oi := { dst := some 77, op := Op.indexAddr 25 (Operand.tmp 75) (Operand.tmp 76), type := 0, pos := "law.go:129", after := #[{ on := 12, ground := Ground.data }, { on := 13, ground := Ground.data }, { on := 11, ground := Ground.guard }], guard := some (11, false) }) (v := .pointer (some ⟨H2, j, none⟩)) rfl (by kernel_rfl) (by kernel_rfl) (by kernel_rfl) (fun _ _ _ h => h) (Or.inl ⟨by rfl, by (intro w hSw; clear hSw; go_simp)⟩) hH ?_
          simp only [Act.put, List.setIfInBounds_toArray, List.set_cons_zero, List.set_cons_succ]
          refine wpAnyH_take (i := 15) (oi := { dst := some 78, op := Op.load 3 (Operand.tmp 77), type := 3, pos := "law.go:129", after := #[{ on := 14, ground := Ground.data }, { on := 11, ground := Ground.guard }], guard := some (11, false) }) (v := .int .i64 vB) rfl (by kernel_rfl) (by kernel_rfl) (by kernel_rfl) (fun _ _ _ h => h) (Or.inl ⟨by rfl, by (intro w hSw; (try dsimp only at hSw); go_simp)⟩) hH ?_
          simp only [Act.put, List.setIfInBounds_toArray, List.set_cons_zero, List.set_cons_succ]
          refine wpAnyH_take (i := 16) (oi := { dst := some 79, op := Op.move (Operand.tmp 9), type := 25, pos := "law.go:129", after := #[{ on := 11, ground := Ground.guard }], guard := some (11, false) }) (v := .slice (some ⟨H1, 0, none⟩) m m) rfl (by kernel_rfl) (by kernel_rfl) (by kernel_rfl) (fun _ _ _ h => h) (Or.inl ⟨by rfl, by (intro w hSw; clear hSw; go_simp)⟩) hH ?_
          simp only [Act.put, List.setIfInBounds_toArray, List.set_cons_zero, List.set_cons_succ]
          refine wpAnyH_take (i := 17) (oi := { dst := some 80, op := Op.move (Operand.tmp 11), type := 3, pos := "law.go:129", after := #[{ on := 11, ground := Ground.guard }], guard := some (11, false) }) (v := .int .i64 (j : Int)) rfl (by kernel_rfl) (by kernel_rfl) (by kernel_rfl) (fun _ _ _ h => h) (Or.inl ⟨by rfl, by (intro w hSw; clear hSw; go_simp)⟩) hH ?_
          simp only [Act.put, List.setIfInBounds_toArray, List.set_cons_zero, List.set_cons_succ]
          refine wpAnyH_take (i := 18) (oi := { dst := some 81, op := Op.indexAddr 25 (Operand.tmp 79) (Operand.tmp 80), type := 0, pos := "law.go:129", after := #[{ on := 16, ground := Ground.data }, { on := 17, ground := Ground.data }, { on := 11, ground := Ground.guard }], guard := some (11, false) }) (v := .pointer (some ⟨H1, j, none⟩)) rfl (by kernel_rfl) (by kernel_rfl) (by kernel_rfl) (fun _ _ _ h => h) (Or.inl ⟨by rfl, by (intro w hSw; clear hSw; go_simp)⟩) hH ?_
          simp only [Act.put, List.setIfInBounds_toArray, List.set_cons_zero, List.set_cons_succ]
          refine wpAnyH_take (i := 19) (oi := { dst := some 82, op := Op.load 3 (Operand.tmp 81), type := 3, pos := "law.go:129", after := #[{ on := 18, ground := Ground.data }, { on := 11, ground := Ground.guard }], guard := some (11, false) }) (v := .int .i64 vA) rfl (by kernel_rfl) (by kernel_rfl) (by kernel_rfl) (fun _ _ _ h => h) (Or.inl ⟨by rfl, by (intro w hSw; (try dsimp only at hSw); go_simp)⟩) hH ?_
          simp only [Act.put, List.setIfInBounds_toArray, List.set_cons_zero, List.set_cons_succ]
          refine wpAnyH_take (i := 20) (oi := { dst := some 83, op := Op.binOp BinOp.lss 3 (Operand.tmp 78) (Operand.tmp 82) 3, type := 4, pos := "law.go:129", after := #[{ on := 15, ground := Ground.data }, { on := 19, ground := Ground.data }, { on := 11, ground := Ground.guard }], guard := some (11, false) }) (v := .bool false) rfl (by kernel_rfl) (by kernel_rfl) (by kernel_rfl) (fun _ _ _ h => h) (Or.inl ⟨by rfl, by (intro w hSw; clear hSw; go_simp)⟩) hH ?_
          simp only [Act.put, List.setIfInBounds_toArray, List.set_cons_zero, List.set_cons_succ]
          refine wpAnyH_take (i := 21) (oi := { dst := some 84, op := Op.pick (Operand.tmp 74) (Operand.const (Value.bool true)) (Operand.tmp 83), type := 4, pos := "law.go:129", after := #[{ on := 11, ground := Ground.data }, { on := 20, ground := Ground.data }, { on := 5, ground := Ground.guard }], guard := some (5, true) }) (v := .bool false) rfl (by kernel_rfl) (by kernel_rfl) (by kernel_rfl) (fun _ _ _ h => h) (Or.inl ⟨by rfl, by (intro w hSw; clear hSw; go_simp)⟩) hH ?_
          simp only [Act.put, List.setIfInBounds_toArray, List.set_cons_zero, List.set_cons_succ]
          refine wpAnyH_take (i := 22) (oi := { dst := some 85, op := Op.pick (Operand.tmp 68) (Operand.tmp 84) (Operand.const (Value.bool false)), type := 4, pos := "law.go:129", after := #[{ on := 5, ground := Ground.data }, { on := 21, ground := Ground.data }], guard := none }) (v := .bool false) rfl (by kernel_rfl) (by kernel_rfl) (by kernel_rfl) (fun _ _ _ h => h) (Or.inl ⟨by rfl, by (intro w hSw; clear hSw; go_simp)⟩) hH ?_
          simp only [Act.put, List.setIfInBounds_toArray, List.set_cons_zero, List.set_cons_succ]
          refine wpAnyH_take (i := 23) (oi := { dst := some 86, op := Op.move (Operand.tmp 85), type := 4, pos := "law.go:129", after := #[{ on := 22, ground := Ground.data }, { on := 11, ground := Ground.chain }], guard := none }) (v := .bool false) rfl (by kernel_rfl) (by kernel_rfl) (by kernel_rfl) (fun _ _ _ h => h) (Or.inl ⟨by rfl, by (intro w hSw; clear hSw; go_simp)⟩) hH ?_
          simp only [Act.put, List.setIfInBounds_toArray, List.set_cons_zero, List.set_cons_succ]
          refine wpAnyH_take (i := 24) (oi := { dst := some 87, op := Op.move (Operand.tmp 0), type := 22, pos := "law.go:129", after := #[{ on := 23, ground := Ground.guard }], guard := some (23, false) }) (v := .slice (some ⟨g, 0, none⟩) m c1) rfl (by kernel_rfl) (by kernel_rfl) (by kernel_rfl) (fun _ _ _ h => h) (Or.inl ⟨by rfl, by (intro w hSw; clear hSw; go_simp)⟩) hH ?_
          simp only [Act.put, List.setIfInBounds_toArray, List.set_cons_zero, List.set_cons_succ]
          refine wpAnyH_take (i := 25) (oi := { dst := some 88, op := Op.move (Operand.tmp 11), type := 3, pos := "law.go:129", after := #[{ on := 23, ground := Ground.guard }], guard := some (23, false) }) (v := .int .i64 (j : Int)) rfl (by kernel_rfl) (by kernel_rfl) (by kernel_rfl) (fun _ _ _ h => h) (Or.inl ⟨by rfl, by (intro w hSw; clear hSw; go_simp)⟩) hH ?_
          simp only [Act.put, List.setIfInBounds_toArray, List.set_cons_zero, List.set_cons_succ]
          refine wpAnyH_take (i := 27) (oi := { dst := some 90, op := Op.move (Operand.tmp 8), type := 22, pos := "law.go:129", after := #[{ on := 23, ground := Ground.guard }], guard := some (23, false) }) (v := .slice (some ⟨g2, 0, none⟩) m c2) rfl (by kernel_rfl) (by kernel_rfl) (by kernel_rfl) (fun _ _ _ h => h) (Or.inl ⟨by rfl, by (intro w hSw; clear hSw; go_simp)⟩) hH ?_
          simp only [Act.put, List.setIfInBounds_toArray, List.set_cons_zero, List.set_cons_succ]
          refine wpAnyH_take (i := 28) (oi := { dst := some 91, op := Op.move (Operand.tmp 11), type := 3, pos := "law.go:129", after := #[{ on := 23, ground := Ground.guard }], guard := some (23, false) }) (v := .int .i64 (j : Int)) rfl (by kernel_rfl) (by kernel_rfl) (by kernel_rfl) (fun _ _ _ h => h) (Or.inl ⟨by rfl, by (intro w hSw; clear hSw; go_simp)⟩) hH ?_
          simp only [Act.put, List.setIfInBounds_toArray, List.set_cons_zero, List.set_cons_succ]
          refine wpAnyH_ready (rs := [26]) (by kernel_rfl) (by simp) ?_
          refine AllReadyH.cons (o := { dst := some 89, op := Op.call { callee := Callee.value (Operand.func 19), args := #[Operand.tmp 87, Operand.tmp 88], argTypes := #[22, 3] }, type := 28, pos := "law.go:129", after := #[{ on := 24, ground := Ground.data }, { on := 25, ground := Ground.data }, { on := 23, ground := Ground.chain }, { on := 23, ground := Ground.guard }], guard := some (23, false) }) rfl (fun K hK => ?_) AllReadyH.nil
          go_simp
          refine (CA0.out _ BD).mono ?_
          rintro e w6 ⟨rfl, B6, s6⟩
          go_wp2_with fail
          refine hK.out _ _ s6 (fun hH1 => ?_)
          clear hK K
          refine wpAnyH_ready (rs := [29]) (by kernel_rfl) (by simp) ?_
          refine AllReadyH.cons (o := { dst := some 92, op := Op.call { callee := Callee.value (Operand.func 19), args := #[Operand.tmp 90, Operand.tmp 91], argTypes := #[22, 3] }, type := 28, pos := "law.go:129", after := #[{ on := 27, ground := Ground.data }, { on := 28, ground := Ground.data }, { on := 26, ground := Ground.chain }, { on := 23, ground := Ground.guard }], guard := some (23, false) }) rfl (fun K hK => ?_) AllReadyH.nil
          go_simp
          refine (CB0.out _ B6.out).mono ?_
          rintro e w7 ⟨rfl, B7, s7⟩
          go_wp2_with fail
          refine hK.out _ _ s7 (fun hH2 => ?_)
          clear hK K
          refine wpAnyH_take (i := 30) (oi := { dst := some 93, op := Op.binOp BinOp.andNot 28 (Operand.tmp 89) (Operand.tmp 92) 28, type := 28, pos := "law.go:129", after := #[{ on := 26, ground := Ground.data }, { on := 29, ground := Ground.data }, { on := 23, ground := Ground.guard }], guard := some (23, false) }) (v := .int .u32 0) rfl (by kernel_rfl) (by kernel_rfl) (by kernel_rfl) (fun _ _ _ h => h) (Or.inl ⟨by rfl, by (intro w hSw; clear hSw; go_simp)⟩) hH2 ?_
          simp only [Act.put, List.setIfInBounds_toArray, List.set_cons_zero, List.set_cons_succ]
          refine wpAnyH_take (i := 31) (oi := { dst := some 94, op := Op.binOp BinOp.neq 28 (Operand.tmp 93) (Operand.const (Value.int IntKind.u32 0)) 28, type := 4, pos := "law.go:129", after := #[{ on := 30, ground := Ground.data }, { on := 23, ground := Ground.guard }], guard := some (23, false) }) (v := .bool false) rfl (by kernel_rfl) (by kernel_rfl) (by kernel_rfl) (fun _ _ _ h => h) (Or.inl ⟨by rfl, by (intro w hSw; clear hSw; go_simp)⟩) hH2 ?_
          simp only [Act.put, List.setIfInBounds_toArray, List.set_cons_zero, List.set_cons_succ]
          refine wpAnyH_take (i := 32) (oi := { dst := some 95, op := Op.pick (Operand.tmp 86) (Operand.const (Value.bool true)) (Operand.tmp 94), type := 4, pos := "law.go:129", after := #[{ on := 23, ground := Ground.data }, { on := 31, ground := Ground.data }], guard := none }) (v := .bool false) rfl (by kernel_rfl) (by kernel_rfl) (by kernel_rfl) (fun _ _ _ h => h) (Or.inl ⟨by rfl, by (intro w hSw; clear hSw; go_simp)⟩) hH2 ?_
          simp only [Act.put, List.setIfInBounds_toArray, List.set_cons_zero, List.set_cons_succ]
          refine wpAnyH_done (by kernel_rfl) ?_ _
          refine NoPanic.normal ?_
          go_wp2_with fail
          go_roundw
          case rel => exact ⟨j + 1, cj, by go_num, hb.trans (B7.out.mono hb.size)⟩
          case measure => simp [intOf]; omega
        · have t0 : decide (0 ≤ dB.getD j 0) = false := decide_eq_false cb
          generalize dA.getD j 0 = vA at *
          generalize dB.getD j 0 = vB at *
          obtain ⟨xA, xB, hAB, ca, cb2⟩ := pairs hb CA.out CB.out hbn.out y0 y1 hgA hgB cj
          have CA0 := hid ca
          have CB0 := hid cb2
          have BD := (Below.refl wr.heap.size wr).drew
          have t3 : bits .andNot .u32 (xA : Int) (xB : Int) = 0 := hAB
          clear ca cb2 hAB cb CA CB
          go_wp2_with fail
          refine wp_region_noPanic ?_
          refine wp_region_held_drew (S := fun W => W.cell? ⟨H1, j, none⟩ = some (.int .i64 vA) ∧ W.cell? ⟨H2, j, none⟩ = some (.int .i64 vB)) (by kernel_rfl) ⟨y0, y1⟩ (fun hH => ?_)
          refine wpAnyH_take (i := 0) (oi := { dst := some 63, op := Op.move (Operand.tmp 10), type := 25, pos := "law.go:129", after := #[], guard := none }) (v := .slice (some ⟨H2, 0, none⟩) m m) rfl (by kernel_rfl) (by kernel_rfl) (by kernel_rfl) (fun _ _ _ h => h) (Or.inl ⟨by rfl, by (intro w hSw; clear hSw; go_simp)⟩) hH ?_
          simp only [Act.put, List.setIfInBounds_toArray, List.set_cons_zero, List.set_cons_succ]
          refine wpAnyH_take (i := 1) (oi := { dst := some 64, op := Op.move (Operand.tmp 11), type := 3, pos := "law.go:129", after := #[], guard := none }) (v := .int .i64 (j : Int)) rfl (by kernel_rfl) (by kernel_rfl) (by kernel_rfl) (fun _ _ _ h => h) (Or.inl ⟨by rfl, by (intro w hSw; clear hSw; go_simp)⟩) hH ?_
          simp only [Act.put, List.setIfInBounds_toArray, List.set_cons_zero, List.set_cons_succ]
          refine wpAnyH_take (i := 2) (oi := { dst := some 65, op := Op.indexAddr 25 (Operand.tmp 63) (Operand.tmp 64), type := 0, pos := "law.go:129", after := #[{ on := 0, ground := Ground.data }, { on := 1, ground := Ground.data }], guard := none }) (v := .pointer (some ⟨H2, j, none⟩)) rfl (by kernel_rfl) (by kernel_rfl) (by kernel_rfl) (fun _ _ _ h => h) (Or.inl ⟨by rfl, by (intro w hSw; clear hSw; go_simp)⟩) hH ?_
          simp only [Act.put, List.setIfInBounds_toArray, List.set_cons_zero, List.set_cons_succ]
          refine wpAnyH_take (i := 3) (oi := { dst := some 66, op := Op.load 3 (Operand.tmp 65), type := 3, pos := "law.go:129", after := #[{ on := 2, ground := Ground.data }], guard := none }) (v := .int .i64 vB) rfl (by kernel_rfl) (by kernel_rfl) (by kernel_rfl) (fun _ _ _ h => h) (Or.inl ⟨by rfl, by (intro w hSw; (try dsimp only at hSw); go_simp)⟩) hH ?_
          simp only [Act.put, List.setIfInBounds_toArray, List.set_cons_zero, List.set_cons_succ]
          refine wpAnyH_take (i := 4) (oi := { dst := some 67, op := Op.binOp BinOp.geq 3 (Operand.tmp 66) (Operand.const (Value.int IntKind.i64 0)) 3, type := 4, pos := "law.go:129", after := #[{ on := 3, ground := Ground.data }], guard := none }) (v := .bool false) rfl (by kernel_rfl) (by kernel_rfl) (by kernel_rfl) (fun _ _ _ h => h) (Or.inl ⟨by rfl, by (intro w hSw; clear hSw; go_simp)⟩) hH ?_
          simp only [Act.put, List.setIfInBounds_toArray, List.set_cons_zero, List.set_cons_succ]
          refine wpAnyH_take (i := 5) (oi := { dst := some 68, op := Op.move (Operand.tmp 67), type := 4, pos := "law.go:129", after := #[{ on := 4, ground := Ground.data }], guard := none }) (v := .bool false) rfl (by kernel_rfl) (by kernel_rfl) (by kernel_rfl) (fun _ _ _ h => h) (Or.inl ⟨by rfl, by (intro w hSw; clear hSw; go_simp)⟩) hH ?_
          simp only [Act.put, List.setIfInBounds_toArray, List.set_cons_zero, List.set_cons_succ]
          refine wpAnyH_take (i := 6) (oi := { dst := some 69, op := Op.move (Operand.tmp 9), type := 25, pos := "law.go:129", after := #[{ on := 5, ground := Ground.guard }], guard := some (5, true) }) (v := undef) rfl (by kernel_rfl) (by kernel_rfl) (by kernel_rfl) (fun _ _ _ h => h) (Or.inr ⟨by rfl, rfl⟩) hH ?_
          simp only [Act.put, List.setIfInBounds_toArray, List.set_cons_zero, List.set_cons_succ]
          refine wpAnyH_take (i := 7) (oi := { dst := some 70, op := Op.move (Operand.tmp 11), type := 3, pos := "law.go:129", after := #[{ on := 5, ground := Ground.guard }], guard := some (5, true) }) (v := undef) rfl (by kernel_rfl) (by kernel_rfl) (by kernel_rfl) (fun _ _ _ h => h) (Or.inr ⟨by rfl, rfl⟩) hH ?_
          simp only [Act.put, List.setIfInBounds_toArray, List.set_cons_zero, List.set_cons_succ]
          refine wpAnyH_take (i := 8) (oi := { dst := some 71, op := Op.indexAddr 25 (Operand.tmp 69) (Operand.tmp 70), type := 0, pos := "law.go:129", after := #[{ on := 6, ground := Ground.data }, { on := 7, ground := Ground.data }, { on := 5, ground := Ground.guard }], guard := some (5, true) }) (v := undef) rfl (by kernel_rfl) (by kernel_rfl) (by kernel_rfl) (fun _ _ _ h => h) (Or.inr ⟨by rfl, rfl⟩) hH ?_
          simp only [Act.put, List.setIfInBounds_toArray, List.set_cons_zero, List.set_cons_succ]
          refine wpAnyH_take (i := 9) (oi := { dst := some 72, op := Op.load 3 (Operand.tmp 71), type := 3, pos := "law.go:129", after := #[{ on := 8, ground := Ground.data }, { on := 5, ground := Ground.guard }], guard := some (5, true) }) (v := undef) rfl (by kernel_rfl) (by kernel_rfl) (by kernel_rfl) (fun _ _ _ h => h) (Or.inr ⟨by rfl, rfl⟩) hH ?_
          simp only [Act.put, List.setIfInBounds_toArray, List.set_cons_zero, List.set_cons_succ]
          refine wpAnyH_take (i := 10) (oi := { dst := some 73, op := Op.binOp BinOp.lss 3 (Operand.tmp 72) (Operand.const (Value.int IntKind.i64 0)) 3, type := 4, pos := "law.go:129", after := #[{ on := 9, ground := Ground.data }, { on := 5, ground := Ground.guard }], guard := some (5, true) }) (v := undef) rfl (by kernel_rfl) (by kernel_rfl) (by kernel_rfl) (fun _ _ _ h => h) (Or.inr ⟨by rfl, rfl⟩) hH ?_
          simp only [Act.put, List.setIfInBounds_toArray, List.set_cons_zero, List.set_cons_succ]
          refine wpAnyH_take (i := 11) (oi := { dst := some 74, op := Op.move (Operand.tmp 73), type := 4, pos := "law.go:129", after := #[{ on := 10, ground := Ground.data }, { on := 5, ground := Ground.chain }, { on := 5, ground := Ground.guard }], guard := some (5, true) }) (v := undef) rfl (by kernel_rfl) (by kernel_rfl) (by kernel_rfl) (fun _ _ _ h => h) (Or.inr ⟨by rfl, rfl⟩) hH ?_
          simp only [Act.put, List.setIfInBounds_toArray, List.set_cons_zero, List.set_cons_succ]
          refine wpAnyH_take (i := 12) (oi := { dst := some 75, op := Op.move (Operand.tmp 10), type := 25, pos := "law.go:129", after := #[{ on := 11, ground := Ground.guard }], guard := some (11, false) }) (v := undef) rfl (by kernel_rfl) (by kernel_rfl) (by kernel_rfl) (fun _ _ _ h => h) (Or.inr ⟨by rfl, rfl⟩) hH ?_
          simp only [Act.put, List.setIfInBounds_toArray, List.set_cons_zero, List.set_cons_succ]
          refine wpAnyH_take (i := 13) (oi := { dst := some 76, op := Op.move (Operand.tmp 11), type := 3, pos := "law.go:129", after := #[{ on := 11, ground := Ground.guard }], guard := some (11, false) }) (v := undef) rfl (by kernel_rfl) (by kernel_rfl) (by kernel_rfl) (fun _ _ _ h => h) (Or.inr ⟨by rfl, rfl⟩) hH ?_
          simp only [Act.put, List.setIfInBounds_toArray, List.set_cons_zero, List.set_cons_succ]
          refine wpAnyH_take (i := 14) (oi := { dst := some 77, op := Op.indexAddr 25 (Operand.tmp 75) (Operand.tmp 76), type := 0, pos := "law.go:129", after := #[{ on := 12, ground := Ground.data }, { on := 13, ground := Ground.data }, { on := 11, ground := Ground.guard }], guard := some (11, false) }) (v := undef) rfl (by kernel_rfl) (by kernel_rfl) (by kernel_rfl) (fun _ _ _ h => h) (Or.inr ⟨by rfl, rfl⟩) hH ?_
          simp only [Act.put, List.setIfInBounds_toArray, List.set_cons_zero, List.set_cons_succ]
          refine wpAnyH_take (i := 15) (oi := { dst := some 78, op := Op.load 3 (Operand.tmp 77), type := 3, pos := "law.go:129", after := #[{ on := 14, ground := Ground.data }, { on := 11, ground := Ground.guard }], guard := some (11, false) }) (v := undef) rfl (by kernel_rfl) (by kernel_rfl) (by kernel_rfl) (fun _ _ _ h => h) (Or.inr ⟨by rfl, rfl⟩) hH ?_
          simp only [Act.put, List.setIfInBounds_toArray, List.set_cons_zero, List.set_cons_succ]
          refine wpAnyH_take (i := 16) (oi := { dst := some 79, op := Op.move (Operand.tmp 9), type := 25, pos := "law.go:129", after := #[{ on := 11, ground := Ground.guard }], guard := some (11, false) }) (v := undef) rfl (by kernel_rfl) (by kernel_rfl) (by kernel_rfl) (fun _ _ _ h => h) (Or.inr ⟨by rfl, rfl⟩) hH ?_
          simp only [Act.put, List.setIfInBounds_toArray, List.set_cons_zero, List.set_cons_succ]
          refine wpAnyH_take (i := 17) (oi := { dst := some 80, op := Op.move (Operand.tmp 11), type := 3, pos := "law.go:129", after := #[{ on := 11, ground := Ground.guard }], guard := some (11, false) }) (v := undef) rfl (by kernel_rfl) (by kernel_rfl) (by kernel_rfl) (fun _ _ _ h => h) (Or.inr ⟨by rfl, rfl⟩) hH ?_
          simp only [Act.put, List.setIfInBounds_toArray, List.set_cons_zero, List.set_cons_succ]
          refine wpAnyH_take (i := 18) (oi := { dst := some 81, op := Op.indexAddr 25 (Operand.tmp 79) (Operand.tmp 80), type := 0, pos := "law.go:129", after := #[{ on := 16, ground := Ground.data }, { on := 17, ground := Ground.data }, { on := 11, ground := Ground.guard }], guard := some (11, false) }) (v := undef) rfl (by kernel_rfl) (by kernel_rfl) (by kernel_rfl) (fun _ _ _ h => h) (Or.inr ⟨by rfl, rfl⟩) hH ?_
          simp only [Act.put, List.setIfInBounds_toArray, List.set_cons_zero, List.set_cons_succ]
          refine wpAnyH_take (i := 19) (oi := { dst := some 82, op := Op.load 3 (Operand.tmp 81), type := 3, pos := "law.go:129", after := #[{ on := 18, ground := Ground.data }, { on := 11, ground := Ground.guard }], guard := some (11, false) }) (v := undef) rfl (by kernel_rfl) (by kernel_rfl) (by kernel_rfl) (fun _ _ _ h => h) (Or.inr ⟨by rfl, rfl⟩) hH ?_
          simp only [Act.put, List.setIfInBounds_toArray, List.set_cons_zero, List.set_cons_succ]
          refine wpAnyH_take (i := 20) (oi := { dst := some 83, op := Op.binOp BinOp.lss 3 (Operand.tmp 78) (Operand.tmp 82) 3, type := 4, pos := "law.go:129", after := #[{ on := 15, ground := Ground.data }, { on := 19, ground := Ground.data }, { on := 11, ground := Ground.guard }], guard := some (11, false) }) (v := undef) rfl (by kernel_rfl) (by kernel_rfl) (by kernel_rfl) (fun _ _ _ h => h) (Or.inr ⟨by rfl, rfl⟩) hH ?_
          simp only [Act.put, List.setIfInBounds_toArray, List.set_cons_zero, List.set_cons_succ]
          refine wpAnyH_take (i := 21) (oi := { dst := some 84, op := Op.pick (Operand.tmp 74) (Operand.const (Value.bool true)) (Operand.tmp 83), type := 4, pos := "law.go:129", after := #[{ on := 11, ground := Ground.data }, { on := 20, ground := Ground.data }, { on := 5, ground := Ground.guard }], guard := some (5, true) }) (v := undef) rfl (by kernel_rfl) (by kernel_rfl) (by kernel_rfl) (fun _ _ _ h => h) (Or.inr ⟨by rfl, rfl⟩) hH ?_
          simp only [Act.put, List.setIfInBounds_toArray, List.set_cons_zero, List.set_cons_succ]
          refine wpAnyH_take (i := 22) (oi := { dst := some 85, op := Op.pick (Operand.tmp 68) (Operand.tmp 84) (Operand.const (Value.bool false)), type := 4, pos := "law.go:129", after := #[{ on := 5, ground := Ground.data }, { on := 21, ground := Ground.data }], guard := none }) (v := .bool false) rfl (by kernel_rfl) (by kernel_rfl) (by kernel_rfl) (fun _ _ _ h => h) (Or.inl ⟨by rfl, by (intro w hSw; clear hSw; go_simp)⟩) hH ?_
          simp only [Act.put, List.setIfInBounds_toArray, List.set_cons_zero, List.set_cons_succ]
          refine wpAnyH_take (i := 23) (oi := { dst := some 86, op := Op.move (Operand.tmp 85), type := 4, pos := "law.go:129", after := #[{ on := 22, ground := Ground.data }, { on := 11, ground := Ground.chain }], guard := none }) (v := .bool false) rfl (by kernel_rfl) (by kernel_rfl) (by kernel_rfl) (fun _ _ _ h => h) (Or.inl ⟨by rfl, by (intro w hSw; clear hSw; go_simp)⟩) hH ?_
          simp only [Act.put, List.setIfInBounds_toArray, List.set_cons_zero, List.set_cons_succ]
          refine wpAnyH_take (i := 24) (oi := { dst := some 87, op := Op.move (Operand.tmp 0), type := 22, pos := "law.go:129", after := #[{ on := 23, ground := Ground.guard }], guard := some (23, false) }) (v := .slice (some ⟨g, 0, none⟩) m c1) rfl (by kernel_rfl) (by kernel_rfl) (by kernel_rfl) (fun _ _ _ h => h) (Or.inl ⟨by rfl, by (intro w hSw; clear hSw; go_simp)⟩) hH ?_
          simp only [Act.put, List.setIfInBounds_toArray, List.set_cons_zero, List.set_cons_succ]
          refine wpAnyH_take (i := 25) (oi := { dst := some 88, op := Op.move (Operand.tmp 11), type := 3, pos := "law.go:129", after := #[{ on := 23, ground := Ground.guard }], guard := some (23, false) }) (v := .int .i64 (j : Int)) rfl (by kernel_rfl) (by kernel_rfl) (by kernel_rfl) (fun _ _ _ h => h) (Or.inl ⟨by rfl, by (intro w hSw; clear hSw; go_simp)⟩) hH ?_
          simp only [Act.put, List.setIfInBounds_toArray, List.set_cons_zero, List.set_cons_succ]
          refine wpAnyH_take (i := 27) (oi := { dst := some 90, op := Op.move (Operand.tmp 8), type := 22, pos := "law.go:129", after := #[{ on := 23, ground := Ground.guard }], guard := some (23, false) }) (v := .slice (some ⟨g2, 0, none⟩) m c2) rfl (by kernel_rfl) (by kernel_rfl) (by kernel_rfl) (fun _ _ _ h => h) (Or.inl ⟨by rfl, by (intro w hSw; clear hSw; go_simp)⟩) hH ?_
          simp only [Act.put, List.setIfInBounds_toArray, List.set_cons_zero, List.set_cons_succ]
          refine wpAnyH_take (i := 28) (oi := { dst := some 91, op := Op.move (Operand.tmp 11), type := 3, pos := "law.go:129", after := #[{ on := 23, ground := Ground.guard }], guard := some (23, false) }) (v := .int .i64 (j : Int)) rfl (by kernel_rfl) (by kernel_rfl) (by kernel_rfl) (fun _ _ _ h => h) (Or.inl ⟨by rfl, by (intro w hSw; clear hSw; go_simp)⟩) hH ?_
          simp only [Act.put, List.setIfInBounds_toArray, List.set_cons_zero, List.set_cons_succ]
          refine wpAnyH_ready (rs := [26]) (by kernel_rfl) (by simp) ?_
          refine AllReadyH.cons (o := { dst := some 89, op := Op.call { callee := Callee.value (Operand.func 19), args := #[Operand.tmp 87, Operand.tmp 88], argTypes := #[22, 3] }, type := 28, pos := "law.go:129", after := #[{ on := 24, ground := Ground.data }, { on := 25, ground := Ground.data }, { on := 23, ground := Ground.chain }, { on := 23, ground := Ground.guard }], guard := some (23, false) }) rfl (fun K hK => ?_) AllReadyH.nil
          go_simp
          refine (CA0.out _ BD).mono ?_
          rintro e w6 ⟨rfl, B6, s6⟩
          go_wp2_with fail
          refine hK.out _ _ s6 (fun hH1 => ?_)
          clear hK K
          refine wpAnyH_ready (rs := [29]) (by kernel_rfl) (by simp) ?_
          refine AllReadyH.cons (o := { dst := some 92, op := Op.call { callee := Callee.value (Operand.func 19), args := #[Operand.tmp 90, Operand.tmp 91], argTypes := #[22, 3] }, type := 28, pos := "law.go:129", after := #[{ on := 27, ground := Ground.data }, { on := 28, ground := Ground.data }, { on := 26, ground := Ground.chain }, { on := 23, ground := Ground.guard }], guard := some (23, false) }) rfl (fun K hK => ?_) AllReadyH.nil
          go_simp
          refine (CB0.out _ B6.out).mono ?_
          rintro e w7 ⟨rfl, B7, s7⟩
          go_wp2_with fail
          refine hK.out _ _ s7 (fun hH2 => ?_)
          clear hK K
          refine wpAnyH_take (i := 30) (oi := { dst := some 93, op := Op.binOp BinOp.andNot 28 (Operand.tmp 89) (Operand.tmp 92) 28, type := 28, pos := "law.go:129", after := #[{ on := 26, ground := Ground.data }, { on := 29, ground := Ground.data }, { on := 23, ground := Ground.guard }], guard := some (23, false) }) (v := .int .u32 0) rfl (by kernel_rfl) (by kernel_rfl) (by kernel_rfl) (fun _ _ _ h => h) (Or.inl ⟨by rfl, by (intro w hSw; clear hSw; go_simp)⟩) hH2 ?_
          simp only [Act.put, List.setIfInBounds_toArray, List.set_cons_zero, List.set_cons_succ]
          refine wpAnyH_take (i := 31) (oi := { dst := some 94, op := Op.binOp BinOp.neq 28 (Operand.tmp 93) (Operand.const (Value.int IntKind.u32 0)) 28, type := 4, pos := "law.go:129", after := #[{ on := 30, ground := Ground.data }, { on := 23, ground := Ground.guard }], guard := some (23, false) }) (v := .bool false) rfl (by kernel_rfl) (by kernel_rfl) (by kernel_rfl) (fun _ _ _ h => h) (Or.inl ⟨by rfl, by (intro w hSw; clear hSw; go_simp)⟩) hH2 ?_
          simp only [Act.put, List.setIfInBounds_toArray, List.set_cons_zero, List.set_cons_succ]
          refine wpAnyH_take (i := 32) (oi := { dst := some 95, op := Op.pick (Operand.tmp 86) (Operand.const (Value.bool true)) (Operand.tmp 94), type := 4, pos := "law.go:129", after := #[{ on := 23, ground := Ground.data }, { on := 31, ground := Ground.data }], guard := none }) (v := .bool false) rfl (by kernel_rfl) (by kernel_rfl) (by kernel_rfl) (fun _ _ _ h => h) (Or.inl ⟨by rfl, by (intro w hSw; clear hSw; go_simp)⟩) hH2 ?_
          simp only [Act.put, List.setIfInBounds_toArray, List.set_cons_zero, List.set_cons_succ]
          refine wpAnyH_done (by kernel_rfl) ?_ _
          refine NoPanic.normal ?_
          go_wp2_with fail
          go_roundw
          case rel => exact ⟨j + 1, cj, by go_num, hb.trans (B7.out.mono hb.size)⟩
          case measure => simp [intOf]; omega
      · have C0 := hid (CB.out _ hb k hkm)
        have hb2 := hid (B5.out.trans (hb.mono B5.out.size))
        clear hb
        go_wp2_with fail
        refine C0.out.mono ?_
        rintro e w6 ⟨⟨v, rfl, hv⟩, b6⟩
        have t0 := bit_one v i hv.1
        rw [(isB_nat hv i).2 hrea.out] at t0
        have B6 := hid (hb2.out.trans (b6.mono hb2.out.size))
        clear b6 hv C0 hb2
        go_wp2_with fail
        go_ret
        exact ⟨rfl, B6.out⟩

end Go.Proofs.YtcojpajmeacpiaaDoor.Wry
