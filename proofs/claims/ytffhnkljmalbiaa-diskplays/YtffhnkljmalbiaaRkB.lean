/-
  The walks of the document's On, fails and Lose: each leaves the disk as the disk as plain data says.
-/
import Derived.Test.YtffhnkljmalbiaaRkA
import Derived.Test.YtffhnkljmalbiaaBits
import Derived.BigRegion
namespace Go.Proofs.Ytffhnkljmalbiaa.Wr
open Go.ChangeShapes Go.WideShapes Go.ChangeAt Go.RowKit Go.Proofs.Ytffhnkljmalbiaa.M Go.Proofs.Ytffhnkljmalbiaa.Wd

theorem RkL.below {w w1 : World} {D : Nat} {d : Dk} {F : Nat → Prop} {L : Lr} (h : RkL w D d F L) (b : Below w.heap.size w w1) : RkL w1 D d F L := h.kept b.size fun k hk => b.block k (h.lt k hk)
theorem RkL.drew {w : World} {D : Nat} {d : Dk} {F : Nat → Prop} {L : Lr} (h : RkL w D d F L) : RkL w.drew D d F L := h.kept (Nat.le_refl _) fun _ _ => rfl

/-- The disk's own cells have turned. -/
theorem RkL.setD {w w' : World} {D : Nat} {d : Dk} {F G : Nat → Prop} {L : Lr} (h : RkL w D d F L) {off : Bool} {ta : Int} {ask : Option (Nat × Nat × List Int)} {ka : Option Addr} {kc : Nat}
    (hb : w'.heap[D]? = some (.cells #[.slice (pt d.k L.R) d.k (cp d.k L.rc), .bool off, .int .i64 ta, .int .i64 (aL ask), .slice ka (aK ask).length kc] 68 (0, 0))) (hk : ∀ b, b ≠ D → b < w.heap.size → (∀ cs fr, w.heap[b]? ≠ some (.cells cs 49 fr)) → w'.heap[b]? = w.heap[b]?)
    (hFG : ∀ b, F b → G b) (hlt : ∀ b, G b → b < w'.heap.size) (hkr : KO G w' ka (aK ask)) (hta : ∀ a l K, ask = some (a, l, K) → ta = (a : Int)) (hok : ∀ a l K, ask = some (a, l, K) → a < d.k ∧ l < 9223372036854775808 ∧ K64 K) : RkL w' D { d with off := off, ask := ask } G { L with ta := ta, ka := ka, kc := kc } := by
  have hK : ∀ (b : Nat) (cs : Array Value) (T : TypeId) (fr : Nat × Nat), w.heap[b]? = some (.cells cs T fr) → T ≠ 68 → T ≠ 49 → w'.heap[b]? = w.heap[b]? := fun b cs T fr h1 h2 h3 => hk b (fun e => by
    rw [e, h.dk] at h1
    simp at h1
    exact h2 h1.2.1.symm) (blk_lt h1) (fun cs' fr' e => by
    rw [h1] at e
    simp at e
    exact h3 e.2.1)
  exact {
    dk := hb
    ta := hta
    rows := fun hp => by
      obtain ⟨l, h1, h2⟩ := h.rows hp
      exact ⟨l, (hK _ _ _ _ h1 (by decide) (by decide)).trans h1, h2⟩
    reg := fun i hi => (hK _ _ _ _ (h.reg i hi) (by decide) (by decide)).trans (h.reg i hi)
    las := fun i hi hn => by
      obtain ⟨l, h1, h2⟩ := h.las i hi hn
      exact ⟨l, (hK _ _ _ _ h1 (by decide) (by decide)).trans h1, h2⟩
    que := fun i hi hq => by
      obtain ⟨l, h1, h2⟩ := h.que i hi hq
      exact ⟨l, (hK _ _ _ _ h1 (by decide) (by decide)).trans h1, h2⟩
    injr := h.injr
    injl := h.injl
    injq := h.injq
    kr := hkr
    ownD := hFG _ h.ownD
    ownR := fun hp => hFG _ (h.ownR hp)
    ownr := fun i hi => hFG _ (h.ownr i hi)
    ownl := fun i hi hn => hFG _ (h.ownl i hi hn)
    ownq := fun i hi hq => hFG _ (h.ownq i hi hq)
    lt := hlt
    ok := ⟨h.ok.k, h.ok.r, hok⟩ }

theorem setR_cell {w : World} {D j : Nat} {v : Value} {l : List Value} (h : w.heap[D]? = some (.cells l.toArray 68 (0, 0))) : (w.setCell ⟨D, j, none⟩ v).heap[D]? = some (.cells (l.set j v).toArray 68 (0, 0)) := blk_set h j v

/-- Three cells of the disk stored: the power, the calls left, the numbers. -/
def off3 (w : World) (D : Nat) (b : Bool) : World := ((w.setCell ⟨D, 1, none⟩ (.bool b)).setCell ⟨D, 3, none⟩ (.int .i64 0)).setCell ⟨D, 4, none⟩ (.slice none 0 0)
theorem RkL.off3 {w : World} {D : Nat} {d : Dk} {F : Nat → Prop} {L : Lr} (h : RkL w D d F L) (b : Bool) :
    (∃ L', RkL (off3 w D b) D { d with off := b, ask := none } F L') ∧ Kept F w (off3 w D b) ∧ Nums w (off3 w D b) ∧ (Wr.off3 w D b).heap.size = w.heap.size := by
  have e1 := setR_cell (j := 1) (v := .bool b) h.dk
  have e2 := setR_cell (j := 3) (v := .int .i64 0) e1
  have e3 := setR_cell (j := 4) (v := .slice none 0 0) e2
  have hs : (Wr.off3 w D b).heap.size = w.heap.size := by unfold Wr.off3; rw [setD_size, setD_size, setD_size]
  have ho : ∀ k, k ≠ D → (Wr.off3 w D b).heap[k]? = w.heap[k]? := fun k hk => by unfold Wr.off3; rw [setD_other hk, setD_other hk, setD_other hk]
  refine ⟨⟨_, h.setD (ask := none) (ta := L.ta) (ka := none) (kc := 0) e3 (fun k hk _ _ => ho k hk) (fun _ hb => hb) (fun k hk => by rw [hs]; exact h.lt k hk) (.inl rfl) (fun a l K e => by cases e) (fun a l K e => by cases e)⟩, ?_, ?_, hs⟩
  · exact Kept.setCell (Kept.setCell (Kept.setCell (Kept.refl _ _) h.ownD _) h.ownD _) h.ownD _
  · exact (Nums.setCell h.dk (by decide) _).trans ((Nums.setCell e1 (by decide) _).trans (Nums.setCell e2 (by decide) _))

set_option maxRecDepth 100000 in
theorem onR {w : World} {D : Nat} {d : Dk} {F : Nat → Prop} {L : Lr} (h : RkL w D d F L) :
    Calls Try.prog 34 #[.pointer (some ⟨D, 0, none⟩)] w fun e w' => e = .returned (.tuple #[]) ∧ (∃ L', RkL w' D d.on F L') ∧ Kept F w w' ∧ Nums w w' ∧ w'.heap.size = w.heap.size := by
  obtain ⟨c1, c2, c3, c4, c5, c6⟩ := h.cD
  have HP := hid (h.off3 false)
  unfold off3 at HP
  go_enter Try.func34, Try.ntmps34
  go_wp2
  go_end0
  exact ⟨rfl, HP.out⟩

/-- The calls left, one fewer where region a is asked for. -/
def dec (d : Dk) (a : Nat) : Dk := match d.ask with
  | none => d
  | some (b, l, K) => if b = a then { d with ask := some (b, l - 1, K) } else d

set_option maxRecDepth 100000 in
theorem failsR {w : World} {D : Nat} {d : Dk} {F : Nat → Prop} {L : Lr} (h : RkL w D d F L) (a : Nat) :
    Calls Try.prog 49 #[.pointer (some ⟨D, 0, none⟩), .int .i64 (a : Int)] w fun e w' => e = .returned (.bool (d.now a)) ∧ RkL w' D (dec d a) F L ∧ Kept F w w' ∧ Nums w w' ∧ w'.heap.size = w.heap.size := by
  obtain ⟨c1, c2, c3, c4, c5, c6⟩ := h.cD
  clear c1 c2 c5
  rcases ha : d.ask with _ | ⟨b, l, K⟩
  · have e1 := hid (now_none (a := a) ha).1
    have e2 : Hid (dec d a = d) := by show _ = _; unfold dec; rw [ha]
    have HH := hid h
    rw [ha] at c4
    unfold aL at c4
    clear c3 ha
    go_enter Try.func49, Try.ntmps49
    go_wp2
    go_ret
    rw [e1.out, e2.out]
    exact ⟨rfl, HH.out, Kept.refl _ _, Nums.refl _, rfl⟩
  · have e1 := hid (now_some (a := a) ha).1
    have hok := h.ok.ask b l K ha
    have hta := h.ta b l K ha
    have e2 : Hid (dec d a = if b = a then { d with ask := some (b, l - 1, K) } else d) := by show _ = _; unfold dec; rw [ha]
    rw [ha] at c4
    unfold aL at c4
    dsimp only at c4
    rw [hta] at c3
    by_cases hz : l = 0
    · subst hz
      have e3 : Hid (d.now a = false) := by show _ = _; rw [e1.out]; simp
      have e4 : Hid (dec d a = d) := by
        show _ = _
        rw [e2.out]
        split
        · cases d
          simp at ha
          subst ha
          rfl
        · rfl
      have HH := hid h
      clear c3 ha hta e1 e2
      go_enter Try.func49, Try.ntmps49
      go_wp2
      go_ret
      rw [e3.out, e4.out]
      exact ⟨rfl, HH.out, Kept.refl _ _, Nums.refl _, rfl⟩
    · by_cases hb : b = a
      · subst hb
        rw [if_pos rfl] at e2
        have s1 := setR_cell (j := 3) (v := .int .i64 ((l : Int) - 1)) h.dk
        have hkr := h.kr
        rw [ha] at s1 hkr
        have el : ((l - 1 : Nat) : Int) = (l : Int) - 1 := by omega
        have P : Hid (RkL (w.setCell ⟨D, 3, none⟩ (.int .i64 ((l : Int) - 1))) D { d with ask := some (b, l - 1, K) } F L ∧ Kept F w (w.setCell ⟨D, 3, none⟩ (.int .i64 ((l : Int) - 1))) ∧ Nums w (w.setCell ⟨D, 3, none⟩ (.int .i64 ((l : Int) - 1))) ∧ (w.setCell ⟨D, 3, none⟩ (.int .i64 ((l : Int) - 1))).heap.size = w.heap.size) := by
          refine ⟨?_, Kept.setCell (Kept.refl _ _) h.ownD _, Nums.setCell h.dk (by decide) _, setD_size⟩
          have := h.setD (off := d.off) (ask := some (b, l - 1, K)) (ta := L.ta) (ka := L.ka) (kc := L.kc) (by
            rw [s1]
            show some (Obj.cells #[_, _, _, .int .i64 ((l : Int) - 1), _] _ _) = some (Obj.cells #[_, _, _, .int .i64 ((l - 1 : Nat) : Int), _] _ _)
            rw [el]
            rfl) (fun k hk _ _ => setD_other hk) (fun _ hb => hb) (fun k hk => by rw [setD_size]; exact h.lt k hk) (hkr.kept (fun b' cs fr hb _ => Nums.setCell h.dk (by decide) _ b' cs fr hb) fun _ hb => hb) (fun a' l' K' e => by
            simp at e
            rw [← e.1]; exact hta) (fun a' l' K' e => by
            simp at e
            obtain ⟨rfl, rfl, rfl⟩ := e
            exact ⟨hok.1, by omega, hok.2.2⟩)
          exact this
        clear s1 hkr ha hta el
        by_cases hl : l = 1
        · subst hl
          have e3 : Hid (d.now b = true) := by show _ = _; rw [e1.out]; simp
          clear e1
          go_enter Try.func49, Try.ntmps49
          go_wp2
          go_ret
          rw [e3.out, e2.out]
          exact ⟨rfl, P.out⟩
        · have e3 : Hid (d.now b = false) := by show _ = _; rw [e1.out]; simp [hl]
          have hne : (((l : Int) - 1) == 0) = false := by simp; omega
          clear e1
          go_enter Try.func49, Try.ntmps49
          go_wp2
          go_ret
          rw [e3.out, e2.out]
          exact ⟨by first | rfl | (simp; omega) | simp, P.out⟩
      · rw [if_neg hb] at e2
        have e3 : Hid (d.now a = false) := by show _ = _; rw [e1.out]; simp [hb]
        have hne : ((b : Int) != (a : Int)) = true := by simp; omega
        have HH := hid h
        clear ha hta e1
        go_enter Try.func49, Try.ntmps49
        go_wp2
        go_ret
        rw [e3.out, e2.out]
        exact ⟨rfl, HH.out, Kept.refl _ _, Nums.refl _, rfl⟩

theorem upd_self {α : Type} (f : Nat → α) (i : Nat) : upd f i (f i) = f := by
  funext j
  unfold upd
  split
  · rename_i h; rw [h]
  · rfl

/-- One sector stored. -/
theorem RkL.last {w : World} {D : Nat} {d : Dk} {F : Nat → Prop} {L : Lr} (h : RkL w D d F L) {i : Nat} (hi : i < d.k) {k : Nat} (hk : k < (d.r i).n) {x : ByteArray} (hx : x.size = 64) :
    RkL (w.setCell ⟨L.lb i, k, none⟩ (.string x)) D (d.at i { d.r i with s := upd (d.r i).s k x }) F L ∧ Kept F w (w.setCell ⟨L.lb i, k, none⟩ (.string x)) ∧ Nums w (w.setCell ⟨L.lb i, k, none⟩ (.string x)) := by
  obtain ⟨l, l1, l2, l3, l4, l5⟩ := h.las i hi (by omega)
  have hso : ∀ b, b ≠ L.lb i → (w.setCell ⟨L.lb i, k, none⟩ (.string x)).heap[b]? = w.heap[b]? := fun b hb => setD_other hb
  have P := h.turn (w' := w.setCell ⟨L.lb i, k, none⟩ (.string x)) hi (r := { d.r i with s := upd (d.r i).s k x }) ⟨(h.ok.r i hi).n, fun j => by
      show (upd (d.r i).s k x j).size = 64
      unfold upd
      split
      · exact hx
      · exact (h.ok.r i hi).s j, (h.ok.r i hi).q⟩ (lb := L.lb i) (lm := L.lm i) (qb := L.qb i) (qm := L.qm i) (by rw [setD_size]; exact Nat.le_refl _)
    (fun b _ _ h2 _ => hso b (h2 (by omega)))
    ((hso _ (fun e => by have q := h.reg i hi; rw [e, l1] at q; simp at q)).trans (h.reg i hi))
    (fun _ => ⟨l.set k (.string x), blk_set l1 _ _, by rw [List.length_set]; exact l2, l3, l4, by
      show (l.set k (.string x)).take (d.r i).n = sl (upd (d.r i).s k x) (d.r i).n
      rw [← sl_set _ _ _ _ hk, ← l5, List.take_set]⟩) (fun hn => .inl ⟨hn, rfl⟩)
    (fun hq => by
      obtain ⟨l', q1, q2⟩ := h.que i hi hq
      exact ⟨l', (hso _ (fun e => by rw [e, l1] at q1; simp at q1)).trans q1, q2⟩) (fun hq => .inl ⟨hq, rfl⟩)
  rw [upd_self, upd_self, upd_self, upd_self, Gr.same setD_size] at P
  exact ⟨P, Kept.setCell (Kept.refl _ _) (h.ownl i hi (by omega)) _, Nums.setCell l1 (by decide) _⟩
/-- The queue emptied. -/
theorem RkL.qnil {w : World} {D : Nat} {d : Dk} {F : Nat → Prop} {L : Lr} (h : RkL w D d F L) {i : Nat} (hi : i < d.k) :
    RkL (w.setCell ⟨L.rb i, 1, none⟩ (.slice none 0 0)) D (d.at i { d.r i with q := [] }) F L ∧ Kept F w (w.setCell ⟨L.rb i, 1, none⟩ (.slice none 0 0)) ∧ Nums w (w.setCell ⟨L.rb i, 1, none⟩ (.slice none 0 0)) := by
  have hso : ∀ b, b ≠ L.rb i → (w.setCell ⟨L.rb i, 1, none⟩ (.slice none 0 0)).heap[b]? = w.heap[b]? := fun b hb => setD_other hb
  have hrg := h.reg i hi
  have P := h.turn (w' := w.setCell ⟨L.rb i, 1, none⟩ (.slice none 0 0)) hi (r := { d.r i with q := [] }) ⟨(h.ok.r i hi).n, (h.ok.r i hi).s, fun x hx => by cases hx⟩ (lb := L.lb i) (lm := L.lm i) (qb := L.qb i) (qm := L.qm i) (by rw [setD_size]; exact Nat.le_refl _)
    (fun b _ h1 _ _ => hso b h1)
    (blk_set (l := [_, _]) hrg 1 _)
    (fun hn => by
      obtain ⟨l', q1, q2⟩ := h.las i hi hn
      exact ⟨l', (hso _ (fun e => by rw [e, hrg] at q1; simp at q1)).trans q1, q2⟩) (fun hn => .inl ⟨hn, rfl⟩)
    (fun hq => absurd hq (by show ¬ 0 < 0; omega)) (fun hq => absurd hq (by show ¬ 0 < 0; omega))
  rw [upd_self, upd_self, upd_self, upd_self, Gr.same setD_size] at P
  exact ⟨P, Kept.setCell (Kept.refl _ _) (h.ownr i hi) _, Nums.setCell hrg (by decide) _⟩

end Go.Proofs.Ytffhnkljmalbiaa.Wr
