/-
  Several texts in one. The walks of the document's On, fails and Lose: each leaves the disk as the disk as plain data says. The walk of the document's Lose: a loss of power settles every region by the numbers' bits; the power is off. The walks of the document's Put, Flush and Crash. The walk of the document's Flush. The walk of the document's Lay. The walk of the document's Cut.
-/
import Derived.Test.YthmholgfnjpgbaaGreatRa
import Derived.Test.YthmholgfnjpgbaaGreatWa
import Derived.BigRegion
import Derived.Deep.AppendLies
import Derived.Test.YthmholgfnjpgbaaGreatDkP
import Derived.Test.YthmholgfnjpgbaaGreatDc
import Derived.Deep.RegionLaw
namespace Go.Proofs.YthmholgfnjpgbaaGreat.Wr
open Go.ChangeShapes Go.WideShapes Go.ChangeAt Go.RowKit Go.Proofs.YthmholgfnjpgbaaGreat.M Go.Proofs.YthmholgfnjpgbaaGreat.Wd

theorem RkL.below {w w1 : World} {D : Nat} {d : Dk} {F : Nat → Prop} {L : Lr} (h : RkL w D d F L) (b : Below w.heap.size w w1) : RkL w1 D d F L := h.kept b.size fun k hk => b.block k (h.lt k hk)
theorem RkL.drew {w : World} {D : Nat} {d : Dk} {F : Nat → Prop} {L : Lr} (h : RkL w D d F L) : RkL w.drew D d F L := h.kept (Nat.le_refl _) fun _ _ => rfl

/-- The disk's own cells have turned. -/
theorem RkL.setD {w w' : World} {D : Nat} {d : Dk} {F G : Nat → Prop} {L : Lr} (h : RkL w D d F L) {off : Bool} {ta : Int} {ask : Option (Nat × Nat × List Int)} {ka : Option Addr} {kc : Nat}
    (hb : w'.heap[D]? = some (.cells #[.slice (pt d.k L.R) d.k (cp d.k L.rc), .bool off, .int .i64 ta, .int .i64 (aL ask), .slice ka (aK ask).length kc] 69 (0, 0))) (hk : ∀ b, b ≠ D → b < w.heap.size → (∀ cs fr, w.heap[b]? ≠ some (.cells cs 135 fr)) → w'.heap[b]? = w.heap[b]?)
    (hFG : ∀ b, F b → G b) (hlt : ∀ b, G b → b < w'.heap.size) (hkr : KO G w' ka (aK ask)) (hta : ∀ a l K, ask = some (a, l, K) → ta = (a : Int)) (hok : ∀ a l K, ask = some (a, l, K) → a < d.k ∧ l < 9223372036854775808 ∧ K64 K) : RkL w' D { d with off := off, ask := ask } G { L with ta := ta, ka := ka, kc := kc } := by
  have hK : ∀ (b : Nat) (cs : Array Value) (T : TypeId) (fr : Nat × Nat), w.heap[b]? = some (.cells cs T fr) → T ≠ 69 → T ≠ 135 → w'.heap[b]? = w.heap[b]? := fun b cs T fr h1 h2 h3 => hk b (fun e => by
    rw [e, h.dk] at h1
    simp at h1
    exact h2 h1.2.1.symm) (blk_lt h1) (fun cs' fr' e => by
    rw [h1] at e
    simp at e
    exact h3 e.2.1)
  exact {
    dk := hb
    ta := hta
    rows := fun hp => by
      obtain ⟨l, h1, h2⟩ := h.rows hp
      exact ⟨l, (hK _ _ _ _ h1 (by decide) (by decide)).trans h1, h2⟩
    reg := fun i hi => (hK _ _ _ _ (h.reg i hi) (by decide) (by decide)).trans (h.reg i hi)
    las := fun i hi hn => by
      obtain ⟨l, h1, h2⟩ := h.las i hi hn
      exact ⟨l, (hK _ _ _ _ h1 (by decide) (by decide)).trans h1, h2⟩
    que := fun i hi hq => by
      obtain ⟨l, h1, h2⟩ := h.que i hi hq
      exact ⟨l, (hK _ _ _ _ h1 (by decide) (by decide)).trans h1, h2⟩
    injr := h.injr
    injl := h.injl
    injq := h.injq
    kr := hkr
    ownD := hFG _ h.ownD
    ownR := fun hp => hFG _ (h.ownR hp)
    ownr := fun i hi => hFG _ (h.ownr i hi)
    ownl := fun i hi hn => hFG _ (h.ownl i hi hn)
    ownq := fun i hi hq => hFG _ (h.ownq i hi hq)
    lt := hlt
    ok := ⟨h.ok.k, h.ok.r, hok⟩ }

theorem setR_cell {w : World} {D j : Nat} {v : Value} {l : List Value} (h : w.heap[D]? = some (.cells l.toArray 69 (0, 0))) : (w.setCell ⟨D, j, none⟩ v).heap[D]? = some (.cells (l.set j v).toArray 69 (0, 0)) := blk_set h j v

/-- Three cells of the disk stored: the power, the calls left, the numbers. -/
def off3 (w : World) (D : Nat) (b : Bool) : World := ((w.setCell ⟨D, 1, none⟩ (.bool b)).setCell ⟨D, 3, none⟩ (.int .i64 0)).setCell ⟨D, 4, none⟩ (.slice none 0 0)
theorem RkL.off3 {w : World} {D : Nat} {d : Dk} {F : Nat → Prop} {L : Lr} (h : RkL w D d F L) (b : Bool) :
    (∃ L', RkL (off3 w D b) D { d with off := b, ask := none } F L') ∧ Kept F w (off3 w D b) ∧ Nums w (off3 w D b) ∧ (Wr.off3 w D b).heap.size = w.heap.size := by
  have e1 := setR_cell (j := 1) (v := .bool b) h.dk
  have e2 := setR_cell (j := 3) (v := .int .i64 0) e1
  have e3 := setR_cell (j := 4) (v := .slice none 0 0) e2
  have hs : (Wr.off3 w D b).heap.size = w.heap.size := by unfold Wr.off3; rw [setD_size, setD_size, setD_size]
  have ho : ∀ k, k ≠ D → (Wr.off3 w D b).heap[k]? = w.heap[k]? := fun k hk => by unfold Wr.off3; rw [setD_other hk, setD_other hk, setD_other hk]
  refine ⟨⟨_, h.setD (ask := none) (ta := L.ta) (ka := none) (kc := 0) e3 (fun k hk _ _ => ho k hk) (fun _ hb => hb) (fun k hk => by rw [hs]; exact h.lt k hk) (.inl rfl) (fun a l K e => by cases e) (fun a l K e => by cases e)⟩, ?_, ?_, hs⟩
  · exact Kept.setCell (Kept.setCell (Kept.setCell (Kept.refl _ _) h.ownD _) h.ownD _) h.ownD _
  · exact (Nums.setCell h.dk (by decide) _).trans ((Nums.setCell e1 (by decide) _).trans (Nums.setCell e2 (by decide) _))

set_option maxRecDepth 100000 in
theorem onR {w : World} {D : Nat} {d : Dk} {F : Nat → Prop} {L : Lr} (h : RkL w D d F L) :
    Calls Tryz.prog 55 #[.pointer (some ⟨D, 0, none⟩)] w fun e w' => e = .returned (.tuple #[]) ∧ (∃ L', RkL w' D d.on F L') ∧ Kept F w w' ∧ Nums w w' ∧ w'.heap.size = w.heap.size := by
  obtain ⟨c1, c2, c3, c4, c5, c6⟩ := h.cD
  have HP := hid (h.off3 false)
  unfold off3 at HP
  go_enter Tryz.func55, Tryz.ntmps55
  go_wp2
  go_end0
  exact ⟨rfl, HP.out⟩

/-- The calls left, one fewer where region a is asked for. -/
def dec (d : Dk) (a : Nat) : Dk := match d.ask with
  | none => d
  | some (b, l, K) => if b = a then { d with ask := some (b, l - 1, K) } else d

set_option maxRecDepth 100000 in
theorem failsR {w : World} {D : Nat} {d : Dk} {F : Nat → Prop} {L : Lr} (h : RkL w D d F L) (a : Nat) :
    Calls Tryz.prog 87 #[.pointer (some ⟨D, 0, none⟩), .int .i64 (a : Int)] w fun e w' => e = .returned (.bool (d.now a)) ∧ RkL w' D (dec d a) F L ∧ Kept F w w' ∧ Nums w w' ∧ w'.heap.size = w.heap.size := by
  obtain ⟨c1, c2, c3, c4, c5, c6⟩ := h.cD
  clear c1 c2 c5
  rcases ha : d.ask with _ | ⟨b, l, K⟩
  · have e1 := hid (now_none (a := a) ha).1
    have e2 : Hid (dec d a = d) := by show _ = _; unfold dec; rw [ha]
    have HH := hid h
    rw [ha] at c4
    unfold aL at c4
    clear c3 ha
    go_enter Tryz.func87, Tryz.ntmps87
    go_wp2
    go_ret
    rw [e1.out, e2.out]
    exact ⟨rfl, HH.out, Kept.refl _ _, Nums.refl _, rfl⟩
  · have e1 := hid (now_some (a := a) ha).1
    have hok := h.ok.ask b l K ha
    have hta := h.ta b l K ha
    have e2 : Hid (dec d a = if b = a then { d with ask := some (b, l - 1, K) } else d) := by show _ = _; unfold dec; rw [ha]
    rw [ha] at c4
    unfold aL at c4
    dsimp only at c4
    rw [hta] at c3
    by_cases hz : l = 0
    · subst hz
      have e3 : Hid (d.now a = false) := by show _ = _; rw [e1.out]; simp
      have e4 : Hid (dec d a = d) := by
        show _ = _
        rw [e2.out]
        split
        · cases d
          simp at ha
          subst ha
          rfl
        · rfl
      have HH := hid h
      clear c3 ha hta e1 e2
      go_enter Tryz.func87, Tryz.ntmps87
      go_wp2
      go_ret
      rw [e3.out, e4.out]
      exact ⟨rfl, HH.out, Kept.refl _ _, Nums.refl _, rfl⟩
    · by_cases hb : b = a
      · subst hb
        rw [if_pos rfl] at e2
        have s1 := setR_cell (j := 3) (v := .int .i64 ((l : Int) - 1)) h.dk
        have hkr := h.kr
        rw [ha] at s1 hkr
        have el : ((l - 1 : Nat) : Int) = (l : Int) - 1 := by omega
        have P : Hid (RkL (w.setCell ⟨D, 3, none⟩ (.int .i64 ((l : Int) - 1))) D { d with ask := some (b, l - 1, K) } F L ∧ Kept F w (w.setCell ⟨D, 3, none⟩ (.int .i64 ((l : Int) - 1))) ∧ Nums w (w.setCell ⟨D, 3, none⟩ (.int .i64 ((l : Int) - 1))) ∧ (w.setCell ⟨D, 3, none⟩ (.int .i64 ((l : Int) - 1))).heap.size = w.heap.size) := by
          refine ⟨?_, Kept.setCell (Kept.refl _ _) h.ownD _, Nums.setCell h.dk (by decide) _, setD_size⟩
          have := h.setD (off := d.off) (ask := some (b, l - 1, K)) (ta := L.ta) (ka := L.ka) (kc := L.kc) (by
            rw [s1]
            show some (Obj.cells #[_, _, _, .int .i64 ((l : Int) - 1), _] _ _) = some (Obj.cells #[_, _, _, .int .i64 ((l - 1 : Nat) : Int), _] _ _)
            rw [el]
            rfl) (fun k hk _ _ => setD_other hk) (fun _ hb => hb) (fun k hk => by rw [setD_size]; exact h.lt k hk) (hkr.kept (fun b' cs fr hb _ => Nums.setCell h.dk (by decide) _ b' cs fr hb) fun _ hb => hb) (fun a' l' K' e => by
            simp at e
            rw [← e.1]; exact hta) (fun a' l' K' e => by
            simp at e
            obtain ⟨rfl, rfl, rfl⟩ := e
            exact ⟨hok.1, by omega, hok.2.2⟩)
          exact this
        clear s1 hkr ha hta el
        by_cases hl : l = 1
        · subst hl
          have e3 : Hid (d.now b = true) := by show _ = _; rw [e1.out]; simp
          clear e1
          go_enter Tryz.func87, Tryz.ntmps87
          go_wp2
          go_ret
          rw [e3.out, e2.out]
          exact ⟨rfl, P.out⟩
        · have e3 : Hid (d.now b = false) := by show _ = _; rw [e1.out]; simp [hl]
          have hne : (((l : Int) - 1) == 0) = false := by simp; omega
          clear e1
          go_enter Tryz.func87, Tryz.ntmps87
          go_wp2
          go_ret
          rw [e3.out, e2.out]
          exact ⟨by first | rfl | (simp; omega) | simp, P.out⟩
      · rw [if_neg hb] at e2
        have e3 : Hid (d.now a = false) := by show _ = _; rw [e1.out]; simp [hb]
        have hne : ((b : Int) != (a : Int)) = true := by simp; omega
        have HH := hid h
        clear ha hta e1
        go_enter Tryz.func87, Tryz.ntmps87
        go_wp2
        go_ret
        rw [e3.out, e2.out]
        exact ⟨rfl, HH.out, Kept.refl _ _, Nums.refl _, rfl⟩

theorem upd_self {α : Type} (f : Nat → α) (i : Nat) : upd f i (f i) = f := by
  funext j
  unfold upd
  split
  · rename_i h; rw [h]
  · rfl

/-- One sector stored. -/
theorem RkL.last {w : World} {D : Nat} {d : Dk} {F : Nat → Prop} {L : Lr} (h : RkL w D d F L) {i : Nat} (hi : i < d.k) {k : Nat} (hk : k < (d.r i).n) {x : ByteArray} (hx : x.size = 64) :
    RkL (w.setCell ⟨L.lb i, k, none⟩ (.string x)) D (d.at i { d.r i with s := upd (d.r i).s k x }) F L ∧ Kept F w (w.setCell ⟨L.lb i, k, none⟩ (.string x)) ∧ Nums w (w.setCell ⟨L.lb i, k, none⟩ (.string x)) := by
  obtain ⟨l, l1, l2, l3, l4, l5⟩ := h.las i hi (by omega)
  have hso : ∀ b, b ≠ L.lb i → (w.setCell ⟨L.lb i, k, none⟩ (.string x)).heap[b]? = w.heap[b]? := fun b hb => setD_other hb
  have P := h.turn (w' := w.setCell ⟨L.lb i, k, none⟩ (.string x)) hi (r := { d.r i with s := upd (d.r i).s k x }) ⟨(h.ok.r i hi).n, fun j => by
      show (upd (d.r i).s k x j).size = 64
      unfold upd
      split
      · exact hx
      · exact (h.ok.r i hi).s j, (h.ok.r i hi).q⟩ (lb := L.lb i) (lm := L.lm i) (qb := L.qb i) (qm := L.qm i) (by rw [setD_size]; exact Nat.le_refl _)
    (fun b _ _ h2 _ => hso b (h2 (by omega)))
    ((hso _ (fun e => by have q := h.reg i hi; rw [e, l1] at q; simp at q)).trans (h.reg i hi))
    (fun _ => ⟨l.set k (.string x), blk_set l1 _ _, by rw [List.length_set]; exact l2, l3, l4, by
      show (l.set k (.string x)).take (d.r i).n = sl (upd (d.r i).s k x) (d.r i).n
      rw [← sl_set _ _ _ _ hk, ← l5, List.take_set]⟩) (fun hn => .inl ⟨hn, rfl⟩)
    (fun hq => by
      obtain ⟨l', q1, q2⟩ := h.que i hi hq
      exact ⟨l', (hso _ (fun e => by rw [e, l1] at q1; simp at q1)).trans q1, q2⟩) (fun hq => .inl ⟨hq, rfl⟩)
  rw [upd_self, upd_self, upd_self, upd_self, Gr.same setD_size] at P
  exact ⟨P, Kept.setCell (Kept.refl _ _) (h.ownl i hi (by omega)) _, Nums.setCell l1 (by decide) _⟩
/-- The queue emptied. -/
theorem RkL.qnil {w : World} {D : Nat} {d : Dk} {F : Nat → Prop} {L : Lr} (h : RkL w D d F L) {i : Nat} (hi : i < d.k) :
    RkL (w.setCell ⟨L.rb i, 1, none⟩ (.slice none 0 0)) D (d.at i { d.r i with q := [] }) F L ∧ Kept F w (w.setCell ⟨L.rb i, 1, none⟩ (.slice none 0 0)) ∧ Nums w (w.setCell ⟨L.rb i, 1, none⟩ (.slice none 0 0)) := by
  have hso : ∀ b, b ≠ L.rb i → (w.setCell ⟨L.rb i, 1, none⟩ (.slice none 0 0)).heap[b]? = w.heap[b]? := fun b hb => setD_other hb
  have hrg := h.reg i hi
  have P := h.turn (w' := w.setCell ⟨L.rb i, 1, none⟩ (.slice none 0 0)) hi (r := { d.r i with q := [] }) ⟨(h.ok.r i hi).n, (h.ok.r i hi).s, fun x hx => by cases hx⟩ (lb := L.lb i) (lm := L.lm i) (qb := L.qb i) (qm := L.qm i) (by rw [setD_size]; exact Nat.le_refl _)
    (fun b _ h1 _ _ => hso b h1)
    (blk_set (l := [_, _]) hrg 1 _)
    (fun hn => by
      obtain ⟨l', q1, q2⟩ := h.las i hi hn
      exact ⟨l', (hso _ (fun e => by rw [e, hrg] at q1; simp at q1)).trans q1, q2⟩) (fun hn => .inl ⟨hn, rfl⟩)
    (fun hq => absurd hq (by show ¬ 0 < 0; omega)) (fun hq => absurd hq (by show ¬ 0 < 0; omega))
  rw [upd_self, upd_self, upd_self, upd_self, Gr.same setD_size] at P
  exact ⟨P, Kept.setCell (Kept.refl _ _) (h.ownr i hi) _, Nums.setCell hrg (by decide) _⟩

end Go.Proofs.YthmholgfnjpgbaaGreat.Wr

namespace Go.Proofs.YthmholgfnjpgbaaGreat.Wr
open Go.ChangeShapes Go.WideShapes Go.ChangeAt Go.RowKit Go.Proofs.YthmholgfnjpgbaaGreat.M Go.Proofs.YthmholgfnjpgbaaGreat.Wd

theorem at_at (d : Dk) (i : Nat) (r r' : Rg) : (d.at i r).at i r' = d.at i r' := by
  unfold Dk.at
  congr 1
  funext j
  unfold upd
  split
  · rfl
  · rename_i hh
    exact if_neg hh
/-- Region i under way. -/
def mid (d : Dk) (K : List Int) (i t : Nat) (kp : Nat → Bool) : Dk := (lk d K i).at i { d.r i with s := stL kp (d.r i).s (d.r i).q t }
theorem mid_r (d : Dk) (K : List Int) (i t : Nat) (kp : Nat → Bool) : (mid d K i t kp).r i = { d.r i with s := stL kp (d.r i).s (d.r i).q t } := upd_at _ _ _
theorem mid_zero (d : Dk) (K : List Int) (i : Nat) (kp : Nat → Bool) : mid d K i 0 kp = lk d K i := by
  unfold mid
  have e : ({ d.r i with s := stL kp (d.r i).s (d.r i).q 0 } : Rg) = (lk d K i).r i := by rw [lk_r]; rfl
  rw [e]
  unfold Dk.at
  rw [upd_self]
theorem mid_end (d : Dk) (K : List Int) (i : Nat) : (mid d K i (d.r i).q.length (kb K i)).at i { (mid d K i (d.r i).q.length (kb K i)).r i with q := [] } = lk d K (i + 1) := by
  rw [mid_r, ← lk_succ, lk_r]
  unfold mid
  rw [at_at]
  rfl
theorem mid_yes {d : Dk} {K : List Int} {i t : Nat} {kp : Nat → Bool} (h : kp t = true) : (mid d K i t kp).at i { (mid d K i t kp).r i with s := upd ((mid d K i t kp).r i).s (qx (d.r i).q t).1 (qx (d.r i).q t).2 } = mid d K i (t + 1) kp := by
  rw [mid_r]
  unfold mid
  rw [at_at, stL_yes h]
theorem mid_no {d : Dk} {K : List Int} {i t : Nat} {kp : Nat → Bool} (h : kp t = false) : mid d K i t kp = mid d K i (t + 1) kp := by
  unfold mid
  rw [stL_no h]

set_option maxRecDepth 100000 in
set_option maxHeartbeats 1600000 in
theorem loseR {w : World} {D : Nat} {d : Dk} {F : Nat → Prop} {L : Lr} (h : RkL w D d F L) (hq : ∀ j, j < d.k → (d.r j).q.length ≤ 1048576) {K : List Int} {ao : Option Addr} (hK : KR F w ao K) (h64 : K64 K) (c : Nat) :
    Calls Tryz.prog 88 #[.pointer (some ⟨D, 0, none⟩), .slice ao K.length c] w fun e w' => e = .returned (.tuple #[]) ∧ (∃ L', RkL w' D { d.lose K with off := true, ask := none } F L') ∧ Kept F w w' ∧ Nums w w' ∧ w'.heap.size = w.heap.size := by
  have hk8 := h.ok.k
  go_enter Tryz.func88, Tryz.ntmps88
  go_wp2
  go_loopw [4] (fun iv wr => ∃ i : Nat, i ≤ d.k ∧ iv = .int .i64 (i : Int) ∧ RkL wr D (lk d K i) F L ∧ Kept F w wr ∧ Nums w wr ∧ wr.heap.size = w.heap.size) (fun iv _ => d.k - (intOf iv).toNat)
  case atStart => exact ⟨0, Nat.zero_le _, rfl, by rw [lk_zero]; exact h, Kept.refl _ _, Nums.refl _, rfl⟩
  case round =>
    obtain ⟨i, hi, rfl, hd, hkp, hnm, hsz⟩ := hrel
    rename World => wo
    have c1 : wo.cell? ⟨D, 0, none⟩ = some (.slice (pt d.k L.R) d.k (cp d.k L.rc)) := hd.cD.1
    by_cases hlt : i < d.k
    · have r1 := hd.cR (i := i) hlt
      rw [pt_pos _ (by omega), cp_pos _ (by omega)] at c1
      have hqi := hq i hlt
      have hrok := hid (h.ok.r i hlt)
      have M0 := hid (show RkL wo D (mid d K i 0 (kb K i)) F L ∧ Kept F w wo ∧ Nums w wo ∧ wo.heap.size = w.heap.size from ⟨by rw [mid_zero]; exact hd, hkp, hnm, hsz⟩)
      clear hd hkp hnm hsz
      go_wp2
      go_loopw [6] (fun tv wk => ∃ t : Nat, t ≤ (d.r i).q.length ∧ tv = .int .i64 (t : Int) ∧ RkL wk D (mid d K i t (kb K i)) F L ∧ Kept F w wk ∧ Nums w wk ∧ wk.heap.size = w.heap.size) (fun tv _ => (d.r i).q.length - (intOf tv).toNat)
      case atStart => exact ⟨0, Nat.zero_le _, rfl, M0.out⟩
      case round =>
        clear M0
        obtain ⟨t, ht, rfl, hm, hkp, hnm, hsz⟩ := hrel
        obtain ⟨g1, g2, g3⟩ := hm.cG (i := i) hlt
        rw [mid_r] at g1 g2
        dsimp only at g1 g2
        by_cases htl : t < (d.r i).q.length
        · rw [pt_pos (n := (d.r i).q.length) _ (by omega), cp_pos (n := (d.r i).q.length) _ (by omega)] at g2
          have hx := hid ((hrok.out).q _ (qx_mem htl))
          have q12 := hm.cQ (i := i) hlt (t := t) (by rw [mid_r]; exact htl)
          rw [mid_r] at q12
          dsimp only at q12
          obtain ⟨q1, q2⟩ := q12
          have hl1 := hm.cL (i := i) hlt (k := (qx (d.r i).q t).1) (by rw [mid_r]; exact hx.out.1)
          obtain ⟨l1, l2⟩ := hl1
          have LAST := hid (hm.drew.last (i := i) hlt (k := (qx (d.r i).q t).1) (by rw [mid_r]; exact hx.out.1) (x := (qx (d.r i).q t).2) hx.out.2)
          have HM := hid hm
          have HKN := hid (And.intro hkp (And.intro hnm hsz))
          have hnp : 0 < (d.r i).n := by have := hx.out.1; omega
          rw [pt_pos (n := (d.r i).n) _ hnp, cp_pos (n := (d.r i).n) _ hnp] at g1
          have hsl := hx.out.1
          have hn4 := (hrok.out).n
          by_cases hiK : i < K.length
          · obtain ⟨bb, oo, e1, e2⟩ := (hK.step hkp hnm).cell hiK
            subst e1
            have hx64 := K64.get h64 hiK
            have CB := hid (fun W => Wb.bit (K.getD i 0) ((t : Int) % 64) W hx64.1 hx64.2)
            have hkb : Hid (kb K i t = bitB (K.getD i 0) ((t : Int) % 64)) := by
              show (if i < K.length then _ else _) = _
              rw [if_pos hiK]
              congr 1
            clear hkp hnm hm
            generalize K.getD i 0 = kx at *
            cases hbt : bitB kx ((t : Int) % 64)
            · rw [hbt] at CB hkb
              have NO := hid (mid_no (d := d) (K := K) (i := i) (kp := kb K i) hkb.out)
              clear hbt LAST
              go_wp2_with fail
              refine (CB.out _).mono ?_
              rintro e w2 ⟨rfl, rfl⟩
              go_wp2
              go_roundw
              case rel => exact ⟨t + 1, by omega, by go_num, by rw [← NO.out]; exact HM.out, HKN.out⟩
              case measure => simp [intOf] <;> omega
            · rw [hbt] at CB hkb
              have YES := hid (mid_yes (d := d) (K := K) (i := i) (kp := kb K i) hkb.out)
              clear hbt
              rw [YES.out] at LAST
              clear YES
              generalize (qx (d.r i).q t).1 = sx at *
              generalize (qx (d.r i).q t).2 = dx at *
              go_wp2_with fail
              refine (CB.out _).mono ?_
              rintro e w2 ⟨rfl, rfl⟩
              go_wp2_with fail
              go_region
              all_goals try go_wp2
              all_goals go_roundw
              case rel =>
                obtain ⟨k1, k2, k3⟩ := LAST.out
                refine ⟨t + 1, by omega, by go_num, k1, ?_, HKN.out.2.1.trans k3, ?_⟩
                · have e0 : Gr F w wr.drew = F := Gr.same HKN.out.2.2
                  exact (HKN.out.1.drew).trans (by rw [e0]; exact k2)
                · show (wr.setCell _ _).heap.size = _
                  rw [setD_size]; exact HKN.out.2.2
              case measure => simp [intOf] <;> omega
          · have hkb : Hid (kb K i t = false) := if_neg hiK
            have NO := hid (mid_no (d := d) (K := K) (i := i) (kp := kb K i) hkb.out)
            clear hkp hnm hm LAST
            go_wp2
            go_roundw
            case rel => exact ⟨t + 1, by omega, by go_num, by rw [← NO.out]; exact HM.out, HKN.out⟩
            case measure => simp [intOf] <;> omega
        · have hE : t = (d.r i).q.length := by omega
          have Q := hm.qnil (i := i) hlt
          rw [hE, mid_end] at Q
          have QQ := hid Q
          have HKN := hid (And.intro hkp (And.intro hnm hsz))
          clear Q hkp hnm hm
          go_wp2
          go_roundw
          case rel =>
            obtain ⟨k1, k2, k3⟩ := QQ.out
            refine ⟨i + 1, by omega, by go_num, k1, ?_, HKN.out.2.1.trans k3, ?_⟩
            · have e0 : Gr F w wr = F := Gr.same HKN.out.2.2
              exact HKN.out.1.trans (by rw [e0]; exact k2)
            · rw [setD_size]; exact HKN.out.2.2
          case measure => simp [intOf] <;> omega
    · have hE : i = d.k := by omega
      subst hE
      obtain ⟨_, c2, c3, c4, c5, c6⟩ := hd.cD
      have P := (hd.congr (d' := d.lose K) rfl rfl rfl (fun j hj => (if_pos hj).symm)).off3 true
      unfold off3 at P
      have PP := hid P
      have HKN := hid (And.intro hkp (And.intro hnm hsz))
      clear P hkp hnm hd
      go_wp2
      go_end0
      obtain ⟨p1, p2, p3, p4⟩ := PP.out
      obtain ⟨q1, q2, q3⟩ := HKN.out
      refine ⟨rfl, p1, ?_, q2.trans p3, p4.trans q3⟩
      have e0 : Gr F w wo = F := Gr.same q3
      exact q1.trans (by rw [e0]; exact p2)

end Go.Proofs.YthmholgfnjpgbaaGreat.Wr

namespace Go.Proofs.YthmholgfnjpgbaaGreat.Wr
open Go.ChangeShapes Go.WideShapes Go.ChangeAt Go.RowKit Go.Proofs.YthmholgfnjpgbaaGreat.M Go.Proofs.YthmholgfnjpgbaaGreat.Wd

theorem infoW : (Tryz.prog.info? 143).map (fun i => (i.zero, i.size, i.bytes)) = some (some (.agg #[.int .i64 0, .string ⟨#[]⟩]), 2, 24) := by kernel_rfl

theorem RkL.ownQ {w : World} {D : Nat} {d : Dk} {F : Nat → Prop} {L : Lr} (h : RkL w D d F L) {i : Nat} (hi : i < d.k) : w.ownsRow 0 143 2 (.slice (pt (d.r i).q.length (L.qb i)) (d.r i).q.length (cp (d.r i).q.length (L.qm i))) (d.r i).q.length (qs (d.r i).q) := by
  refine ⟨by rw [qs_length], ?_⟩
  by_cases c : 0 < (d.r i).q.length
  · obtain ⟨l, h1, h2, h3, h4, h5⟩ := h.que i hi c
    exact .inr ⟨L.qb i, L.qm i, l.toArray, by rw [pt_pos _ c, cp_pos _ c], Nat.zero_le _, h1, h3, h4, by rw [List.size_toArray]; exact h2, h5⟩
  · have e : (d.r i).q.length = 0 := by omega
    rw [e]
    exact .inl ⟨rfl, rfl⟩

/-- What a write comes to, behind the append and the store. -/
theorem RkL.push {w w3 : World} {D : Nat} {d : Dk} {F : Nat → Prop} {L : Lr} (h : RkL w D d F L) {i : Nat} (hi : i < d.k) {s : Nat} {x : ByteArray} (hs : s < (d.r i).n) (hx : x.size = 64) {g cap : Nat} {o1 : Obj}
    (own3 : w3.ownsRow 0 143 2 (.slice (some ⟨g, 0, none⟩) ((d.r i).q.length + 1) cap) ((d.r i).q.length + 1) (qs (d.r i).q ++ [.int .i64 (s : Int), .string x])) (gr3 : (w.alloc o1).grownBy w3 (Value.slice (pt (d.r i).q.length (L.qb i)) (d.r i).q.length (cp (d.r i).q.length (L.qm i))).ownBlock) (hg3 : (Value.slice (pt (d.r i).q.length (L.qb i)) (d.r i).q.length (cp (d.r i).q.length (L.qm i))).ownBlock = some g ∨ g = w.heap.size + 1) :
      (w3.cell? ⟨L.rb i, 1, none⟩ = some (.slice (pt (d.r i).q.length (L.qb i)) (d.r i).q.length (cp (d.r i).q.length (L.qm i))) ∧ w3.frozen? ⟨L.rb i, 1, none⟩ = false) ∧
      (∃ L', L'.R = L.R ∧ L'.rb = L.rb ∧ RkL (w3.setCell ⟨L.rb i, 1, none⟩ (.slice (some ⟨g, 0, none⟩) ((d.r i).q.length + 1) cap)) D (d.at i ((d.r i).put s x)) (Gr F w (w3.setCell ⟨L.rb i, 1, none⟩ (.slice (some ⟨g, 0, none⟩) ((d.r i).q.length + 1) cap))) L') ∧ Kept F w (w3.setCell ⟨L.rb i, 1, none⟩ (.slice (some ⟨g, 0, none⟩) ((d.r i).q.length + 1) cap)) := by
  have bW : Below w.heap.size w (w.alloc o1) := (Below.refl _ _).alloc (Nat.le_refl _) o1
  have sW : (w.alloc o1).heap.size = w.heap.size + 1 := by simp
  have hsz : w.heap.size + 1 ≤ w3.heap.size := by rw [← sW]; exact gr3.size
  have hob : ∀ b, (Value.slice (pt (d.r i).q.length (L.qb i)) (d.r i).q.length (cp (d.r i).q.length (L.qm i))).ownBlock = some b → 0 < (d.r i).q.length ∧ b = L.qb i := by
    intro b hb
    by_cases c : 0 < (d.r i).q.length
    · rw [pt_pos _ c] at hb
      exact ⟨c, by simpa [Value.ownBlock] using hb.symm⟩
    · have e : (d.r i).q.length = 0 := by omega
      rw [e, pt_zero] at hb
      cases hb
  have hblk : ∀ b, b < w.heap.size → (0 < (d.r i).q.length → b ≠ L.qb i) → w3.heap[b]? = w.heap[b]? := fun b hb hne =>
    (gr3.block b (by omega) (fun e => by
      obtain ⟨q0, e'⟩ := hob b e.symm
      exact hne q0 e')).trans (bW.block b hb)
  have hrg := h.reg i hi
  have hrq : 0 < (d.r i).q.length → L.rb i ≠ L.qb i := fun hp e => by
    obtain ⟨l, q1, _⟩ := h.que i hi hp
    rw [e, q1] at hrg
    simp at hrg
  have hrg3 := (hblk _ (blk_lt hrg) hrq).trans hrg
  have hgr : g ≠ L.rb i := by
    intro e
    rcases hg3 with e2 | e2
    · obtain ⟨hp, e3⟩ := hob g e2
      exact hrq hp (e.symm.trans e3)
    · have := blk_lt hrg; omega
  have eS : (w3.setCell ⟨L.rb i, 1, none⟩ (.slice (some ⟨g, 0, none⟩) ((d.r i).q.length + 1) cap)).heap.size = w3.heap.size := setD_size
  have hql : ((d.r i).put s x).q.length = (d.r i).q.length + 1 := by show ((d.r i).q ++ [(s, x)]).length = _; simp
  have P := h.turn (w' := w3.setCell ⟨L.rb i, 1, none⟩ (.slice (some ⟨g, 0, none⟩) ((d.r i).q.length + 1) cap)) hi (r := (d.r i).put s x) (Rg.put_ok (h.ok.r i hi) hs hx) (lb := L.lb i) (lm := L.lm i) (qb := g) (qm := cap) (by rw [eS]; omega)
    (fun b hb h1 _ h3 => (setD_other h1).trans (hblk b hb h3))
    (by
      rw [hql, pt_pos (n := (d.r i).q.length + 1) g (by omega), cp_pos (n := (d.r i).q.length + 1) cap (by omega)]
      exact blk_set (l := [_, _]) hrg3 1 _)
    (fun hn => by
      obtain ⟨l', q1, q2⟩ := h.las i hi hn
      refine ⟨l', ?_, q2⟩
      rw [setD_other (fun e => by rw [e, hrg] at q1; simp at q1), hblk _ (blk_lt q1) (fun hp e => by
        obtain ⟨l2, q3, _⟩ := h.que i hi hp
        rw [e, q3] at q1; simp at q1)]
      exact q1) (fun hn => .inl ⟨hn, rfl⟩)
    (fun _ => by
      rcases own3.2 with ⟨_, e⟩ | ⟨g', cap', cur, e, _, k1, k2, k3, k4, k5⟩
      · omega
      · simp at e
        obtain ⟨rfl, rfl⟩ := e
        refine ⟨cur.toList, ?_, by simpa using k4, by rw [hql]; exact k2, k3, ?_⟩
        · rw [setD_other hgr]; simpa using k1
        · rw [hql, k5]
          show _ = qs ((d.r i).q ++ [(s, x)])
          rw [qs_app]
          rfl) (fun _ => by
      rcases hg3 with e | e
      · exact .inl (hob g e)
      · exact .inr (by omega))
  refine ⟨⟨blk_cell (l := [_, _]) hrg3 rfl, blk_free hrg3 _⟩, ⟨{ L with lb := upd L.lb i (L.lb i), lm := upd L.lm i (L.lm i), qb := upd L.qb i g, qm := upd L.qm i cap }, rfl, rfl, P⟩, ?_⟩
  refine Kept.setCell ⟨gr3.os.trans bW.os, gr3.tape.trans bW.tape, gr3.output.trans bW.output, by omega, fun k hk hF => hblk k hk fun q0 e => hF (by rw [e]; exact h.ownq i hi q0)⟩ (h.ownr i hi) _

theorem dec_no {d : Dk} {a : Nat} (h : d.now a = false) : dec d a = d.cnt a := by
  rcases ha : d.ask with _ | ⟨b, l, K⟩
  · rw [(now_none ha).2]; unfold dec; rw [ha]
  · obtain ⟨e1, e2⟩ := now_some (a := a) ha
    rw [h] at e1
    rw [e2]
    unfold dec
    rw [ha]
    dsimp only
    by_cases c : b = a
    · rw [if_pos c, if_pos c, if_neg (fun hl => by simp [c, hl] at e1)]
    · rw [if_neg c, if_neg c]
theorem dec_yes {d : Dk} {a : Nat} (h : d.now a = true) : { (dec d a).lose (aK (dec d a).ask) with off := true, ask := none } = d.cnt a := by
  rcases ha : d.ask with _ | ⟨b, l, K⟩
  · rw [(now_none ha).1] at h; cases h
  · obtain ⟨e1, e2⟩ := now_some (a := a) ha
    rw [h] at e1
    have e3 : b = a ∧ l = 1 := by simpa using e1.symm
    rw [e2, if_pos e3.1, if_pos e3.2]
    unfold dec
    rw [ha]
    dsimp only
    rw [if_pos e3.1]
    rfl
theorem dec_q {d : Dk} {a : Nat} : (dec d a).r = d.r ∧ (dec d a).k = d.k := by
  unfold dec
  split
  · exact ⟨rfl, rfl⟩
  · split <;> exact ⟨rfl, rfl⟩

set_option maxRecDepth 100000 in
set_option maxHeartbeats 1000000 in
theorem putR {w : World} {D : Nat} {d : Dk} {F : Nat → Prop} {L : Lr} (h : RkL w D d F L) (hq : ∀ j, j < d.k → (d.r j).q.length < 1048576) (a b : Int) (x : ByteArray) :
    Calls Tryz.prog 58 #[.pointer (some ⟨D, 0, none⟩), .int .i64 a, .int .i64 b, .string x] w fun e w' => e = .returned (.int .i64 (d.writeE a b x)) ∧ (∃ L', RkL w' D (d.write a b x) (Gr F w w') L') ∧ Kept F w w' := by
  obtain ⟨i1, hi1, hy0, hy1, hy2⟩ := info_parts infoW
  have CA := hid (readR h (fun j hj => Nat.le_of_lt (hq j hj)) a b)
  have SAME := hid (show (∃ L', RkL w D d (Gr F w w) L') ∧ Kept F w w from ⟨⟨L, by rw [Gr.self]; exact h⟩, Kept.refl _ _⟩)
  by_cases c : d.readE a b = 0
  · rw [c] at CA
    obtain ⟨i, s, rfl, rfl, hi, hs, ho⟩ := readE_ok c
    by_cases cx : x.size = 64
    · have hp : d.preW (i : Int) (s : Int) x = 0 := by unfold Dk.preW; rw [if_pos c, if_pos cx]
      have hE : Hid (d.writeE (i : Int) (s : Int) x = if (d.put (i : Int) (s : Int) x).now i then 11 else 0) := if_pos hp
      have hD : Hid (d.write (i : Int) (s : Int) x = (d.put (i : Int) (s : Int) x).cnt i) := if_pos hp
      have c1 := h.cD.1
      have hk8 := h.ok.k
      rw [pt_pos _ (by omega), cp_pos _ (by omega)] at c1
      have r1 := h.cR hi
      obtain ⟨g1, g2, g3⟩ := h.cG hi
      have hqi := hq i hi
      have OW := hid (fun o => (h.ownQ hi).alloc o)
      have PU := hid (fun (w3 : World) (g cap : Nat) (o : Obj) own3 gr3 hg3 => h.push (w3 := w3) hi hs cx (g := g) (cap := cap) (o1 := o) own3 gr3 hg3)
      have hqq : Hid (∀ j, j < (d.put (i : Int) (s : Int) x).k → ((d.put (i : Int) (s : Int) x).r j).q.length ≤ 1048576) := by
        have h1 : ∀ j, j < d.k → (d.r j).q.length ≤ 1048576 := fun j hj => Nat.le_of_lt (hq j hj)
        refine q_at h1 ?_
        show ((d.r i).q ++ [(s, x)]).length ≤ _
        simp
        omega
      generalize d.readB (i : Int) (s : Int) = rb0 at CA
      clear c hp
      go_enter Tryz.func58, Tryz.ntmps58
      go_wp2_with fail
      refine CA.out.mono ?_
      rintro e w1 ⟨rfl, rfl⟩
      go_wp2_with (at_builtin; refine wpList_append_lies _ rfl _ _ 71 rfl 0 143 i1 (.agg #[.int .i64 0, .string ⟨#[]⟩]) 2 24 Tryz.underlying71 hi1 hy0 hy1 hy2 rfl (by decide) _ _ _ rfl (OW.out _) ⟨w.heap.size, 0, none⟩ 1 1 [.int .i64 (s : Int), .string x] rfl rfl (World.news_of_block (heap_alloc_last w _)) (by intro u hu; simp at hu; rcases hu with rfl | rfl <;> rfl) (by decide) (by unfold maxLen; omega) (by omega) (Nat.zero_le _) (w.heap.size + 1) (by simp) ?_; intro g cap w3 own3 gr3 hg3 hlt3; obtain ⟨⟨f1, f2⟩, f3⟩ := PU.out w3 g cap _ own3 gr3 hg3; have F3 := hid f3; clear f3 own3 gr3 hg3 hlt3)
      obtain ⟨⟨L1, _, _, k1⟩, kk1⟩ := F3.out
      have eP : d.at i ((d.r i).put s x) = d.put (i : Int) (s : Int) x := rfl
      rw [eP] at k1
      generalize d.put (i : Int) (s : Int) x = d1 at *
      have CF := hid (failsR k1 i)
      have KK1 := hid kk1
      clear k1 kk1 F3 eP CA OW PU f1 f2
      generalize w3.setCell ⟨L.rb i, 1, none⟩ (.slice (some ⟨g, 0, none⟩) ((d.r i).q.length + 1) cap) = W3 at *
      cases hn : d1.now i
      · rw [hn] at CF hE
        have DN := hid (dec_no hn)
        refine CF.out.mono ?_
        rintro e w4 ⟨rfl, m1, m2, _, m4⟩
        rw [DN.out] at m1
        have MM := hid (And.intro m1 (And.intro m2 m4))
        clear m1 m2 m4
        go_wp2
        go_ret
        obtain ⟨m1, m2, m4⟩ := MM.out
        rw [hE.out, hD.out]
        have eG : Gr F w w4 = Gr F w W3 := by unfold Gr; rw [m4]
        exact ⟨rfl, ⟨L1, by rw [eG]; exact m1⟩, KK1.out.trans m2⟩
      · rw [hn] at CF hE
        have DY := hid (dec_yes hn)
        have DQ := dec_q (d := d1) (a := i)
        refine CF.out.mono ?_
        rintro e w4 ⟨rfl, m1, m2, _, m4⟩
        have c5 := m1.cD.2.2.2.2.1
        have CL := hid (loseR m1 (fun j hj => by rw [DQ.1]; rw [DQ.2] at hj; exact hqq.out j hj) m1.kr.kr (K := aK (dec d1 i).ask) (by
          rcases ha : (dec d1 i).ask with _ | ⟨b', l', K'⟩
          · exact fun y hy => by cases hy
          · exact (m1.ok.ask b' l' K' ha).2.2) L1.kc)
        rw [DY.out] at CL
        have MM := hid (And.intro m2 m4)
        clear m1 m2 m4 DQ
        generalize (aK (dec d1 i).ask).length = kl at *
        go_wp2_with fail
        refine CL.out.mono ?_
        rintro e w5 ⟨rfl, n1, n2, _, n4⟩
        have NN := hid (And.intro n1 (And.intro n2 n4))
        clear n1 n2 n4
        go_wp2
        go_ret
        obtain ⟨m2, m4⟩ := MM.out
        obtain ⟨n1, n2, n4⟩ := NN.out
        rw [hE.out, hD.out]
        have eG4 : Gr F w w4 = Gr F w W3 := by unfold Gr; rw [m4]
        have eG : Gr F w w5 = Gr F w W3 := by unfold Gr; rw [n4, m4]
        exact ⟨rfl, by rw [eG]; exact n1, (KK1.out.trans m2).trans (by rw [eG4]; exact n2)⟩
    · have hp : d.preW (i : Int) (s : Int) x = 2 := by unfold Dk.preW; rw [if_pos c, if_neg cx]
      have hE : Hid (d.writeE (i : Int) (s : Int) x = 2) := by show _ = _; unfold Dk.writeE; rw [hp]; rfl
      have hD : Hid (d.write (i : Int) (s : Int) x = d) := by show _ = _; unfold Dk.write; rw [hp]; rfl
      have cx' : ((x.size : Int) != 64) = true := by simp; omega
      generalize d.readB (i : Int) (s : Int) = rb0 at CA
      clear c hp
      go_enter Tryz.func58, Tryz.ntmps58
      go_wp2_with fail
      refine CA.out.mono ?_
      rintro e w1 ⟨rfl, rfl⟩
      go_wp2
      go_ret
      rw [hE.out, hD.out]
      exact ⟨rfl, SAME.out⟩
  · have hp : d.preW a b x = d.readE a b := if_neg c
    have hE : Hid (d.writeE a b x = d.readE a b) := by show _ = _; unfold Dk.writeE; rw [hp, if_neg c]
    have hD : Hid (d.write a b x = d) := by show _ = _; unfold Dk.write; rw [hp, if_neg c]
    have hx : (d.readE a b == 0) = false := by simpa using c
    have hx3 : (d.readE a b != 0) = true := by simpa using c
    clear hp
    generalize d.readE a b = E at *
    generalize d.readB a b = rb0 at CA
    go_enter Tryz.func58, Tryz.ntmps58
    go_wp2_with fail
    refine CA.out.mono ?_
    rintro e w1 ⟨rfl, rfl⟩
    go_wp2
    go_ret
    rw [hE.out, hD.out]
    exact ⟨rfl, SAME.out⟩

set_option maxRecDepth 100000 in
theorem crashR {w : World} {D : Nat} {d : Dk} {F : Nat → Prop} {L : Lr} (h : RkL w D d F L) (hq : ∀ j, j < d.k → (d.r j).q.length ≤ 1048576) (ho : d.off = true → ∀ j, j < d.k → (d.r j).q = []) {K : List Int} {ao : Option Addr} (hK : KR F w ao K) (h64 : K64 K) (c : Nat) :
    Calls Tryz.prog 53 #[.pointer (some ⟨D, 0, none⟩), .slice ao K.length c] w fun e w' => e = .returned (.tuple #[]) ∧ (∃ L', RkL w' D (d.crash K) F L') ∧ Kept F w w' ∧ w'.heap.size = w.heap.size := by
  have c2 := h.cD.2.1
  have CL := hid (loseR h hq hK h64 c)
  cases hof : d.off
  · rw [hof] at c2
    go_enter Tryz.func53, Tryz.ntmps53
    go_wp2_with fail
    refine CL.out.mono ?_
    rintro e w1 ⟨rfl, ⟨L1, m1⟩, m2, _, m4⟩
    have CO := hid (onR m1)
    have MM := hid (And.intro m2 m4)
    clear m1 m2 m4
    go_wp2_with fail
    refine CO.out.mono ?_
    rintro e w2 ⟨rfl, ⟨L2, n1⟩, n2, _, n4⟩
    have NN := hid (And.intro n1 (And.intro n2 n4))
    clear n1 n2 n4
    go_wp2
    go_end0
    obtain ⟨m2, m4⟩ := MM.out
    obtain ⟨n1, n2, n4⟩ := NN.out
    have e0 : Gr F w w1 = F := Gr.same m4
    exact ⟨rfl, ⟨L2, n1⟩, m2.trans (by rw [e0]; exact n2), n4.trans m4⟩
  · rw [hof] at c2
    have hc : ∀ j, j < d.k → (d.crash K).r j = d.r j := fun j hj => by
      show (d.r j).set (kb K j) = d.r j
      have e := ho hof j hj
      unfold Rg.set
      rw [e]
      cases hr : d.r j
      rw [hr] at e
      simp at e
      subst e
      rfl
    have HC := hid hc
    have CO := hid (onR h)
    clear hc
    go_enter Tryz.func53, Tryz.ntmps53
    go_wp2_with fail
    refine CO.out.mono ?_
    rintro e w2 ⟨rfl, ⟨L2, n1⟩, n2, _, n4⟩
    have NN := hid (And.intro (show RkL w2 D (d.crash K) F L2 from n1.congr rfl rfl rfl (fun j hj => HC.out j hj)) (And.intro n2 n4))
    clear n1 n2 n4
    go_wp2
    go_end0
    obtain ⟨n1, n2, n4⟩ := NN.out
    exact ⟨rfl, ⟨L2, n1⟩, n2, n4⟩

end Go.Proofs.YthmholgfnjpgbaaGreat.Wr

namespace Go.Proofs.YthmholgfnjpgbaaGreat.Wr
open Go.ChangeShapes Go.WideShapes Go.ChangeAt Go.RowKit Go.Proofs.YthmholgfnjpgbaaGreat.M Go.Proofs.YthmholgfnjpgbaaGreat.Wd

/-- A region being flushed. -/
def fl (d : Dk) (i t : Nat) : Dk := d.at i { d.r i with s := stL (fun _ => true) (d.r i).s (d.r i).q t }
theorem fl_r (d : Dk) (i t : Nat) : (fl d i t).r i = { d.r i with s := stL (fun _ => true) (d.r i).s (d.r i).q t } := upd_at _ _ _
theorem fl_zero (d : Dk) (i : Nat) : fl d i 0 = d := by
  unfold fl
  have e : ({ d.r i with s := stL (fun _ => true) (d.r i).s (d.r i).q 0 } : Rg) = d.r i := rfl
  rw [e]
  unfold Dk.at
  rw [upd_self]
theorem fl_yes (d : Dk) (i t : Nat) : (fl d i t).at i { (fl d i t).r i with s := upd ((fl d i t).r i).s (qx (d.r i).q t).1 (qx (d.r i).q t).2 } = fl d i (t + 1) := by
  rw [fl_r]
  unfold fl
  rw [at_at, stL_yes rfl]
theorem fl_end (d : Dk) (i : Nat) : (fl d i (d.r i).q.length).at i { (fl d i (d.r i).q.length).r i with q := [] } = d.at i ((d.r i).set fun _ => true) := by
  rw [fl_r]
  unfold fl
  rw [at_at]
  rfl

set_option maxRecDepth 100000 in
set_option maxHeartbeats 1000000 in
theorem flushR {w : World} {D : Nat} {d : Dk} {F : Nat → Prop} {L : Lr} (h : RkL w D d F L) (hq : ∀ j, j < d.k → (d.r j).q.length ≤ 1048576) (a : Int) :
    Calls Tryz.prog 50 #[.pointer (some ⟨D, 0, none⟩), .int .i64 a] w fun e w' => e = .returned (.int .i64 (d.flushE a)) ∧ (∃ L', RkL w' D (d.flush a) F L') ∧ Kept F w w' ∧ w'.heap.size = w.heap.size := by
  obtain ⟨c1, c2, _⟩ := h.cD
  have hk8 := h.ok.k
  have SAME := hid (show (∃ L', RkL w D d F L') ∧ Kept F w w ∧ w.heap.size = w.heap.size from ⟨⟨L, h⟩, Kept.refl _ _, rfl⟩)
  by_cases co : d.off = true
  · have hp : d.preF a = 11 := if_pos co
    have hE : Hid (d.flushE a = 11 ∧ d.flush a = d) := by
      unfold Dk.flushE Dk.flush
      rw [hp]
      exact ⟨rfl, rfl⟩
    rw [co] at c2
    clear co c1 hp
    go_enter Tryz.func50, Tryz.ntmps50
    go_wp2
    go_ret
    rw [hE.out.1, hE.out.2]
    exact ⟨rfl, SAME.out.1, SAME.out.2.1, rfl⟩
  · have co' : d.off = false := by simpa using co
    rw [co'] at c2
    by_cases c : d.has a = true
    · obtain ⟨i, rfl, hi⟩ := has_nat c
      have hp : d.preF (i : Int) = 0 := by unfold Dk.preF; rw [co', c]; rfl
      have hE : Hid (d.flushE (i : Int) = if d.now i then 11 else 0) := if_pos hp
      have hD : Hid (d.flush (i : Int) = if d.now i then d.cnt i else (d.cnt i).at i ((d.r i).set fun _ => true)) := if_pos hp
      have CF := hid (failsR h i)
      rw [pt_pos _ (by omega), cp_pos _ (by omega)] at c1
      have hqi := hq i hi
      have hrok := hid (h.ok.r i hi)
      clear c co hp
      cases hn : d.now i
      · rw [hn] at CF hE hD
        have DN := hid (dec_no hn)
        have DQ := hid (dec_q (d := d) (a := i))
        go_enter Tryz.func50, Tryz.ntmps50
        go_wp2_with fail
        refine CF.out.mono ?_
        rintro e w1 ⟨rfl, m1, m2, _, m4⟩
        have DR := DQ.out
        rw [DN.out] at m1 DR
        generalize d.cnt i = d1 at *
        have hk1 : d1.k = d.k := DR.2
        have hr1 : d1.r i = d.r i := by rw [DR.1]
        have cc1 := m1.cD.1
        rw [hk1, pt_pos _ (by omega), cp_pos _ (by omega)] at cc1
        have r1 := m1.cR (i := i) (by omega)
        have M0 := hid (show RkL w1 D (fl d1 i 0) F L ∧ Kept F w w1 ∧ w1.heap.size = w.heap.size from ⟨by rw [fl_zero]; exact m1, m2, m4⟩)
        have HH := hid (And.intro hk1 hr1)
        clear m1 m2 m4 DR DQ DN
        rw [← hr1] at hqi hrok
        have hD2 : Hid (d.flush (i : Int) = d1.at i ((d1.r i).set fun _ => true)) := by show _ = _; rw [hD.out, hr1]; rfl
        have hi1 : i < d1.k := by omega
        clear hD hk1 hr1
        go_wp2
        go_loopw [7] (fun tv wk => ∃ t : Nat, t ≤ (d1.r i).q.length ∧ tv = .int .i64 (t : Int) ∧ RkL wk D (fl d1 i t) F L ∧ Kept F w wk ∧ wk.heap.size = w.heap.size) (fun tv _ => (d1.r i).q.length - (intOf tv).toNat)
        case atStart => exact ⟨0, Nat.zero_le _, rfl, M0.out⟩
        case round =>
          clear M0
          obtain ⟨t, ht, rfl, hm, hkp, hsz⟩ := hrel
          obtain ⟨g1, g2, g3⟩ := hm.cG (i := i) hi1
          rw [fl_r] at g1 g2
          dsimp only at g1 g2
          by_cases htl : t < (d1.r i).q.length
          · rw [pt_pos (n := (d1.r i).q.length) _ (by omega), cp_pos (n := (d1.r i).q.length) _ (by omega)] at g2
            have hx := hid ((hrok.out).q _ (qx_mem htl))
            have q12 := hm.cQ (i := i) hi1 (t := t) (by rw [fl_r]; exact htl)
            rw [fl_r] at q12
            dsimp only at q12
            obtain ⟨q1, q2⟩ := q12
            obtain ⟨l1, l2⟩ := hm.cL (i := i) hi1 (k := (qx (d1.r i).q t).1) (by rw [fl_r]; exact hx.out.1)
            have LAST := hm.drew.last (i := i) hi1 (k := (qx (d1.r i).q t).1) (by rw [fl_r]; exact hx.out.1) (x := (qx (d1.r i).q t).2) hx.out.2
            rw [fl_yes] at LAST
            have LL := hid LAST
            have HKN := hid (And.intro hkp hsz)
            have hnp : 0 < (d1.r i).n := by have := hx.out.1; omega
            rw [pt_pos (n := (d1.r i).n) _ hnp, cp_pos (n := (d1.r i).n) _ hnp] at g1
            have hsl := hx.out.1
            have hn4 := (hrok.out).n
            clear hkp hm LAST hx
            generalize (qx (d1.r i).q t).1 = sx at *
            generalize (qx (d1.r i).q t).2 = dx at *
            go_wp2_with fail
            go_region
            all_goals try go_wp2
            all_goals go_roundw
            case rel =>
              obtain ⟨k1, k2, k3⟩ := LL.out
              refine ⟨t + 1, by omega, by go_num, k1, ?_, ?_⟩
              · have e0 : Gr F w wr.drew = F := Gr.same HKN.out.2
                exact (HKN.out.1.drew).trans (by rw [e0]; exact k2)
              · show (wr.setCell _ _).heap.size = _
                rw [setD_size]; exact HKN.out.2
            case measure => simp [intOf] <;> omega
          · have hE2 : t = (d1.r i).q.length := by omega
            have Q := hm.qnil (i := i) hi1
            rw [hE2, fl_end] at Q
            have QQ := hid Q
            have HKN := hid (And.intro hkp hsz)
            clear Q hkp hm
            go_wp2
            go_ret
            obtain ⟨k1, k2, k3⟩ := QQ.out
            rw [hE.out, hD2.out]
            refine ⟨rfl, ⟨L, k1⟩, ?_, ?_⟩
            · have e0 : Gr F w wr = F := Gr.same HKN.out.2
              exact HKN.out.1.trans (by rw [e0]; exact k2)
            · rw [setD_size]; exact HKN.out.2
      · rw [hn] at CF hE hD
        have DY := hid (dec_yes hn)
        have DQ := dec_q (d := d) (a := i)
        go_enter Tryz.func50, Tryz.ntmps50
        go_wp2_with fail
        refine CF.out.mono ?_
        rintro e w4 ⟨rfl, m1, m2, _, m4⟩
        have c5 := m1.cD.2.2.2.2.1
        have CL := hid (loseR m1 (fun j hj => by rw [DQ.1]; rw [DQ.2] at hj; exact hq j hj) m1.kr.kr (K := aK (dec d i).ask) (by
          rcases ha : (dec d i).ask with _ | ⟨b', l', K'⟩
          · exact fun y hy => by cases hy
          · exact (m1.ok.ask b' l' K' ha).2.2) L.kc)
        rw [DY.out] at CL
        have MM := hid (And.intro m2 m4)
        clear m1 m2 m4 DQ
        generalize (aK (dec d i).ask).length = kl at *
        go_wp2_with fail
        refine CL.out.mono ?_
        rintro e w5 ⟨rfl, n1, n2, _, n4⟩
        have NN := hid (And.intro n1 (And.intro n2 n4))
        clear n1 n2 n4
        go_wp2
        go_ret
        obtain ⟨m2, m4⟩ := MM.out
        obtain ⟨n1, n2, n4⟩ := NN.out
        rw [hE.out, hD.out]
        have e0 : Gr F w w4 = F := Gr.same m4
        exact ⟨rfl, n1, m2.trans (by rw [e0]; exact n2), n4.trans m4⟩
    · have hp : d.preF a = 10 := by unfold Dk.preF; rw [co', if_neg c]; rfl
      have hE : Hid (d.flushE a = 10 ∧ d.flush a = d) := by
        unfold Dk.flushE Dk.flush
        rw [hp]
        exact ⟨rfl, rfl⟩
      have c0 : ¬ (0 ≤ a ∧ a < d.k) := fun h => c (has_iff.2 h)
      clear c hp co
      rcases Int.lt_or_le a 0 with h0 | h0
      all_goals
        go_enter Tryz.func50, Tryz.ntmps50
        go_wp2
        go_ret
        rw [hE.out.1, hE.out.2]
        exact ⟨rfl, SAME.out.1, SAME.out.2.1, rfl⟩

end Go.Proofs.YthmholgfnjpgbaaGreat.Wr

namespace Go.Proofs.YthmholgfnjpgbaaGreat.Wr
open Go.ChangeShapes Go.WideShapes Go.ChangeAt Go.RowKit Go.Proofs.YthmholgfnjpgbaaGreat.M Go.Proofs.YthmholgfnjpgbaaGreat.Wd

/-- A region, of which the first t sectors are laid. -/
def ly (r : Rg) (x : ByteArray) (t : Nat) : Rg := { r with s := fun k => if k < t then cut64 x (64 * k) else r.s k, q := [] }
theorem ly_zero (r : Rg) (x : ByteArray) : ly r x 0 = { r with q := [] } := by
  unfold ly
  simp
theorem ly_succ (r : Rg) (x : ByteArray) (t : Nat) : ({ ly r x t with s := upd (ly r x t).s t (cut64 x (64 * t)) } : Rg) = ly r x (t + 1) := by
  have e : upd (ly r x t).s t (cut64 x (64 * t)) = (ly r x (t + 1)).s := by
    funext k
    show (if k = t then _ else if k < t then _ else _) = if k < t + 1 then _ else _
    by_cases c : k = t
    · subst c
      rw [if_pos rfl, if_pos (by omega)]
    · rw [if_neg c]
      by_cases c2 : k < t
      · rw [if_pos c2, if_pos (by omega)]
      · rw [if_neg c2, if_neg (by omega)]
  rw [e]
  rfl

theorem sl_congr {s s' : Nat → ByteArray} {n : Nat} (h : ∀ k, k < n → s' k = s k) : sl s' n = sl s n := by
  apply List.ext_getElem?
  intro j
  by_cases hj : j < n
  · rw [sl_get _ _ _ hj, sl_get _ _ _ hj, h j hj]
  · rw [List.getElem?_eq_none (by rw [sl_length]; omega), List.getElem?_eq_none (by rw [sl_length]; omega)]
theorem RkL.sectors {w : World} {D : Nat} {d : Dk} {F : Nat → Prop} {L : Lr} {i : Nat} {r r' : Rg} (h : RkL w D (d.at i r) F L) (hi : i < d.k) (hok : r'.ok) (hn : r'.n = r.n) (hq : r'.q = r.q) (hs : ∀ k, k < r.n → r'.s k = r.s k) : RkL w D (d.at i r') F L := by
  have hri : (d.at i r).r i = r := upd_at _ _ _
  have h1 := h.reg i hi
  have h2 := h.las i hi
  have h3 := h.que i hi
  rw [hri] at h1 h2 h3
  have P := h.turn (w' := w) (i := i) hi (r := r') hok (lb := L.lb i) (lm := L.lm i) (qb := L.qb i) (qm := L.qm i) (Nat.le_refl _) (fun _ _ _ _ _ => rfl) (by rw [hn, hq]; exact h1) (fun h0 => by
    rw [hn] at h0 ⊢
    obtain ⟨l, q1, q2, q3, q4, q5⟩ := h2 h0
    exact ⟨l, q1, q2, q3, q4, by rw [q5, sl_congr hs]⟩) (fun h0 => .inl ⟨by rw [hri, ← hn]; exact h0, rfl⟩) (fun h0 => by
    rw [hq] at h0 ⊢
    exact h3 h0) (fun h0 => .inl ⟨by rw [hri, ← hq]; exact h0, rfl⟩)
  rw [at_at, upd_self, upd_self, upd_self, upd_self, Gr.self] at P
  exact P

/-- The cells of a sector under way. -/
def pk (x : ByteArray) (a k : Nat) : List Value := (List.range 64).map fun j => .int .u8 (if j < k then bt x (a + j) else 0)
theorem pk_length (x : ByteArray) (a k : Nat) : (pk x a k).length = 64 := by simp [pk]
theorem pk_get (x : ByteArray) (a k j : Nat) (h : j < 64) : (pk x a k)[j]? = some (.int .u8 (if j < k then bt x (a + j) else 0)) := by
  unfold pk
  rw [List.getElem?_map, List.getElem?_range h]
  rfl
theorem pk_zero (x : ByteArray) (a : Nat) : pk x a 0 = lc (fun _ => noB) 1 := by
  apply List.ext_getElem?
  intro j
  by_cases hj : j < 64
  · rw [pk_get _ _ _ _ hj, lc_get _ _ _ (by omega), noB_bt, if_neg (by omega)]
  · rw [List.getElem?_eq_none (by rw [pk_length]; omega), List.getElem?_eq_none (by rw [lc_length]; omega)]
theorem pk_set (x : ByteArray) (a k : Nat) (h : k < 64) : (pk x a k).set k (.int .u8 (bt x (a + k))) = pk x a (k + 1) := by
  apply List.ext_getElem?
  intro j
  by_cases hj : j < 64
  · rw [pk_get _ _ _ _ hj]
    by_cases c : j = k
    · subst c
      rw [List.getElem?_set_self (by rw [pk_length]; exact hj), if_pos (by omega)]
    · rw [List.getElem?_set_ne (fun e => c e.symm), pk_get _ _ _ _ hj]
      by_cases c2 : j < k
      · rw [if_pos c2, if_pos (by omega)]
      · rw [if_neg c2, if_neg (by omega)]
  · rw [List.getElem?_eq_none (by rw [List.length_set, pk_length]; omega), List.getElem?_eq_none (by rw [pk_length]; omega)]
theorem pk_same (x : ByteArray) (a k : Nat) (h : ¬ a + k < x.size) : pk x a k = pk x a (k + 1) := by
  apply List.ext_getElem?
  intro j
  by_cases hj : j < 64
  · rw [pk_get _ _ _ _ hj, pk_get _ _ _ _ hj]
    by_cases c : j = k
    · subst c
      rw [if_neg (by omega), if_pos (by omega), bt_bx, bx_none h]
      rfl
    · by_cases c2 : j < k
      · rw [if_pos c2, if_pos (by omega)]
      · rw [if_neg c2, if_neg (by omega)]
  · rw [List.getElem?_eq_none (by rw [pk_length]; omega), List.getElem?_eq_none (by rw [pk_length]; omega)]
theorem pk_all (x : ByteArray) (a : Nat) : pk x a 64 = dc (cut64 x a) := by
  apply List.ext_getElem?
  intro j
  by_cases hj : j < 64
  · rw [pk_get _ _ _ _ hj, dc_get _ _ hj, if_pos hj, bt_bx, bt_bx, cut64_bx _ _ _ hj]
  · rw [List.getElem?_eq_none (by rw [pk_length]; omega), List.getElem?_eq_none (by rw [dc_length]; omega)]

set_option maxRecDepth 100000 in
set_option maxHeartbeats 1000000 in
theorem layR {w : World} {D : Nat} {d : Dk} {F : Nat → Prop} {L : Lr} (h : RkL w D d F L) (a : Int) (x : ByteArray) (hxz : x.size ≤ 140737488355328) :
    Calls Tryz.prog 7 #[.pointer (some ⟨D, 0, none⟩), .int .i64 a, .string x] w fun e w' => e = .returned (.tuple #[]) ∧ (∃ L', RkL w' D (d.lay a x) F L') ∧ Kept F w w' := by
  have c1 := h.cD.1
  have hk8 := h.ok.k
  by_cases c : d.has a = true
  · obtain ⟨i, rfl, hi⟩ := has_nat c
    have hE : Hid (d.lay (i : Int) x = d.at i ((d.r i).lay x)) := if_pos c
    have r1 := h.cR hi
    obtain ⟨g1, g2, g3⟩ := h.cG hi
    have hn4 := (h.ok.r i hi).n
    have hRok := hid (h.ok.r i hi)
    rw [pt_pos _ (by omega), cp_pos _ (by omega)] at c1
    have Q := h.qnil hi
    have e0 : d.at i { d.r i with q := [] } = d.at i (ly (d.r i) x 0) := by rw [ly_zero]
    rw [e0] at Q
    have QQ := hid (And.intro Q.1 Q.2.1)
    clear c Q e0
    have hm := make64
    have hd1 : decide (d.k ≤ i) = false := by simp; omega
    have hd2 : decide ((i : Int) < 0) = false := by simp
    go_enter Tryz.func7, Tryz.ntmps7
    go_wp2
    go_loopw [7] (fun tv wr => ∃ t : Nat, t ≤ (d.r i).n ∧ tv = .int .i64 (t : Int) ∧ RkL wr D (d.at i (ly (d.r i) x t)) F L ∧ Kept F w wr) (fun tv _ => (d.r i).n - (intOf tv).toNat)
    case atStart => exact ⟨0, Nat.zero_le _, rfl, QQ.out⟩
    case round =>
      clear QQ
      obtain ⟨t, ht, rfl, hd, hkp⟩ := hrel
      rename World => wo
      have hri : (d.at i (ly (d.r i) x t)).r i = ly (d.r i) x t := upd_at _ _ _
      obtain ⟨k1, k2, k3⟩ := hd.cG (i := i) hi
      rw [hri] at k1 k2
      have k1' : wo.cell? ⟨L.rb i, 0, none⟩ = some (.slice (pt (d.r i).n (L.lb i)) (d.r i).n (cp (d.r i).n (L.lm i))) := k1
      clear k1 k2 k3
      by_cases htl : t < (d.r i).n
      · rw [pt_pos (n := (d.r i).n) _ (by omega), cp_pos (n := (d.r i).n) _ (by omega)] at k1'
        have LAST : Hid (∀ W, Below wo.heap.size wo W → RkL (W.setCell ⟨L.lb i, t, none⟩ (.string (cut64 x (64 * t)))) D (d.at i (ly (d.r i) x (t + 1))) F L ∧ Kept F w (W.setCell ⟨L.lb i, t, none⟩ (.string (cut64 x (64 * t))))) := fun W hW => by
          have P := (hd.below hW).last (i := i) hi (k := t) (by rw [hri]; exact htl) (x := cut64 x (64 * t)) (cut64_size _ _)
          rw [hri, ly_succ, at_at] at P
          refine ⟨P.1, ?_⟩
          have e1 : Kept F w W := hkp.trans (.of_below hW)
          exact e1.trans (P.2.1.mono fun b _ hb => .inl hb)
        have LC : Hid (∀ W, Below wo.heap.size wo W → W.cell? ⟨L.lb i, t, none⟩ = some (.string ((ly (d.r i) x t).s t)) ∧ W.frozen? ⟨L.lb i, t, none⟩ = false ∧ W.cell? ⟨L.rb i, 0, none⟩ = some (.slice (some ⟨L.lb i, 0, none⟩) (d.r i).n (L.lm i))) := fun W hW => by
          obtain ⟨l1, l2⟩ := (hd.below hW).cL (i := i) hi (k := t) (by rw [hri]; exact htl)
          rw [hri] at l1
          exact ⟨l1, l2, (hW.cell (hd.lt _ (hd.ownr i hi))).trans k1'⟩
        have B0 := hid ((Below.refl wo.heap.size wo).alloc (Nat.le_refl _) (.cells (lc (fun _ => noB) 1).toArray 5))
        have P0 : Hid ((wo.alloc (.cells (lc (fun _ => noB) 1).toArray 5)).heap[wo.heap.size]? = some (.cells (pk x (64 * t) 0).toArray 5 (0, 0))) := by
          rw [pk_zero]
          exact heap_alloc_last wo _
        clear hd hkp
        generalize (ly (d.r i) x t).s t = old at *
        go_wp2
        go_loopw [9] (fun kv wk => ∃ k : Nat, k ≤ 64 ∧ kv = .int .i64 (k : Int) ∧ wk.heap[wo.heap.size]? = some (.cells (pk x (64 * t) k).toArray 5 (0, 0)) ∧ Below wo.heap.size wo wk) (fun kv _ => 64 - (intOf kv).toNat)
        case atStart => exact ⟨0, Nat.zero_le _, rfl, P0.out, B0.out⟩
        case round =>
          clear B0 P0
          obtain ⟨k, hk, rfl, hb, hbel⟩ := hrel
          by_cases hk64 : k < 64
          · by_cases hin : 64 * t + k < x.size
            · have cb := blk_cell hb (pk_get x (64 * t) k k hk64)
              have fb := blk_free hb k
              have hgt : ∀ (hh : t * 64 + k < x.size), ((x[t * 64 + k]'hh).toNat : Int) = bt x (64 * t + k) := fun hh => by
                rw [get_bt x _ hh, Nat.mul_comm t 64]
              have hin2 : t * 64 + k < x.size := by omega
              have hgt2 := hgt hin2
              have ST := hid (blk_set hb k (.int .u8 (bt x (64 * t + k))))
              rw [pk_set _ _ _ hk64] at ST
              have BE := hid (hbel.setCell (p := ⟨wo.heap.size, k, none⟩) (Nat.le_refl _) (.int .u8 (bt x (64 * t + k))))
              clear hgt hb hbel
              generalize bt x (64 * t + k) = bv at *
              go_wp2
              go_roundw
              case rel =>
                first
                  | exact ⟨k + 1, by omega, by go_num, ST.out, BE.out⟩
                  | (refine ⟨_, _, _, _, _, _, _, _, _, _, _, _, _, _, _, _, _, _, _, _, _, ⟨k + 1, by omega, ?_, ST.out, BE.out⟩, rfl⟩; go_num)
              case measure => simp [intOf] <;> omega
            · have SM := hid (pk_same x (64 * t) k hin)
              have HB := hid (And.intro hb hbel)
              have hin2 : ¬ t * 64 + k < x.size := by omega
              clear hb hbel
              go_wp2
              go_roundw
              case rel => exact ⟨k + 1, by omega, by go_num, by rw [← SM.out]; exact HB.out.1, HB.out.2⟩
              case measure => simp [intOf] <;> omega
          · have hk2 : k = 64 := by omega
            subst hk2
            rw [pk_all] at hb
            have hcv := conv_dc (W := wr.drew) hb (cut64_size x (64 * t))
            obtain ⟨l1, l2, l3⟩ := LC.out _ hbel
            have FI := hid (LAST.out _ hbel.drew)
            clear hb hbel
            generalize cut64 x (64 * t) = cx at *
            go_wp2_with fail
            go_region
            all_goals try go_wp2
            all_goals go_roundw
            case rel => exact ⟨t + 1, by omega, by go_num, FI.out⟩
            case measure => simp [intOf] <;> omega
      · have hE2 : t = (d.r i).n := by omega
        have FI := hid (And.intro hd hkp)
        clear hd hkp
        go_wp2
        go_end0
        obtain ⟨f1, f2⟩ := FI.out
        refine ⟨rfl, ⟨L, ?_⟩, f2⟩
        rw [hE.out]
        rw [hE2] at f1
        exact f1.sectors hi (Rg.lay_ok hRok.out x) rfl rfl (fun k hk => (if_pos hk).symm)
  · have hE : Hid (d.lay a x = d) := if_neg c
    have c0 : ¬ (0 ≤ a ∧ a < d.k) := fun h => c (has_iff.2 h)
    have HH := hid h
    clear c
    rcases Int.lt_or_le a 0 with h0 | h0
    all_goals
      go_enter Tryz.func7, Tryz.ntmps7
      go_wp2
      refine bodyPost_ret (results_none rfl _ _ _) rfl ?_
      exact ⟨rfl, by rw [hE.out]; exact ⟨L, HH.out⟩, Kept.refl _ _⟩

end Go.Proofs.YthmholgfnjpgbaaGreat.Wr

namespace Go.Proofs.YthmholgfnjpgbaaGreat.Wr
open Go.ChangeShapes Go.WideShapes Go.ChangeAt Go.RowKit Go.Proofs.YthmholgfnjpgbaaGreat.M Go.Proofs.YthmholgfnjpgbaaGreat.Wd

theorem uc_take_succ {K : List Int} {t : Nat} (h : t < K.length) : uc (K.take (t + 1)) = uc (K.take t) ++ [.int .u64 (K.getD t 0)] := by
  unfold uc
  rw [List.take_succ_eq_append_getElem h, List.map_append, List.getD_eq_getElem?_getD, List.getElem?_eq_getElem h]
  rfl

/-- Behind the append of one number. -/
theorem cut_end {w0 wr w3 : World} {D : Nat} {d : Dk} {F : Nat → Prop} {L : Lr} {i l : Nat} {K : List Int} {t : Nat} {o : Obj} {g cap : Nat} (ht : t < K.length) (h64 : K64 K) (hd : RkL wr D { d with ask := some (i, l, K.take t) } (Gr F w0 wr) L) (hk : Kept F w0 wr) (hDF : F D) (hDl : D < w0.heap.size)
    (own : wr.ownsRow w0.heap.size 135 1 (.slice L.ka t L.kc) t (uc (K.take t)))
    (own3 : w3.ownsRow w0.heap.size 135 1 (.slice (some ⟨g, 0, none⟩) (t + 1) cap) (t + 1) (uc (K.take t) ++ [.int .u64 (K.getD t 0)])) (gr3 : (wr.drew.alloc o).grownBy w3 (Value.slice L.ka t L.kc).ownBlock) :
    (w3.cell? ⟨D, 4, none⟩ = some (.slice L.ka t L.kc) ∧ w3.frozen? ⟨D, 4, none⟩ = false) ∧ ∃ L', (w3.setCell ⟨D, 4, none⟩ (.slice (some ⟨g, 0, none⟩) (t + 1) cap)).ownsRow w0.heap.size 135 1 (.slice L'.ka (t + 1) L'.kc) (t + 1) (uc (K.take (t + 1))) ∧
      RkL (w3.setCell ⟨D, 4, none⟩ (.slice (some ⟨g, 0, none⟩) (t + 1) cap)) D { d with ask := some (i, l, K.take (t + 1)) } (Gr F w0 (w3.setCell ⟨D, 4, none⟩ (.slice (some ⟨g, 0, none⟩) (t + 1) cap))) L' ∧ Kept F w0 (w3.setCell ⟨D, 4, none⟩ (.slice (some ⟨g, 0, none⟩) (t + 1) cap)) := by
  have bW : Below wr.heap.size wr (wr.drew.alloc o) := (Below.refl wr.heap.size wr).drew.alloc (Nat.le_refl _) o
  have hrow : ∀ k, (Value.slice L.ka t L.kc).ownBlock = some k → w0.heap.size ≤ k ∧ ∃ cs, wr.heap[k]? = some (.cells cs 135 (0, 0)) := by
    intro k hk'
    rcases own.2 with ⟨e1, _⟩ | ⟨g', cap', cur, e1, e2, k1, _⟩
    · rw [e1] at hk'; cases hk'
    · rw [e1] at hk'
      have e : g' = k := by simpa [Value.ownBlock] using hk'
      subst e
      exact ⟨e2, _, k1⟩
  have hsW : (wr.drew.alloc o).heap.size = wr.heap.size + 1 := by simp
  have hsz := gr3.size
  rw [hsW] at hsz
  have hblk : ∀ b, b < wr.heap.size → (Value.slice L.ka t L.kc).ownBlock ≠ some b → w3.heap[b]? = wr.heap[b]? := fun b hb hne => (gr3.block b (by omega) (fun e => hne e.symm)).trans (bW.block b hb)
  have hks := hk.size
  have hD3 : w3.heap[D]? = _ := (hblk D (by omega) (fun e => by have := (hrow D e).1; omega)).trans hd.dk
  have hlen : (K.take t).length = t := by rw [List.length_take]; omega
  have hlen1 : (K.take (t + 1)).length = t + 1 := by rw [List.length_take]; omega
  have hca : aK (some (i, l, K.take t)) = K.take t := rfl
  have hc3 : w3.cell? ⟨D, 4, none⟩ = some (.slice L.ka (K.take t).length L.kc) := blk_cell (l := [_, _, _, _, _]) hD3 rfl
  rw [hlen] at hc3
  have s1 := setR_cell (j := 4) (v := .slice (some ⟨g, 0, none⟩) (t + 1) cap) hD3
  have eS : (w3.setCell ⟨D, 4, none⟩ (.slice (some ⟨g, 0, none⟩) (t + 1) cap)).heap.size = w3.heap.size := setD_size
  have own4 : (w3.setCell ⟨D, 4, none⟩ (.slice (some ⟨g, 0, none⟩) (t + 1) cap)).ownsRow w0.heap.size 135 1 (.slice (some ⟨g, 0, none⟩) (t + 1) cap) (t + 1) (uc (K.take (t + 1))) := by
    rw [uc_take_succ ht]
    exact ownsRow_setCell_below own3 (by exact hDl) _
  have hta := hd.ta i l _ rfl
  have hok := hd.ok.ask i l _ rfl
  refine ⟨⟨hc3, blk_free hD3 _⟩, { L with ta := L.ta, ka := some ⟨g, 0, none⟩, kc := cap }, own4, ?_, ?_⟩
  · refine hd.setD (off := d.off) (ask := some (i, l, K.take (t + 1))) (ta := L.ta) (ka := some ⟨g, 0, none⟩) (kc := cap) (by
      rw [s1]
      show some (Obj.cells #[_, _, _, _, .slice (some ⟨g, 0, none⟩) (t + 1) cap] _ _) = some (Obj.cells #[_, _, _, _, .slice (some ⟨g, 0, none⟩) (K.take (t + 1)).length cap] _ _)
      rw [hlen1]
      rfl) (fun b hb hbl hnt => by
      rw [setD_other hb]
      exact hblk b hbl (fun e => by
        obtain ⟨_, cs, e2⟩ := hrow b e
        exact hnt cs _ e2)) (fun b hb => by
      rcases hb with hb | hb
      · exact .inl hb
      · exact .inr ⟨hb.1, by rw [eS]; omega⟩) (fun b hb => by
      rcases hb with hb | hb
      · have := hd.lt b (.inl hb); rw [eS]; omega
      · exact hb.2) ?_ (fun a' l' K' e => by
      simp at e
      rw [← e.1]; exact hta) (fun a' l' K' e => by
      simp at e
      obtain ⟨rfl, rfl, rfl⟩ := e
      exact ⟨hok.1, hok.2.1, fun x hx => h64 x (List.mem_of_mem_take hx)⟩)
    rcases own4.2 with ⟨e1, _⟩ | ⟨g', cap', cur, e1, e2, k1, k2, k3, k4, k5⟩
    · cases e1
    · simp at e1
      obtain ⟨rfl, rfl⟩ := e1
      refine .inr ⟨g, 0, cur, (0, 0), rfl, k1, .inr ⟨e2, blk_lt k1⟩, fun j hj => ?_⟩
      have hj' : j < (K.take (t + 1)).length := hj
      have := uc_get (K.take (t + 1)) j hj'
      rw [← k5, List.getElem?_take, if_pos (by rw [hlen1] at hj'; omega)] at this
      rw [Nat.zero_add, ← Array.getElem?_toList]
      exact this
  · refine Kept.setCell ⟨gr3.os.trans (bW.os.trans hk.os), gr3.tape.trans (bW.tape.trans hk.tape), gr3.output.trans (bW.output.trans hk.output), by omega, fun b hb hF => ?_⟩ hDF _
    rw [hblk b (by omega) (fun e => by have := (hrow b e).1; omega)]
    exact hk.block b hb hF

set_option maxRecDepth 100000 in
set_option maxHeartbeats 1000000 in
theorem cutR {w : World} {D : Nat} {d : Dk} {F : Nat → Prop} {L : Lr} (h : RkL w D d F L) (a n : Int) (hn63 : n < 9223372036854775808) (ao : Option Addr) (K : List Int) (c : Nat) (h64 : K64 K) (hb : K.length * 8 ≤ 140737488351232) (ha : ∀ j, j < K.length → ∃ b o, ao = some ⟨b, o, none⟩ ∧ b < w.heap.size ∧ ¬ F b ∧ w.cell? ⟨b, o + j, none⟩ = some (.int .u64 (K.getD j 0))) :
    Calls Tryz.prog 52 #[.pointer (some ⟨D, 0, none⟩), .int .i64 a, .int .i64 n, .slice ao K.length c] w fun e w' => e = .returned (.tuple #[]) ∧ (∃ L', RkL w' D (d.cut a n K) (Gr F w w') L') ∧ Kept F w w' := by
  obtain ⟨i0, hi0, hz0, hz1, hz2⟩ := info_parts infoU
  obtain ⟨c1, c2, c3, c4, c5, c6⟩ := h.cD
  have hk8 := h.ok.k
  have e1 := setR_cell (j := 3) (v := .int .i64 0) h.dk
  have e2 := setR_cell (j := 4) (v := .slice none 0 0) e1
  have hDF := h.ownD
  have hDl := h.lt D hDF
  by_cases cv : 1 ≤ n ∧ d.has a = true
  · obtain ⟨cn, ch⟩ := cv
    obtain ⟨i, rfl, hi⟩ := has_nat ch
    have e3 := setR_cell (j := 2) (v := .int .i64 (i : Int)) e2
    have e4 := setR_cell (j := 3) (v := .int .i64 n) e3
    obtain ⟨w1, hw1⟩ : ∃ w1, w1 = (((w.setCell ⟨D, 3, none⟩ (.int .i64 0)).setCell ⟨D, 4, none⟩ (.slice none 0 0)).setCell ⟨D, 2, none⟩ (.int .i64 (i : Int))).setCell ⟨D, 3, none⟩ (.int .i64 n) := ⟨_, rfl⟩
    rw [← hw1] at e4
    have hs1 : w1.heap.size = w.heap.size := by rw [hw1, setD_size, setD_size, setD_size, setD_size]
    have ho : ∀ k, k ≠ D → w1.heap[k]? = w.heap[k]? := fun k hk => by rw [hw1, setD_other hk, setD_other hk, setD_other hk, setD_other hk]
    have K1 : Kept F w w1 := by rw [hw1]; exact Kept.setCell (Kept.setCell (Kept.setCell (Kept.setCell (Kept.refl _ _) hDF _) hDF _) hDF _) hDF _
    have P1 := h.setD (w' := w1) (G := Gr F w w1) (off := d.off) (ask := some (i, n.toNat, K.take 0)) (ta := (i : Int)) (ka := none) (kc := 0) (by
      rw [e4]
      show some (Obj.cells #[_, _, _, .int .i64 n, .slice none 0 0] _ _) = some (Obj.cells #[_, _, _, .int .i64 ((n.toNat : Nat) : Int), .slice none 0 0] _ _)
      rw [Int.toNat_of_nonneg (by omega)]) (fun k hk _ _ => ho k hk) (fun _ hb => .inl hb) (fun k hk => by
      rcases hk with hk | hk
      · rw [hs1]; exact h.lt k hk
      · exact hk.2) (.inl rfl) (fun a' l' K' e => by simp at e; rw [e.1]) (fun a' l' K' e => by
      simp at e
      obtain ⟨rfl, rfl, rfl⟩ := e
      exact ⟨hi, by omega, fun x hx => by cases hx⟩)
    have hcut : Hid (d.cut (i : Int) n K = { d with ask := some (i, n.toNat, K) }) := by
      show _ = _
      unfold Dk.cut
      rw [if_pos ⟨cn, ch⟩, Int.toNat_natCast]
    have START : Hid (∃ L', w1.ownsRow w.heap.size 135 1 (.slice L'.ka 0 L'.kc) 0 (uc (K.take 0)) ∧ RkL w1 D { d with ask := some (i, n.toNat, K.take 0) } (Gr F w w1) L' ∧ Kept F w w1) := ⟨_, ⟨rfl, .inl ⟨rfl, rfl⟩⟩, P1, K1⟩
    have HW1 := hid hw1.symm
    have hd1 : decide (d.k ≤ i) = false := by simp; omega
    have hd2 : decide ((i : Int) < 0) = false := by simp
    rw [pt_pos _ (by omega), cp_pos _ (by omega)] at c1
    clear ch P1 K1 e1 e2 e3 e4 ho
    go_enter Tryz.func52, Tryz.ntmps52
    go_wp2
    rw [HW1.out]
    go_loopw [8] (fun tv wr => ∃ t : Nat, t ≤ K.length ∧ tv = .int .i64 (t : Int) ∧ ∃ L', wr.ownsRow w.heap.size 135 1 (.slice L'.ka t L'.kc) t (uc (K.take t)) ∧ RkL wr D { d with ask := some (i, n.toNat, K.take t) } (Gr F w wr) L' ∧ Kept F w wr) (fun tv _ => K.length - (intOf tv).toNat)
    case atStart => exact ⟨0, Nat.zero_le _, rfl, START.out⟩
    case round =>
      clear START
      obtain ⟨t, ht, rfl, L', own, hd, hkp⟩ := hrel
      by_cases htl : t < K.length
      · obtain ⟨b, o, rfl, q2, q3, q4⟩ := ha t htl
        have r1 := (hkp.cell (p := ⟨b, o + t, none⟩) (by exact q2) (by exact q3)).trans q4
        have r2 := hd.cD.2.2.2.2.1
        have hlen : (K.take t).length = t := by rw [List.length_take]; omega
        have r3 : wr.cell? ⟨D, 4, none⟩ = some (.slice L'.ka t L'.kc) := by
          rw [← hlen]
          exact r2
        have r4 : ∀ o, (wr.alloc o).cell? ⟨D, 4, none⟩ = some (.slice L'.ka t L'.kc) := fun o => (World.cell?_of_block (w := wr) (Below.heap_alloc wr o D (by have := hkp.size; omega))).trans r3
        have OW : Hid (∀ o, (wr.drew.alloc o).ownsRow w.heap.size 135 1 (.slice L'.ka t L'.kc) t (uc (K.take t))) := fun o => World.ownsRow.alloc (w := wr.drew) own o
        have FI := hid (fun (w3 : World) (g cap : Nat) (o : Obj) own3 gr3 => cut_end (w3 := w3) (o := o) (g := g) (cap := cap) htl h64 hd hkp hDF hDl own own3 gr3)
        have hsz := hkp.size
        clear r2 own hd hkp ha q4
        generalize K.getD t 0 = kx at *
        go_wp2_with fail
        go_region_law (refine step_append_lies _ rfl (.tmp 48) (.tmp 53) 41 rfl w.heap.size 135 i0 (.int .u64 0) 1 8 Tryz.underlying41 hi0 hz0 hz1 hz2 rfl (by decide) _ _ _ rfl (OW.out _) ⟨wr.heap.size, 0, none⟩ 1 1 [.int .u64 kx] rfl rfl (World.news_of_block (heap_alloc_last wr.drew _)) (by intro u hu; simp at hu; subst hu; rfl) (by decide) (by unfold maxLen; omega) (by omega) (by show _ ≤ (World.alloc _ _).heap.size; simp; omega) (wr.heap.size + 1) (by simp) ?_; intro g cap w3 own3 gr3 hg3 hlt3; obtain ⟨⟨f1, f2⟩, f3⟩ := FI.out w3 g cap _ own3 gr3; have F3 := hid f3; clear f3 own3 gr3 hg3 hlt3)
        all_goals try go_wp2
        all_goals go_roundw
        all_goals first | exact ⟨t + 1, by omega, by go_num, F3.out⟩ | (simp [intOf] <;> omega)
      · have hE : t = K.length := by omega
        have hT : K.take t = K := by rw [hE]; exact List.take_length
        rw [hT] at hd
        have FI := hid (And.intro hd hkp)
        clear own hd hkp ha hT
        go_wp2
        go_end0
        obtain ⟨f1, f2⟩ := FI.out
        rw [hcut.out]
        exact ⟨rfl, ⟨L', f1⟩, f2⟩
  · have hcut : d.cut a n K = { d with off := d.off, ask := none } := by unfold Dk.cut; rw [if_neg cv]
    obtain ⟨w0, hw0⟩ : ∃ w0, w0 = (w.setCell ⟨D, 3, none⟩ (.int .i64 0)).setCell ⟨D, 4, none⟩ (.slice none 0 0) := ⟨_, rfl⟩
    rw [← hw0] at e2
    have hs1 : w0.heap.size = w.heap.size := by rw [hw0, setD_size, setD_size]
    have ho : ∀ k, k ≠ D → w0.heap[k]? = w.heap[k]? := fun k hk => by rw [hw0, setD_other hk, setD_other hk]
    have K1 : Kept F w w0 := by rw [hw0]; exact Kept.setCell (Kept.setCell (Kept.refl _ _) hDF _) hDF _
    have P1 := h.setD (w' := w0) (G := F) (off := d.off) (ask := none) (ta := L.ta) (ka := none) (kc := 0) e2 (fun k hk _ _ => ho k hk) (fun _ hb => hb) (fun k hk => by rw [hs1]; exact h.lt k hk) (.inl rfl) (fun a' l' K' e => by cases e) (fun a' l' K' e => by cases e)
    have FI : Hid ((∃ L', RkL w0 D (d.cut a n K) (Gr F w w0) L') ∧ Kept F w w0) := by
      rw [Gr.same hs1, hcut]
      exact ⟨⟨_, P1⟩, K1⟩
    have HW0 := hid hw0.symm
    have c0 : n < 1 ∨ a < 0 ∨ (d.k : Int) ≤ a := by
      by_cases c1 : 1 ≤ n
      · have : ¬ (0 ≤ a ∧ a < d.k) := fun hh => cv ⟨c1, has_iff.2 hh⟩
        omega
      · omega
    clear P1 K1 e1 e2 ho cv hcut ha
    rcases (show a < 0 ∨ (0 ≤ a ∧ (d.k : Int) ≤ a) ∨ (0 ≤ a ∧ a < d.k ∧ n < 1) by omega) with q | q | q
    all_goals
      go_enter Tryz.func52, Tryz.ntmps52
      go_wp2
      rw [HW0.out]
      refine bodyPost_ret (results_none rfl _ _ _) rfl ?_
      exact ⟨rfl, FI.out⟩

end Go.Proofs.YthmholgfnjpgbaaGreat.Wr
