/-
  The walks of the disk's calls that turn it: On, Lay, fails, Crash, Write, Flush. Each answers, and leaves the disk, as the disk as plain data says.
-/
import Derived.Test.YtcnonioiggniiaaDkH
namespace Go.Proofs.Ytcnonioiggniiaa.Wd
open Go.ChangeShapes Go.WideShapes Go.ChangeAt Go.RowKit Go.Proofs.Ytcnonioiggniiaa.M

/-- The disk's own cells have turned. -/
theorem DkL.setD {w w' : World} {D : Nat} {d : Dk} {F G : Nat → Prop} {L : Ly} (h : DkL w D d F L) {off : Bool} {ask : Option (Nat × Nat × List Int)} {ka : Option Addr} {kc : Nat}
    (hb : w'.heap[D]? = some (.cells #[.slice (pt d.k L.R) d.k (cp d.k L.rc), .bool off, .int .i64 (aR ask), .int .i64 (aL ask), .slice ka (aK ask).length kc] 66 (0, 0))) (hk : ∀ b, b ≠ D → b < w.heap.size → w'.heap[b]? = w.heap[b]?)
    (hFG : ∀ b, F b → G b) (hlt : ∀ b, G b → b < w'.heap.size) (hkr : KO G w' ka (aK ask)) (hok : ∀ a l K, ask = some (a, l, K) → a < d.k ∧ l < 9223372036854775808 ∧ K64 K) : DkL w' D { d with off := off, ask := ask } G { L with ka := ka, kc := kc } := by
  have hK : ∀ (b : Nat) (cs : Array Value) (T : TypeId) (fr : Nat × Nat), w.heap[b]? = some (.cells cs T fr) → T ≠ 66 → w'.heap[b]? = w.heap[b]? := fun b cs T fr h1 h2 => hk b (fun e => by
    rw [e, h.dk] at h1
    simp at h1
    exact h2 h1.2.1.symm) (blk_lt h1)
  exact {
    dk := hb
    rows := fun hp => by
      obtain ⟨l, h1, h2⟩ := h.rows hp
      exact ⟨l, (hK _ _ _ _ h1 (by decide)).trans h1, h2⟩
    lb := fun i hi => (hK _ _ _ _ (h.lb i hi) (by decide)).trans (h.lb i hi)
    qb := fun i hi hq => by
      obtain ⟨l, h1, h2⟩ := h.qb i hi hq
      exact ⟨l, (hK _ _ _ _ h1 (by decide)).trans h1, h2⟩
    injl := h.injl
    injq := h.injq
    kr := hkr
    ownD := hFG _ h.ownD
    ownR := fun hp => hFG _ (h.ownR hp)
    ownl := fun i hi => hFG _ (h.ownl i hi)
    ownq := fun i hi hq => hFG _ (h.ownq i hi hq)
    lt := hlt
    ok := ⟨h.ok.k, h.ok.r, hok⟩ }

/-- A store into the disk's own cells. -/
theorem setD_cell {w : World} {D j : Nat} {v : Value} {l : List Value} (h : w.heap[D]? = some (.cells l.toArray 66 (0, 0))) : (w.setCell ⟨D, j, none⟩ v).heap[D]? = some (.cells (l.set j v).toArray 66 (0, 0)) := blk_set h j v
theorem setD_other {w : World} {D j : Nat} {v : Value} {b : Nat} (h : b ≠ D) : (w.setCell ⟨D, j, none⟩ v).heap[b]? = w.heap[b]? := Below.heap_setCell _ _ _ _ h
theorem setD_size {w : World} {D j : Nat} {v : Value} : (w.setCell ⟨D, j, none⟩ v).heap.size = w.heap.size := by simp [World.setCell]

/-- Four cells of the disk stored. -/
def off4 (w : World) (D : Nat) (b : Bool) : World := (((w.setCell ⟨D, 1, none⟩ (.bool b)).setCell ⟨D, 2, none⟩ (.int .i64 0)).setCell ⟨D, 3, none⟩ (.int .i64 0)).setCell ⟨D, 4, none⟩ (.slice none 0 0)
theorem DkL.off4 {w : World} {D : Nat} {d : Dk} {F : Nat → Prop} {L : Ly} (h : DkL w D d F L) (b : Bool) :
    (∃ L', DkL (off4 w D b) D { d with off := b, ask := none } F L') ∧ Kept F w (off4 w D b) ∧ Nums w (off4 w D b) ∧ (Wd.off4 w D b).heap.size = w.heap.size := by
  have e1 := setD_cell (j := 1) (v := .bool b) h.dk
  have e2 := setD_cell (j := 2) (v := .int .i64 0) e1
  have e3 := setD_cell (j := 3) (v := .int .i64 0) e2
  have e4 := setD_cell (j := 4) (v := .slice none 0 0) e3
  have hs : (Wd.off4 w D b).heap.size = w.heap.size := by unfold Wd.off4; rw [setD_size, setD_size, setD_size, setD_size]
  have ho : ∀ k, k ≠ D → (Wd.off4 w D b).heap[k]? = w.heap[k]? := fun k hk => by unfold Wd.off4; rw [setD_other hk, setD_other hk, setD_other hk, setD_other hk]
  refine ⟨⟨_, h.setD (ask := none) (ka := none) (kc := 0) e4 (fun k hk _ => ho k hk) (fun _ hb => hb) (fun k hk => by rw [hs]; exact h.lt k hk) (.inl rfl) (fun a l K e => by cases e)⟩, ?_, ?_, hs⟩
  · exact Kept.setCell (Kept.setCell (Kept.setCell (Kept.setCell (Kept.refl _ _) h.ownD _) h.ownD _) h.ownD _) h.ownD _
  · exact (Nums.setCell h.dk (by decide) _).trans ((Nums.setCell e1 (by decide) _).trans ((Nums.setCell e2 (by decide) _).trans (Nums.setCell e3 (by decide) _)))

set_option maxRecDepth 100000 in
theorem onD {w : World} {D : Nat} {d : Dk} {F : Nat → Prop} {L : Ly} (h : DkL w D d F L) :
    Calls Try.prog 18 #[dp D] w fun e w' => e = .returned (.tuple #[]) ∧ (∃ L', DkL w' D d.on F L') ∧ Kept F w w' ∧ Nums w w' ∧ w'.heap.size = w.heap.size := by
  obtain ⟨c1, c2, c3, c4, c5, c6⟩ := h.cD
  have HP := hid (h.off4 false)
  unfold off4 at HP
  unfold dp
  go_enter Try.func18, Try.ntmps18
  go_wp2
  go_end0
  exact ⟨rfl, HP.out⟩

set_option maxRecDepth 100000 in
theorem layD {w : World} {D : Nat} {d : Dk} {F : Nat → Prop} {L : Ly} (h : DkL w D d F L) (a : Int) (x : ByteArray) :
    Calls Try.prog 22 #[dp D, .int .i64 a, .string x] w fun e w' => e = .returned (.tuple #[]) ∧ (∃ L', DkL w' D (d.lay a x) F L') ∧ Kept F w w' ∧ Nums w w' ∧ w'.heap.size = w.heap.size := by
  have CF := hid (find h (a := a))
  unfold dp
  by_cases c : d.has a = true
  · rw [if_pos c] at CF
    obtain ⟨i, rfl, hi⟩ := has_nat c
    have hE : Hid (d.lay (i : Int) x = d.at i ((d.r i).lay x)) := if_pos c
    have CL := hid (lay h hi x)
    rw [Int.toNat_natCast] at CF
    unfold rp at CF CL
    clear c
    go_enter Try.func22, Try.ntmps22
    go_wp2_with fail
    refine CF.out.mono ?_
    rintro e w1 ⟨rfl, rfl⟩
    go_wp2_with fail
    refine CL.out.mono ?_
    rintro e w1 ⟨rfl, g1, g2⟩
    have HG := hid (And.intro g1 g2)
    clear g1 g2
    go_wp2
    go_end0
    exact ⟨rfl, by rw [hE.out]; exact ⟨⟨_, HG.out.1⟩, HG.out.2⟩⟩
  · rw [if_neg c] at CF
    have hE : Hid (d.lay a x = d) := if_neg c
    have HP := hid h
    clear c
    go_enter Try.func22, Try.ntmps22
    go_wp2_with fail
    refine CF.out.mono ?_
    rintro e w1 ⟨rfl, rfl⟩
    go_wp2
    go_end0
    exact ⟨rfl, by rw [hE.out]; exact ⟨⟨_, HP.out⟩, Kept.refl _ _, Nums.refl _, rfl⟩⟩

set_option maxRecDepth 100000 in
theorem crashD {w : World} {D : Nat} {d : Dk} {F : Nat → Prop} {L : Ly} (h : DkL w D d F L) (hq : ∀ j, j < d.k → (d.r j).q.length ≤ 1048576) {K : List Int} {ao : Option Addr} (hK : KR F w ao K) (h64 : K64 K) (c : Nat) :
    Calls Try.prog 21 #[dp D, .slice ao K.length c] w fun e w' => e = .returned (.tuple #[]) ∧ (∃ L', DkL w' D (d.crash K) (Gr F w w') L') ∧ Kept F w w' ∧ Nums w w' := by
  have CL := hid (lose h hq hK h64 c)
  unfold dp
  go_enter Try.func21, Try.ntmps21
  go_wp2_with fail
  refine CL.out.mono ?_
  rintro e w1 ⟨rfl, g1, g2, g3⟩
  have CO := hid (onD g1)
  have GG := hid (And.intro g2 g3)
  clear g1 g2 g3
  unfold dp at CO
  go_wp2_with fail
  refine CO.out.mono ?_
  rintro e w2 ⟨rfl, ⟨L2, k1⟩, k2, k3, k4⟩
  have KK := hid (And.intro k1 (And.intro k2 (And.intro k3 k4)))
  clear k1 k2 k3 k4
  go_wp2
  go_end0
  obtain ⟨k1, k2, k3, k4⟩ := KK.out
  obtain ⟨g2, g3⟩ := GG.out
  refine ⟨rfl, ⟨L2, ?_⟩, g2.trans k2, g3.trans k3⟩
  have : Gr F w w2 = Gr F w w1 := by unfold Gr; rw [k4]
  rw [this]
  exact k1

end Go.Proofs.Ytcnonioiggniiaa.Wd
