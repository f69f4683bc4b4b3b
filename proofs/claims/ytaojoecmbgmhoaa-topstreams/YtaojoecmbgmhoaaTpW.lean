/-
  What the law TopStreams has in memory: one disk, two streams on it, an array of two pointers, one of two lists, one of two texts, a number, a function value; and what its calls and stores make of it. Nothing is asked but what each fact names.
-/
import Derived.Test.YtaojoecmbgmhoaaSmR
import Derived.Test.YtaojoecmbgmhoaaTpM
import Derived.Test.YtaojoecmbgmhoaaTpV
namespace Go.Proofs.Ytaojoecmbgmhoaa.Wtp
open Go.ChangeShapes Go.WideShapes Go.ChangeAt Go.RowKit Go.Proofs.Ytaojoecmbgmhoaa.M Go.Proofs.Ytaojoecmbgmhoaa.Wd Go.Proofs.Ytaojoecmbgmhoaa.Wst

/-- The law's memory, made since V: the disk at D; its own blocks P to P + 5; n streams lie in memory, nn of them stand in the array; row 2 is the list that an Open has told. -/
structure Tp (V w : World) (P C D n nn lost : Nat) (d : Dk) (s : Nat → Sm) (L : Nat → List ByteArray) (m : Nat → ByteArray) (F G : Nat → Prop) (SP : Nat → Nat) (sv v : Nat → Value) : Prop where
  o : One V w D d F
  p : w.heap[P]? = some (.cells #[.pointer (some ⟨D, 0, none⟩)] 25 (0, 0))
  hs : w.heap[P + 1]? = some (.cells #[sv 0, sv 1] 28 (0, 0))
  ht : w.heap[P + 2]? = some (.cells #[v 0, v 1] 30 (0, 0))
  hm : w.heap[P + 3]? = some (.cells #[.string (m 0), .string (m 1)] 31 (0, 0))
  hl : w.heap[P + 4]? = some (.cells #[.int .i64 (lost : Int)] 3 (0, 0))
  ha : w.heap[P + 5]? = some (.cells #[.func (.func 6) #[] #[.pointer (some ⟨P + 4, 0, none⟩), .pointer (some ⟨C, 0, none⟩), .pointer (some ⟨P, 0, none⟩)]] 1 (0, 0))
  st : ∀ j, j < n → StL w (SP j) D (s j) F ∧ V.heap.size ≤ SP j ∧ G (SP j) ∧ (SP j < P ∨ P + 6 ≤ SP j)
  sp : ∀ j, j < nn → sv j = .pointer (some ⟨SP j, 0, none⟩)
  ne : ∀ i j, i < n → j < n → SP i = SP j → i = j
  hn : nn ≤ n
  r : ∀ k, k < 3 → Rw V w G (v k) (L k)
  dis : ∀ i j b, i < 3 → j < 3 → i ≠ j → (v i).ownBlock = some b → ¬ (v j).ownBlock = some b
  gF : ∀ b, F b → G b
  gP : ∀ b, P ≤ b → b < P + 6 → G b ∧ ¬ F b
  glt : ∀ b, G b → b < w.heap.size
  hV : V.heap.size ≤ P

section
variable {V w : World} {P C D n nn lost : Nat} {d : Dk} {s : Nat → Sm} {L : Nat → List ByteArray} {m : Nat → ByteArray} {F G : Nat → Prop} {SP : Nat → Nat} {sv v : Nat → Value}

theorem Tp.size (h : Tp V w P C D n nn lost d s L m F G SP sv v) : V.heap.size ≤ w.heap.size := h.o.bel.size
theorem Tp.lt (h : Tp V w P C D n nn lost d s L m F G SP sv v) : P + 5 < w.heap.size := blk_lt h.ha
theorem Tp.frow (h : Tp V w P C D n nn lost d s L m F G SP sv v) {k b : Nat} (hk : k < 3) (hb : (v k).ownBlock = some b) : b < w.heap.size ∧ ¬ G b := ⟨((h.r k hk).own.lt b hb).2, (h.r k hk).ap b hb⟩

/-- A row, where its own block hasn't turned. -/
theorem rw_other {W w w' : World} {G G' : Nat → Prop} {v : Value} {L : List ByteArray} (h : Rw W w G v L) (hk : ∀ b, b < w.heap.size → v.ownBlock = some b → w'.heap[b]? = w.heap[b]?) (hG : ∀ b, b < w.heap.size → v.ownBlock = some b → ¬ G' b) : Rw W w' G' v L := by
  refine ⟨?_, fun b hb => hG b (h.own.lt b hb).2 hb⟩
  obtain ⟨h1, h2 | ⟨g, cap, cur, q1, q2, q3, q4⟩⟩ := h.own
  · exact ⟨h1, .inl h2⟩
  · exact ⟨h1, .inr ⟨g, cap, cur, q1, q2, (hk g (blk_lt q3) (by rw [q1]; rfl)).trans q3, q4⟩⟩

/-- Another world, in which the law's blocks and all that isn't in G are as they were. -/
theorem Tp.base (h : Tp V w P C D n nn lost d s L m F G SP sv v) {w' : World} {d' : Dk} {s' : Nat → Sm} {F' G' : Nat → Prop} {n' nn' : Nat} (o : One V w' D d' F') (KP : ∀ b, P ≤ b → b < P + 6 → w'.heap[b]? = w.heap[b]?) (KR : ∀ b, b < w.heap.size → ¬ G b → w'.heap[b]? = w.heap[b]?)
    (hF : ∀ b, F' b → b < w.heap.size → F b) (hG : ∀ b, G' b → b < w.heap.size → G b) (gF : ∀ b, F' b → G' b) (gG : ∀ b, G b → G' b) (glt : ∀ b, G' b → b < w'.heap.size) (st : ∀ j, j < n' → StL w' (SP j) D (s' j) F') (hn : n' ≤ n) (hnn : nn' ≤ nn) (h2 : nn' ≤ n') : Tp V w' P C D n' nn' lost d' s' L m F' G' SP sv v where
  o := o
  p := (KP P (Nat.le_refl _) (by omega)).trans h.p
  hs := (KP (P + 1) (by omega) (by omega)).trans h.hs
  ht := (KP (P + 2) (by omega) (by omega)).trans h.ht
  hm := (KP (P + 3) (by omega) (by omega)).trans h.hm
  hl := (KP (P + 4) (by omega) (by omega)).trans h.hl
  ha := (KP (P + 5) (by omega) (by omega)).trans h.ha
  st := fun j hj => by
    obtain ⟨_, q2, q3, q4⟩ := h.st j (by omega)
    exact ⟨st j hj, q2, gG _ q3, q4⟩
  sp := fun j hj => h.sp j (by omega)
  ne := fun i j hi hj => h.ne i j (by omega) (by omega)
  hn := h2
  r := fun k hk => rw_other (h.r k hk) (fun b hb e => KR b hb (h.frow hk e).2) fun b hb e c => (h.frow hk e).2 (hG b c hb)
  dis := h.dis
  gF := gF
  gP := fun b h1 h2 => ⟨gG b (h.gP b h1 h2).1, fun c => (h.gP b h1 h2).2 (hF b c (by have := h.lt; omega))⟩
  glt := glt
  hV := h.hV

theorem Tp.fewer (h : Tp V w P C D n nn lost d s L m F G SP sv v) (n' nn' : Nat) (h1 : n' ≤ n) (h2 : nn' ≤ nn) (h3 : nn' ≤ n') : Tp V w P C D n' nn' lost d s L m F G SP sv v :=
  h.base h.o (fun _ _ _ => rfl) (fun _ _ _ => rfl) (fun _ h _ => h) (fun _ h _ => h) h.gF (fun _ h => h) h.glt (fun j hj => (h.st j (by omega)).1) h1 h2 h3
theorem Tp.below (h : Tp V w P C D n nn lost d s L m F G SP sv v) {w' : World} (b : Below w.heap.size w w') : Tp V w' P C D n nn lost d s L m F G SP sv v :=
  h.base (h.o.below b) (fun c _ h2 => b.block c (by have := h.lt; omega)) (fun c hc _ => b.block c hc) (fun _ h _ => h) (fun _ h _ => h) h.gF (fun _ h => h) (fun c hc => Nat.lt_of_lt_of_le (h.glt c hc) b.size) (fun j hj => (h.st j hj).1.below b) (Nat.le_refl _) (Nat.le_refl _) h.hn
theorem gr_mono {F G : Nat → Prop} {a b : World} (h : ∀ i, F i → G i) : ∀ i, Gr F a b i → Gr G a b i := fun _ hi => hi.imp (h _) id
/-- A call of the disk. -/
theorem Tp.disk (h : Tp V w P C D n nn lost d s L m F G SP sv v) {w' : World} {d' : Dk} (o : One V w' D d' (Gr F w w')) (k : Kept F w w') : Tp V w' P C D n nn lost d' s L m (Gr F w w') (Gr G w w') SP sv v :=
  h.base o (fun b h1 h2 => k.block b (by have := h.lt; omega) (h.gP b h1 h2).2) (fun b hb hg => k.block b hb fun c => hg (h.gF b c)) (fun b hb hlt => hb.elim id fun c => absurd hlt (by omega)) (fun b hb hlt => hb.elim id fun c => absurd hlt (by omega)) (gr_mono h.gF) (fun _ h => .inl h)
    (fun b hb => hb.elim (fun c => Nat.lt_of_lt_of_le (h.glt b c) k.size) fun c => c.2) (fun j hj => (h.st j hj).1.kept k) (Nat.le_refl _) (Nat.le_refl _) h.hn
/-- A call of stream i. -/
theorem Tp.call (h : Tp V w P C D n nn lost d s L m F G SP sv v) {i : Nat} (hi : i < n) {w' : World} {d' : Dk} {s' : Sm} (ss : Ss V w' (SP i) D s' d' (Gr F w w')) (k : Kept (Fs F (SP i)) w w') : Tp V w' P C D n nn lost d' (upd s i s') L m (Gr F w w') (Gr G w w') SP sv v :=
  h.base ss.o (fun b h1 h2 => k.block b (by have := h.lt; omega) fun c => c.elim (h.gP b h1 h2).2 fun c => by have := (h.st i hi).2.2.2; omega) (fun b hb hg => k.block b hb fun c => hg (c.elim (h.gF b) fun c => by rw [c]; exact (h.st i hi).2.2.1))
    (fun b hb hlt => hb.elim id fun c => absurd hlt (by omega)) (fun b hb hlt => hb.elim id fun c => absurd hlt (by omega)) (gr_mono h.gF) (fun _ h => .inl h)
    (fun b hb => hb.elim (fun c => Nat.lt_of_lt_of_le (h.glt b c) k.size) fun c => c.2)
    (fun j hj => by
      by_cases c : j = i
      · subst c
        rw [upd_at]
        exact ss.st
      · rw [upd_off _ _ c]
        obtain ⟨q1, _, _, _⟩ := h.st j hj
        have hne : SP j ≠ SP i := fun e => c (h.ne j i hj hi e)
        exact ⟨(k.block _ q1.lt fun e => e.elim q1.nf hne).trans q1.at_, fun e => e.elim q1.nf fun e => by have := q1.lt; omega⟩) (Nat.le_refl _) (Nat.le_refl _) h.hn

/-- A store into one of the law's own blocks. -/
theorem Tp.own (h : Tp V w P C D n nn lost d s L m F G SP sv v) {b : Nat} (h1 : P ≤ b) (h2 : b < P + 6) (i : Nat) (x : Value) : One V (w.setCell ⟨b, i, none⟩ x) D d F ∧ (∀ j, j < n → StL (w.setCell ⟨b, i, none⟩ x) (SP j) D (s j) F) ∧ (∀ k, k < 3 → Rw V (w.setCell ⟨b, i, none⟩ x) G (v k) (L k)) ∧ (∀ c, c ≠ b → (w.setCell ⟨b, i, none⟩ x).heap[c]? = w.heap[c]?) := by
  have hK : ∀ c, c ≠ b → (w.setCell ⟨b, i, none⟩ x).heap[c]? = w.heap[c]? := fun c hc => Below.heap_setCell _ _ _ _ hc
  obtain ⟨Ly, l⟩ := h.o.at_
  refine ⟨⟨⟨Ly, DkL.side l (h.gP b h1 h2).2 _ _⟩, h.o.own, h.o.bel.setCell (by have := h.hV; show V.heap.size ≤ b; omega) _⟩, fun j hj => ?_, fun k hk => ?_, hK⟩
  · obtain ⟨q1, _, _, q4⟩ := h.st j hj
    exact ⟨(hK _ (by omega)).trans q1.at_, q1.nf⟩
  · exact rw_other (h.r k hk) (fun c _ hc => hK c fun e => (h.frow hk hc).2 (by rw [e]; exact (h.gP b h1 h2).1)) fun c _ hc => (h.frow hk hc).2
theorem size_set (w : World) (p : Addr) (x : Value) : (w.setCell p x).heap.size = w.heap.size := by simp [World.setCell]
theorem two_set (f : Nat → Value) {k : Nat} (hk : k < 2) (x : Value) : ([f 0, f 1].set k x).toArray = #[upd f k x 0, upd f k x 1] := by
  match k, hk with
  | 0, _ => rfl
  | 1, _ => rfl
theorem two_get (f : Nat → Value) {k : Nat} (hk : k < 2) : [f 0, f 1][k]? = some (f k) := by
  match k, hk with
  | 0, _ => rfl
  | 1, _ => rfl

/-- The number of losses. -/
theorem Tp.setL (h : Tp V w P C D n nn lost d s L m F G SP sv v) (l' : Nat) : Tp V (w.setCell ⟨P + 4, 0, none⟩ (.int .i64 (l' : Int))) P C D n nn l' d s L m F G SP sv v := by
  obtain ⟨o, st, r, K⟩ := h.own (b := P + 4) (by omega) (by omega) 0 (.int .i64 (l' : Int))
  exact { o := o, p := (K _ (by omega)).trans h.p, hs := (K _ (by omega)).trans h.hs, ht := (K _ (by omega)).trans h.ht, hm := (K _ (by omega)).trans h.hm, hl := blk_set (l := [_]) h.hl 0 _, ha := (K _ (by omega)).trans h.ha,
          st := fun j hj => ⟨st j hj, (h.st j hj).2⟩, sp := h.sp, ne := h.ne, hn := h.hn, r := r, dis := h.dis, gF := h.gF, gP := h.gP, glt := fun b hb => by rw [size_set]; exact h.glt b hb, hV := h.hV }
/-- A text that is under way. -/
theorem Tp.setM (h : Tp V w P C D n nn lost d s L m F G SP sv v) {k : Nat} (hk : k < 2) (x : ByteArray) : Tp V (w.setCell ⟨P + 3, k, none⟩ (.string x)) P C D n nn lost d s L (upd m k x) F G SP sv v := by
  obtain ⟨o, st, r, K⟩ := h.own (b := P + 3) (by omega) (by omega) k (.string x)
  have e := blk_set (l := [.string (m 0), .string (m 1)]) h.hm k (.string x)
  have e2 : ([Value.string (m 0), Value.string (m 1)].set k (.string x)).toArray = #[.string (upd m k x 0), .string (upd m k x 1)] := by
    match k, hk with
    | 0, _ => rfl
    | 1, _ => rfl
  rw [e2] at e
  exact { o := o, p := (K _ (by omega)).trans h.p, hs := (K _ (by omega)).trans h.hs, ht := (K _ (by omega)).trans h.ht, hm := e, hl := (K _ (by omega)).trans h.hl, ha := (K _ (by omega)).trans h.ha,
          st := fun j hj => ⟨st j hj, (h.st j hj).2⟩, sp := h.sp, ne := h.ne, hn := h.hn, r := r, dis := h.dis, gF := h.gF, gP := h.gP, glt := fun b hb => by rw [size_set]; exact h.glt b hb, hV := h.hV }
/-- A stream into the array. -/
theorem Tp.setS (h : Tp V w P C D n nn lost d s L m F G SP sv v) (hk : nn < 2) (hn : nn < n) : Tp V (w.setCell ⟨P + 1, nn, none⟩ (.pointer (some ⟨SP nn, 0, none⟩))) P C D n (nn + 1) lost d s L m F G SP (upd sv nn (.pointer (some ⟨SP nn, 0, none⟩))) v := by
  obtain ⟨o, st, r, K⟩ := h.own (b := P + 1) (by omega) (by omega) nn (.pointer (some ⟨SP nn, 0, none⟩))
  have e := blk_set (l := [sv 0, sv 1]) h.hs nn (.pointer (some ⟨SP nn, 0, none⟩))
  rw [two_set sv hk] at e
  exact { o := o, p := (K _ (by omega)).trans h.p, hs := e, ht := (K _ (by omega)).trans h.ht, hm := (K _ (by omega)).trans h.hm, hl := (K _ (by omega)).trans h.hl, ha := (K _ (by omega)).trans h.ha,
          st := fun j hj => ⟨st j hj, (h.st j hj).2⟩, sp := fun j hj => by
            by_cases c : j = nn
            · rw [c, upd_at]
            · rw [upd_off _ _ c]; exact h.sp j (by omega)
          ne := h.ne, hn := hn, r := r, dis := h.dis, gF := h.gF, gP := h.gP, glt := fun b hb => by rw [size_set]; exact h.glt b hb, hV := h.hV }

/-- One text more in a list: the row has grown, and stands in the array. -/
theorem Tp.grow (h : Tp V w P C D n nn lost d s L m F G SP sv v) {k : Nat} (hk : k < 2) {w2 : World} {x : ByteArray} {o : Obj} {g cap : Nat} (own2 : w2.ownsRow V.heap.size 9 1 (.slice (some ⟨g, 0, none⟩) ((L k).length + 1) cap) ((L k).length + 1) (rcv (L k) ++ [.string x])) (gr : (w.alloc o).grownBy w2 (v k).ownBlock) (hg : (v k).ownBlock = some g ∨ g = w.heap.size + 1) :
    (w2.cell? ⟨P + 2, k, none⟩ = some (v k) ∧ w2.frozen? ⟨P + 2, k, none⟩ = false) ∧ Tp V (w2.setCell ⟨P + 2, k, none⟩ (.slice (some ⟨g, 0, none⟩) ((L k).length + 1) cap)) P C D n nn lost d s (upd L k (L k ++ [x])) m F G SP sv (upd v k (.slice (some ⟨g, 0, none⟩) ((L k).length + 1) cap)) := by
  have hk3 : k < 3 := by omega
  obtain ⟨q1, q2, q3⟩ := (h.r k hk3).grown h.glt own2 gr hg
  have bA : Below w.heap.size w (w.alloc o) := (Below.refl _ _).alloc (Nat.le_refl _) o
  have zA : (w.alloc o).heap.size = w.heap.size + 1 := by simp
  have kp : ∀ b, P ≤ b → b < P + 6 → w2.heap[b]? = w.heap[b]? := fun b h1 h2 => q2 b (h.gP b h1 h2).1
  have o2 : One V w2 D d F := One.grown h.o ((h.r k hk3).mono h.gF) gr (fun b hb => q2 b (h.gF b hb)) q3
  have r2 : ∀ j, j < 3 → j ≠ k → Rw V w2 G (v j) (L j) := fun j hj hne => rw_other (h.r j hj) (fun b hb e => (gr.block b (by omega) fun c => h.dis j k b hj hk3 hne e c.symm).trans (bA.block b hb)) fun b hb e => (h.frow hj e).2
  have sx := (kp (P + 2) (by omega) (by omega)).trans h.ht
  refine ⟨⟨blk_cell (l := [v 0, v 1]) sx (two_get v hk), blk_free sx k⟩, ?_⟩
  have hK : ∀ c, c ≠ P + 2 → (w2.setCell ⟨P + 2, k, none⟩ (.slice (some ⟨g, 0, none⟩) ((L k).length + 1) cap)).heap[c]? = w2.heap[c]? := fun c hc => Below.heap_setCell _ _ _ _ hc
  obtain ⟨Ly, l⟩ := o2.at_
  have e := blk_set (l := [v 0, v 1]) sx k (.slice (some ⟨g, 0, none⟩) ((L k).length + 1) cap)
  rw [two_set v hk] at e
  have hgb : ∀ j, j < 3 → j ≠ k → ¬ (v j).ownBlock = some g := fun j hj hne c => by
    rcases hg with hg | hg
    · exact h.dis j k g hj hk3 hne c hg
    · have := (h.frow hj c).1
      omega
  refine { o := ⟨⟨Ly, DkL.side l (h.gP (P + 2) (by omega) (by omega)).2 _ _⟩, o2.own, o2.bel.setCell (by have := h.hV; show V.heap.size ≤ P + 2; omega) _⟩,
           p := ((hK _ (by omega)).trans (kp _ (by omega) (by omega))).trans h.p, hs := ((hK _ (by omega)).trans (kp _ (by omega) (by omega))).trans h.hs, ht := e, hm := ((hK _ (by omega)).trans (kp _ (by omega) (by omega))).trans h.hm, hl := ((hK _ (by omega)).trans (kp _ (by omega) (by omega))).trans h.hl, ha := ((hK _ (by omega)).trans (kp _ (by omega) (by omega))).trans h.ha,
           st := fun j hj => ?_, sp := h.sp, ne := h.ne, hn := h.hn, r := fun j hj => ?_, dis := fun i j b hi hj hne hb => ?_, gF := h.gF, gP := h.gP, glt := fun b hb => by rw [size_set]; exact Nat.lt_of_lt_of_le (h.glt b hb) q3, hV := h.hV }
  · obtain ⟨a1, a2, a3, a4⟩ := h.st j hj
    exact ⟨⟨((hK _ (by omega)).trans (q2 _ a3)).trans a1.at_, a1.nf⟩, a2, a3, a4⟩
  · by_cases c : j = k
    · subst c
      rw [upd_at, upd_at]
      exact rw_other q1 (fun b _ hb => hK b fun e => q1.ap b hb (by rw [e]; exact (h.gP (P + 2) (by omega) (by omega)).1)) fun b _ hb => q1.ap b hb
    · rw [upd_off _ _ c, upd_off _ _ c]
      exact rw_other (r2 j hj c) (fun b _ hb => hK b fun e => (h.frow hj hb).2 (by rw [e]; exact (h.gP (P + 2) (by omega) (by omega)).1)) fun b _ hb => (h.frow hj hb).2
  · by_cases ci : i = k
    · subst ci
      rw [upd_at] at hb
      have eb : g = b := by simpa [Value.ownBlock] using hb
      subst eb
      rw [upd_off _ _ (Ne.symm hne)]
      exact hgb j hj (Ne.symm hne)
    · rw [upd_off _ _ ci] at hb
      by_cases cj : j = k
      · subst cj
        rw [upd_at]
        intro hc
        have eb : g = b := by simpa [Value.ownBlock] using hc
        subst eb
        exact hgb i hi ci hb
      · rw [upd_off _ _ cj]
        exact h.dis i j b hi hj hne hb

/-- An Open of region n has gone well: its stream lies in memory, the list that it told is row 2. -/
theorem Tp.opened (h : Tp V w P C D n nn lost d s L m F G SP sv v) {w' : World} {S : Nat} {lv : Value} {F' : Nat → Prop} {d' : Dk} {s' : Sm} {X : List ByteArray} (ss : Ss V w' S D s' d' F') (k : Kept F w w') (hF : ∀ b, F' b → Gr F w w' b) (hS : w.heap.size ≤ S) (own : w'.ownsRow w.heap.size 9 1 lv X.length (rcv X)) (ap : ∀ b, lv.ownBlock = some b → ¬ F' b ∧ b ≠ S) :
    ∃ G', Tp V w' P C D (n + 1) nn lost d' (upd s n s') (upd L 2 X) m F' G' (upd SP n S) sv (upd v 2 lv) := by
  have hsz := h.size
  have hlt := h.lt
  have rl := row_of hsz own ap
  have hFo : ∀ b, F' b → b < w.heap.size → F b := fun b hb hlt => (hF b hb).elim id fun c => absurd hlt (by omega)
  have lvb : ∀ b, lv.ownBlock = some b → w.heap.size ≤ b := fun b hb => (own.lt b hb).1
  have B := h.base (d' := d') (s' := upd s n s') (F' := F') (G' := fun b => G b ∨ F' b ∨ b = S) (n' := n) (nn' := nn) ss.o (fun b h1 h2 => k.block b (by omega) (h.gP b h1 h2).2) (fun b hb hg => k.block b hb fun c => hg (h.gF b c)) hFo
    (fun b hb hlt => hb.elim id fun c => c.elim (fun c => h.gF b (hFo b c hlt)) fun c => absurd hS (by omega)) (fun b hb => .inr (.inl hb)) (fun b hb => .inl hb)
    (fun b hb => hb.elim (fun c => Nat.lt_of_lt_of_le (h.glt b c) k.size) fun c => c.elim (fun c => one_lt ss.o c) fun c => by rw [c]; exact ss.st.lt)
    (fun j hj => by
      rw [upd_off _ _ (by omega)]
      obtain ⟨q1, _, _, _⟩ := h.st j hj
      exact ⟨(k.block _ q1.lt q1.nf).trans q1.at_, fun e => q1.nf (hFo _ e q1.lt)⟩) (Nat.le_refl _) (Nat.le_refl _) h.hn
  refine ⟨fun b => G b ∨ F' b ∨ b = S, { o := B.o, p := B.p, hs := B.hs, ht := B.ht, hm := B.hm, hl := B.hl, ha := B.ha, st := fun j hj => ?_, sp := fun j hj => ?_, ne := fun i j hi hj he => ?_, hn := by have := h.hn; omega, r := fun j hj => ?_, dis := fun i j b hi hj hne hb => ?_, gF := B.gF, gP := B.gP, glt := B.glt, hV := B.hV }⟩
  · by_cases c : j = n
    · subst c
      rw [upd_at, upd_at]
      exact ⟨ss.st, ss.hS, .inr (.inr rfl), .inr (by omega)⟩
    · rw [upd_off _ _ c]
      exact B.st j (by omega)
  · rw [upd_off _ _ (by have := h.hn; omega)]
    exact B.sp j hj
  · have old : ∀ j, j < n → SP j < w.heap.size := fun j hj => (h.st j hj).1.lt
    by_cases ci : i = n
    · subst ci
      by_cases cj : j = i
      · exact cj.symm
      · rw [upd_at, upd_off _ _ cj] at he
        have := old j (by omega)
        omega
    · by_cases cj : j = n
      · subst cj
        rw [upd_at, upd_off _ _ ci] at he
        have := old i (by omega)
        omega
      · rw [upd_off _ _ ci, upd_off _ _ cj] at he
        exact h.ne i j (by omega) (by omega) he
  · by_cases c : j = 2
    · subst c
      rw [upd_at, upd_at]
      refine ⟨rl.own, fun b hb cg => ?_⟩
      have h1 := lvb b hb
      rcases cg with cg | cg | cg
      · have := h.glt b cg
        omega
      · exact (ap b hb).1 cg
      · exact (ap b hb).2 cg
    · rw [upd_off _ _ c, upd_off _ _ c]
      exact B.r j hj
  · have old : ∀ j, j < 3 → ∀ b, (v j).ownBlock = some b → b < w.heap.size := fun j hj b hb => (h.frow hj hb).1
    by_cases ci : i = 2
    · subst ci
      rw [upd_at] at hb
      rw [upd_off _ _ (Ne.symm hne)]
      intro hc
      have := old j hj b hc
      have := lvb b hb
      omega
    · rw [upd_off _ _ ci] at hb
      by_cases cj : j = 2
      · subst cj
        rw [upd_at]
        intro hc
        have := old i hi b hb
        have := lvb b hc
        omega
      · rw [upd_off _ _ cj]
        exact h.dis i j b hi hj hne hb
end

end Go.Proofs.Ytaojoecmbgmhoaa.Wtp
