/-
  A law's own stream: its calls, with the memory that the law found left as it was; what they come to, by what a region at rest becomes.
-/
import Derived.Test.YtaojoecmbgmhoaaSmJ
namespace Go.Proofs.Ytaojoecmbgmhoaa.Wst
open Go.ChangeShapes Go.WideShapes Go.ChangeAt Go.RowKit Go.Proofs.Ytaojoecmbgmhoaa.M Go.Proofs.Ytaojoecmbgmhoaa.Wd

/-- A stream and its disk, made since W. -/
structure Ss (W w : World) (S D : Nat) (s : Sm) (d : Dk) (F : Nat → Prop) : Prop where
  o : One W w D d F
  st : StL w S D s F
  hS : W.heap.size ≤ S
theorem Ss.call {W w w' : World} {S D : Nat} {s s' : Sm} {d Y : Dk} {F : Nat → Prop} {X : Int} {e : Ending} (h : Ss W w S D s d F) (c : CaP F S D s' X Y w e w') : Ss W w' S D s' Y (Gr F w w') := by
  obtain ⟨_, h2, h3, h4⟩ := c
  exact ⟨⟨h2, fun b hb => hb.elim (h.o.own b) fun hb => Nat.le_trans h.o.bel.size hb.1, h.o.bel.trans (h4.below h.o.bel.size fun i hi => hi.elim (h.o.own i) fun hi => by rw [hi]; exact h.hS)⟩, h3, h.hS⟩
theorem Ss.below {W w w' : World} {S D : Nat} {s : Sm} {d : Dk} {F : Nat → Prop} (h : Ss W w S D s d F) (b : Below w.heap.size w w') : Ss W w' S D s d F := ⟨h.o.below b, h.st.below b, h.hS⟩
theorem Ss.disk {W w w' : World} {S D : Nat} {s : Sm} {d d' : Dk} {F : Nat → Prop} (h : Ss W w S D s d F) (o : One W w' D d' (Gr F w w')) (k : Kept F w w') : Ss W w' S D s d' (Gr F w w') := ⟨o, h.st.kept k, h.hS⟩

theorem On.sw {d : Dk} {s : Sm} {n : Nat} (o : On d s n) : Sw d s ∧ 1 ≤ s.g := by
  obtain ⟨y, hr, G⟩ := o.r
  have hn := o.live.n
  have h3 := o.hn
  have hg := G.g1
  exact ⟨⟨o.live.hi, by omega, by rw [hn]; exact o.h, G.hf, ⟨by omega, hg.2⟩, G.cap⟩, hg.1⟩
theorem On.q {d : Dk} {s : Sm} {n : Nat} (o : On d s n) (hk : ∀ j, j < d.k → j ≠ s.i → (d.r j).q = []) {m : Nat} : ∀ j, j < d.k → (d.r j).q.length ≤ m := fun j hj => by
  by_cases c : j = s.i
  · obtain ⟨y, hr, _⟩ := o.r
    rw [c, hr]
    exact Nat.zero_le _
  · rw [hk j hj c]
    exact Nat.zero_le _
theorem rest_q {d : Dk} {i n : Nat} {L : List ByteArray} {g : Int} (o : M.Rest d i n L g) (hk : ∀ j, j < d.k → j ≠ i → (d.r j).q = []) {m : Nat} : ∀ j, j < d.k → (d.r j).q.length ≤ m := fun j hj => by
  by_cases c : j = i
  · obtain ⟨y, hr, _⟩ := o.r
    rw [c, hr]
    exact Nat.zero_le _
  · rw [hk j hj c]
    exact Nat.zero_le _

/-- An Open of a region at rest that goes well. -/
def OkO (W w : World) (D : Nat) (d : Dk) (F : Nat → Prop) (i n : Nat) (L : List ByteArray) (g : Int) (e : Ending) (w' : World) : Prop :=
  ∃ S v F' d' s', e = .returned (.tuple #[.pointer (some ⟨S, 0, none⟩), v, .int .i64 0]) ∧ Ss W w' S D s' d' F' ∧ On d' s' n ∧ s'.i = i ∧ s'.L = L ∧ s'.g ≤ g + 1 ∧ d'.k = d.k ∧ (∀ j, j ≠ i → d'.r j = d.r j) ∧ (d.ask = none → d'.ask = none) ∧ Kept F w w' ∧ (∀ b, F' b → Gr F w w' b) ∧ w.heap.size ≤ S ∧ w'.ownsRow w.heap.size 9 1 v L.length (rcv L) ∧ ∀ b, v.ownBlock = some b → ¬ F' b ∧ b ≠ S
/-- The power fails in it. -/
def NoO (W w : World) (D : Nat) (d : Dk) (F : Nat → Prop) (i n : Nat) (L : List ByteArray) (g : Int) (e : Ending) (w' : World) : Prop :=
  ∃ d', e = .returned (.tuple #[.pointer none, .slice none 0 0, .int .i64 11]) ∧ One W w' D d' (Gr F w w') ∧ Down d' i n L (g + 1) ∧ d'.k = d.k ∧ ¬ d.ask = none ∧ (∃ K, ∀ j, j ≠ i → d'.r j = (d.r j).set (kb K j)) ∧ Kept F w w'
theorem opened {W w w' : World} {D : Nat} {d : Dk} {F : Nat → Prop} {a : Int} {e : Ending} (o : One W w D d F) (h : OpY w D d F a e w') : ∃ S v F', e = .returned (.tuple #[.pointer (some ⟨S, 0, none⟩), v, .int .i64 0]) ∧ Ss W w' S D (opT d a) (opD d a) F' ∧ Kept F w w' ∧ (∀ b, F' b → Gr F w w' b) ∧ w.heap.size ≤ S ∧ w'.ownsRow w.heap.size 9 1 v (opL d a.toNat).length (rcv (opL d a.toNat)) ∧ ∀ b, v.ownBlock = some b → ¬ F' b ∧ b ≠ S := by
  obtain ⟨S, v, F', h1, h2, h3, h4, h5, h6, h7, h8⟩ := h
  refine ⟨S, v, F', h1, ⟨⟨h3, fun b hb => (h5 b hb).elim (o.own b) fun hb => Nat.le_trans o.bel.size hb.1, o.bel.trans (h6.below o.bel.size o.own)⟩, h4, Nat.le_trans o.bel.size h2⟩, h6, h5, h2, h7, h8⟩
theorem open_rest {W w : World} {D : Nat} {d : Dk} {F : Nat → Prop} (o : One W w D d F) {i n : Nat} {L : List ByteArray} {g : Int} (r : M.Rest d i n L g) (hg : g < 281474976710655) (hk : ∀ j, j < d.k → j ≠ i → (d.r j).q = []) :
    Calls Try.prog 9 #[.pointer (some ⟨D, 0, none⟩), .int .i64 (i : Int)] w fun e w' => OkO W w D d F i n L g e w' ∨ NoO W w D d F i n L g e w' := by
  obtain ⟨Ly, l⟩ := o.at_
  refine (open_ l (rest_q r hk) (i : Int)).mono fun e w' h => ?_
  obtain ⟨hL, h1 | h1⟩ := r.opens hg
  · obtain ⟨x, q1, q2, q3, q4, q5, q6, q7⟩ := h1
    left
    rcases h with ⟨_, h⟩ | ⟨h, _⟩
    · obtain ⟨S, v, F', e1, e2, e3, e4, e5, e6, e7⟩ := opened o h
      rw [Int.toNat_natCast, hL] at e6
      exact ⟨S, v, F', _, _, e1, e2, q1, q2, q3, q4, q6, q5, q7, e3, e4, e5, e6, e7⟩
    · exact absurd x h
  · obtain ⟨x, q1, q2, q3, q4⟩ := h1
    right
    rcases h with ⟨h, _⟩ | ⟨_, h⟩
    · rw [x] at h; cases h
    · obtain ⟨e1, e2, e3⟩ := h
      rw [x] at e1
      exact ⟨_, e1, o.step e2 e3, q2, q3, q1, q4, e3⟩

/-- What an Append of a stream on its region comes to. -/
def ApP (W w : World) (S D : Nat) (s : Sm) (d : Dk) (F : Nat → Prop) (n : Nat) (b : ByteArray) (e : Ending) (w' : World) : Prop :=
  Kept (Fs F S) w w' ∧
  ((¬ s.apE b = 0 ∧ e = .returned (.int .i64 (s.apE b)) ∧ Ss W w' S D s d (Gr F w w')) ∨
   (s.apE b = 0 ∧ e = .returned (.int .i64 0) ∧ ∃ d', Ss W w' S D { s with L := s.L ++ [b] } d' (Gr F w w') ∧ On d' { s with L := s.L ++ [b] } n ∧ (∀ j, j ≠ s.i → d'.r j = d.r j) ∧ d'.k = d.k ∧ (d.ask = none → d'.ask = none)) ∨
   (s.apE b = 0 ∧ e = .returned (.int .i64 11) ∧ ¬ d.ask = none ∧ ∃ d' s', Ss W w' S D s' d' (Gr F w w') ∧ (Down d' s.i n s.L s.g ∨ Down d' s.i n (s.L ++ [b]) s.g) ∧ d'.k = d.k ∧ ∃ K, ∀ j, j ≠ s.i → d'.r j = (d.r j).set (kb K j)))
theorem append_on {W w : World} {S D : Nat} {s : Sm} {d : Dk} {F : Nat → Prop} {n : Nat} (h : Ss W w S D s d F) (o : On d s n) (hk : ∀ j, j < d.k → j ≠ s.i → (d.r j).q = []) (b : ByteArray) (hb : b.size ≤ maxLen) :
    Calls Try.prog 12 #[.pointer (some ⟨S, 0, none⟩), .string b] w fun e w' => ApP W w S D s d F n b e w' := by
  obtain ⟨Ly, l⟩ := h.o.at_
  obtain ⟨sw, g1⟩ := On.sw o
  refine (append l h.st sw g1 (On.q o hk) b hb).mono fun e w' c => ?_
  have hS := h.call c
  refine ⟨c.2.2.2, ?_⟩
  have he := c.1
  rcases o.append b with ⟨q1, q2, q3, q4⟩ | ⟨q1, q2, q3, q4, q5, q6, q7⟩ | ⟨q1, q2, q3, q4, q5, q6⟩
  · rw [q3, q4] at hS
    exact .inl ⟨q1, by rw [he, q2], hS⟩
  · rw [q4] at hS q3
    exact .inr (.inl ⟨q1, by rw [he, q2], _, hS, q3, q5, q6, q7⟩)
  · exact .inr (.inr ⟨q1, by rw [he, q2], q3, _, _, hS, q4, q5, q6⟩)

/-- A row of a law's own is kept. -/
theorem own_kept {w w' : World} {base e size k S : Nat} {v : Value} {xs : List Value} {F : Nat → Prop} (h : w.ownsRow base e size v k xs) (ha : ∀ b, v.ownBlock = some b → ¬ F b ∧ b ≠ S) (hk : Kept (Fs F S) w w') : w'.ownsRow base e size v k xs ∧ ∀ b, v.ownBlock = some b → ¬ Gr F w w' b ∧ b ≠ S := by
  refine ⟨?_, fun b hb => ⟨fun c => c.elim (ha b hb).1 fun c => by have := (h.lt b hb).2; omega, (ha b hb).2⟩⟩
  obtain ⟨h1, h2 | ⟨g, cap, cur, q1, q2, q3, q4⟩⟩ := h
  · exact ⟨h1, .inl h2⟩
  · have := ha g (by rw [q1]; rfl)
    exact ⟨h1, .inr ⟨g, cap, cur, q1, q2, (hk.block g (blk_lt q3) fun c => c.elim this.1 this.2).trans q3, q4⟩⟩

/-- A disk of one region. -/
theorem newOne {W w : World} (bel : Below W.heap.size W w) (z : Int) :
    Calls Try.prog 5 #[.slice (some ⟨w.heap.size, 0, none⟩) 1 1] (w.alloc (.cells #[.int .i64 z] 3)) fun e w' => e = .returned (.pointer (some ⟨w.heap.size + 1, 0, none⟩)) ∧ (∃ F, One W w' (w.heap.size + 1) (newD (fun _ => z) 1) F) ∧ Below w.heap.size w w' := by
  have bA : Below w.heap.size w (w.alloc (.cells #[.int .i64 z] 3)) := (Below.refl _ _).alloc (Nat.le_refl _) _
  have C := One.new (bel.trans (bA.mono bel.size)) (some ⟨w.heap.size, 0, none⟩) 1 1 (fun _ => z) (by omega) (by omega) (fun j hj => ⟨w.heap.size, 0, rfl, by simp, by
    match j, hj with
    | 0, _ => exact blk_cell (l := [_]) (heap_alloc_last w _) rfl⟩)
  rw [show (w.alloc (.cells #[.int .i64 z] 3)).heap.size = w.heap.size + 1 by simp] at C
  exact C.mono fun e w' ⟨h1, h2, h3⟩ => ⟨h1, ⟨_, h2⟩, bA.trans (h3.mono (by simp))⟩
theorem rest_new {z : Int} (h3 : 3 ≤ z) (h4 : z ≤ 4096) : M.Rest (newD (fun _ => z) 1) 0 z.toNat [] 0 ∧ (newD (fun _ => z) 1).ask = none ∧ (newD (fun _ => z) 1).k = 1 := by
  have hz : szN z = z.toNat := by unfold szN; omega
  refine ⟨rest_no ⟨rfl, Nat.zero_lt_one, hz⟩ ⟨by omega, by omega⟩ ?_, rfl, rfl⟩
  show newR z = _
  unfold newR
  rw [hz]
theorem k1 {d : Dk} (h : d.k = 1) {i : Nat} (hi : i = 0) : ∀ j, j < d.k → j ≠ i → (d.r j).q = [] := fun j hj hne => by omega

/-- Crash. -/
theorem crash_none {W w : World} {D : Nat} {d : Dk} {F : Nat → Prop} (o : One W w D d F) (hq : ∀ j, j < d.k → (d.r j).q.length ≤ 1048576) :
    Calls Try.prog 14 #[.pointer (some ⟨D, 0, none⟩), .slice none 0 0] w fun e w' => e = .returned (.tuple #[]) ∧ One W w' D (d.crash []) (Gr F w w') ∧ Kept F w w' :=
  o.crash hq (K := []) (ao := none) (.inl rfl) (fun x hx => by cases hx) 0

end Go.Proofs.Ytaojoecmbgmhoaa.Wst
