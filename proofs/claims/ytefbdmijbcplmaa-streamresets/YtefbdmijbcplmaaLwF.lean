/-
  The walk of the law StreamResets: wherever the power fails in a Reset, the records ahead of it are there, or those that it lays, whole; the law returns true, and nothing that was in memory has turned. Conditions: none but that the arguments lie in memory as such do.
-/
import Derived.Test.YtefbdmijbcplmaaLwE
namespace Go.Proofs.Ytefbdmijbcplmaa.Wst
open Go.ChangeShapes Go.WideShapes Go.ChangeAt Go.RowKit Go.Proofs.Ytefbdmijbcplmaa.M Go.Proofs.Ytefbdmijbcplmaa.Wd

/-- What the law's rows lie apart from. -/
def Zg (F : Nat → Prop) (S X Y B : Nat) : Nat → Prop := fun b => Fs F S b ∨ b = X ∨ b = Y ∨ b = B
/-- The law's memory: the disk, the stream, the array of two lists and their rows, and two blocks that stay. -/
structure Zz (W w : World) (S D : Nat) (s : Sm) (d : Dk) (F : Nat → Prop) (X Y B : Nat) (oY oB : Obj) (v0 v1 : Value) (L0 L1 : List ByteArray) : Prop where
  ss : Ss W w S D s d F
  x : w.heap[X]? = some (.cells #[v0, v1] 38 (0, 0))
  y : w.heap[Y]? = some oY
  b : w.heap[B]? = some oB
  r0 : Rw W w (Zg F S X Y B) v0 L0
  r1 : Rw W w (Zg F S X Y B) v1 L1
  dis : ∀ b, v0.ownBlock = some b → ¬ v1.ownBlock = some b
  nX : ¬ Fs F S X
  nY : ¬ Fs F S Y
  nB : ¬ Fs F S B
  neY : Y ≠ X
  neB : B ≠ X
  hW : W.heap.size ≤ X
theorem Zz.glt {W w : World} {S D : Nat} {s : Sm} {d : Dk} {F : Nat → Prop} {X Y B : Nat} {oY oB : Obj} {v0 v1 : Value} {L0 L1 : List ByteArray} (h : Zz W w S D s d F X Y B oY oB v0 v1 L0 L1) : ∀ b, Zg F S X Y B b → b < w.heap.size := fun b hb => by
  rcases hb with hb | rfl | rfl | rfl
  · exact h.ss.flt b hb
  · exact blk_lt h.x
  · exact blk_lt h.y
  · exact blk_lt h.b
theorem Ss.setX {W w : World} {S D X i : Nat} {s : Sm} {d : Dk} {F : Nat → Prop} {v : Value} (h : Ss W w S D s d F) (hX : ¬ Fs F S X) (hW : W.heap.size ≤ X) : Ss W (w.setCell ⟨X, i, none⟩ v) S D s d F := by
  obtain ⟨Ly, l⟩ := h.o.at_
  refine ⟨⟨⟨Ly, DkL.side l (fun c => hX (.inl c)) _ _⟩, h.o.own, h.o.bel.setCell hW _⟩, ⟨?_, h.st.nf⟩, h.hS⟩
  rw [Below.heap_setCell _ _ _ _ (show S ≠ X from fun e => hX (.inr e.symm))]
  exact h.st.at_
/-- A row, where its own block hasn't turned. -/
theorem Rw.other {W w w' : World} {G G' : Nat → Prop} {v : Value} {L : List ByteArray} (h : Rw W w G v L) (hk : ∀ b, b < w.heap.size → v.ownBlock = some b → w'.heap[b]? = w.heap[b]?) (hG : ∀ b, b < w.heap.size → v.ownBlock = some b → ¬ G' b) : Rw W w' G' v L := by
  refine ⟨?_, fun b hb => hG b (h.own.lt b hb).2 hb⟩
  obtain ⟨h1, h2 | ⟨g, cap, cur, q1, q2, q3, q4⟩⟩ := h.own
  · exact ⟨h1, .inl h2⟩
  · exact ⟨h1, .inr ⟨g, cap, cur, q1, q2, (hk g (blk_lt q3) (by rw [q1]; rfl)).trans q3, q4⟩⟩
theorem Rw.setX {W w : World} {G : Nat → Prop} {v u : Value} {L : List ByteArray} {X i : Nat} (h : Rw W w G v L) (hX : G X) : Rw W (w.setCell ⟨X, i, none⟩ u) G v L :=
  h.other (fun b _ hb => Below.heap_setCell _ _ _ _ fun e => h.ap b hb (by rw [e]; exact hX)) fun b _ hb => h.ap b hb
theorem Zz.below {W w w' : World} {S D : Nat} {s : Sm} {d : Dk} {F : Nat → Prop} {X Y B : Nat} {oY oB : Obj} {v0 v1 : Value} {L0 L1 : List ByteArray} (h : Zz W w S D s d F X Y B oY oB v0 v1 L0 L1) (b : Below w.heap.size w w') : Zz W w' S D s d F X Y B oY oB v0 v1 L0 L1 :=
  ⟨h.ss.below b, (b.block _ (blk_lt h.x)).trans h.x, (b.block _ (blk_lt h.y)).trans h.y, (b.block _ (blk_lt h.b)).trans h.b, h.r0.below b, h.r1.below b, h.dis, h.nX, h.nY, h.nB, h.neY, h.neB, h.hW⟩
theorem fs_no {F : Nat → Prop} {S X : Nat} {w w' : World} (h : ¬ Fs F S X) (hX : X < w.heap.size) : ¬ Fs (Gr F w w') S X := fun c => by
  rcases c with (c | c) | c
  · exact h (.inl c)
  · omega
  · exact h (.inr c)
theorem zg_no {F : Nat → Prop} {S X Y B b : Nat} {w w' : World} (h : ¬ Zg F S X Y B b) (hb : b < w.heap.size) : ¬ Zg (Gr F w w') S X Y B b := fun c => by
  rcases c with c | c
  · exact fs_no (fun e => h (.inl e)) hb c
  · exact h (.inr c)
/-- A call of the stream. -/
theorem Zz.call {W w w' : World} {S D : Nat} {s s' : Sm} {d d' : Dk} {F : Nat → Prop} {X Y B : Nat} {oY oB : Obj} {v0 v1 : Value} {L0 L1 : List ByteArray} (h : Zz W w S D s d F X Y B oY oB v0 v1 L0 L1) (ss : Ss W w' S D s' d' (Gr F w w')) (k : Kept (Fs F S) w w') : Zz W w' S D s' d' (Gr F w w') X Y B oY oB v0 v1 L0 L1 where
  ss := ss
  x := (k.block _ (blk_lt h.x) h.nX).trans h.x
  y := (k.block _ (blk_lt h.y) h.nY).trans h.y
  b := (k.block _ (blk_lt h.b) h.nB).trans h.b
  r0 := h.r0.other (fun b hb e => k.block b hb fun c => h.r0.ap b e (.inl c)) fun b hb e => zg_no (h.r0.ap b e) hb
  r1 := h.r1.other (fun b hb e => k.block b hb fun c => h.r1.ap b e (.inl c)) fun b hb e => zg_no (h.r1.ap b e) hb
  dis := h.dis
  nX := fs_no h.nX (blk_lt h.x)
  nY := fs_no h.nY (blk_lt h.y)
  nB := fs_no h.nB (blk_lt h.b)
  neY := h.neY
  neB := h.neB
  hW := h.hW
theorem Zz.disk {W w w' : World} {S D : Nat} {s : Sm} {d d' : Dk} {F : Nat → Prop} {X Y B : Nat} {oY oB : Obj} {v0 v1 : Value} {L0 L1 : List ByteArray} (h : Zz W w S D s d F X Y B oY oB v0 v1 L0 L1) (o : One W w' D d' (Gr F w w')) (k : Kept F w w') : Zz W w' S D s d' (Gr F w w') X Y B oY oB v0 v1 L0 L1 :=
  h.call (h.ss.disk o k) (k.mono fun _ _ c => .inl c)

/-- One text more in the first list; in the second. -/
theorem Zz.grow0 {W w w2 : World} {S D : Nat} {s : Sm} {d : Dk} {F : Nat → Prop} {X Y B : Nat} {oY oB o : Obj} {v0 v1 : Value} {L0 L1 : List ByteArray} {x : ByteArray} {g cap : Nat} (h : Zz W w S D s d F X Y B oY oB v0 v1 L0 L1) (own2 : w2.ownsRow W.heap.size 9 1 (.slice (some ⟨g, 0, none⟩) (L0.length + 1) cap) (L0.length + 1) (rcv L0 ++ [.string x])) (gr : (w.alloc o).grownBy w2 v0.ownBlock) (hg : v0.ownBlock = some g ∨ g = w.heap.size + 1) :
    (w2.cell? ⟨X, 0, none⟩ = some v0 ∧ w2.frozen? ⟨X, 0, none⟩ = false) ∧ Zz W (w2.setCell ⟨X, 0, none⟩ (.slice (some ⟨g, 0, none⟩) (L0.length + 1) cap)) S D s d F X Y B oY oB (.slice (some ⟨g, 0, none⟩) (L0.length + 1) cap) v1 (L0 ++ [x]) L1 := by
  obtain ⟨q1, q2, q3⟩ := h.r0.grown h.glt own2 gr hg
  have sx := (q2 X (.inr (.inl rfl))).trans h.x
  have zA : (w.alloc o).heap.size = w.heap.size + 1 := by simp
  have bA : Below w.heap.size w (w.alloc o) := (Below.refl _ _).alloc (Nat.le_refl _) o
  have rr : Rw W w2 (Zg F S X Y B) v1 L1 := h.r1.other (fun b hb e => (gr.block b (by omega) fun c => h.dis b c.symm e).trans (bA.block b hb)) fun b _ e => h.r1.ap b e
  refine ⟨⟨blk_cell (l := [v0, v1]) sx rfl, blk_free sx 0⟩, ⟨(h.ss.grown (h.r0.mono fun _ c => .inl c) gr (fun b hb => q2 b (.inl hb)) q3).setX h.nX h.hW, ?_, ?_, ?_, q1.setX (.inr (.inl rfl)), rr.setX (.inr (.inl rfl)), fun b hb c => ?_, h.nX, h.nY, h.nB, h.neY, h.neB, h.hW⟩⟩
  · exact blk_set (l := [v0, v1]) sx 0 _
  · rw [Below.heap_setCell _ _ _ _ h.neY]
    exact (q2 Y (.inr (.inr (.inl rfl)))).trans h.y
  · rw [Below.heap_setCell _ _ _ _ h.neB]
    exact (q2 B (.inr (.inr (.inr rfl)))).trans h.b
  · have e : g = b := by simpa [Value.ownBlock] using hb
    subst e
    rcases hg with hg | hg
    · exact h.dis g hg c
    · have := (h.r1.own.lt g c).2
      omega
theorem Zz.grow1 {W w w2 : World} {S D : Nat} {s : Sm} {d : Dk} {F : Nat → Prop} {X Y B : Nat} {oY oB o : Obj} {v0 v1 : Value} {L0 L1 : List ByteArray} {x : ByteArray} {g cap : Nat} (h : Zz W w S D s d F X Y B oY oB v0 v1 L0 L1) (own2 : w2.ownsRow W.heap.size 9 1 (.slice (some ⟨g, 0, none⟩) (L1.length + 1) cap) (L1.length + 1) (rcv L1 ++ [.string x])) (gr : (w.alloc o).grownBy w2 v1.ownBlock) (hg : v1.ownBlock = some g ∨ g = w.heap.size + 1) :
    (w2.cell? ⟨X, 1, none⟩ = some v1 ∧ w2.frozen? ⟨X, 1, none⟩ = false) ∧ Zz W (w2.setCell ⟨X, 1, none⟩ (.slice (some ⟨g, 0, none⟩) (L1.length + 1) cap)) S D s d F X Y B oY oB v0 (.slice (some ⟨g, 0, none⟩) (L1.length + 1) cap) L0 (L1 ++ [x]) := by
  obtain ⟨q1, q2, q3⟩ := h.r1.grown h.glt own2 gr hg
  have sx := (q2 X (.inr (.inl rfl))).trans h.x
  have zA : (w.alloc o).heap.size = w.heap.size + 1 := by simp
  have bA : Below w.heap.size w (w.alloc o) := (Below.refl _ _).alloc (Nat.le_refl _) o
  have rr : Rw W w2 (Zg F S X Y B) v0 L0 := h.r0.other (fun b hb e => (gr.block b (by omega) fun c => h.dis b e c.symm).trans (bA.block b hb)) fun b _ e => h.r0.ap b e
  refine ⟨⟨blk_cell (l := [v0, v1]) sx rfl, blk_free sx 1⟩, ⟨(h.ss.grown (h.r1.mono fun _ c => .inl c) gr (fun b hb => q2 b (.inl hb)) q3).setX h.nX h.hW, ?_, ?_, ?_, rr.setX (.inr (.inl rfl)), q1.setX (.inr (.inl rfl)), fun b hb c => ?_, h.nX, h.nY, h.nB, h.neY, h.neB, h.hW⟩⟩
  · exact blk_set (l := [v0, v1]) sx 1 _
  · rw [Below.heap_setCell _ _ _ _ h.neY]
    exact (q2 Y (.inr (.inr (.inl rfl)))).trans h.y
  · rw [Below.heap_setCell _ _ _ _ h.neB]
    exact (q2 B (.inr (.inr (.inr rfl)))).trans h.b
  · have e : g = b := by simpa [Value.ownBlock] using c
    subst e
    rcases hg with hg | hg
    · exact h.dis g hb hg
    · have := (h.r0.own.lt g hb).2
      omega

/-- Bodies of at most 100 bytes. -/
def G100 (L : List ByteArray) : Prop := ∀ b ∈ L, 1 ≤ b.size ∧ b.size ≤ 100
theorem G100.snoc {L : List ByteArray} (h : G100 L) {b : ByteArray} (h1 : ¬ b.size = 0) (h2 : b.size ≤ 100) : G100 (L ++ [b]) := fun c hc => by
  rcases List.mem_append.1 hc with hc | hc
  · exact h c hc
  · rw [List.mem_singleton.1 hc]
    omega
theorem frs_small : ∀ (L : List ByteArray), G100 L → (frs L).size ≤ 106 * L.length
  | [], _ => Nat.zero_le _
  | b :: L, h => by
    have ih := frs_small L fun c hc => h c (List.mem_cons_of_mem _ hc)
    have hb := h b (List.mem_cons_self ..)
    show (fr b ++ frs L).size ≤ 106 * (L.length + 1)
    rw [size_app, fr_size]
    omega

/-- What a Reset of the law's stream comes to. -/
def ZrP (W : World) (S D : Nat) (s : Sm) (d : Dk) (X Y B : Nat) (oY oB : Obj) (v0 v1 : Value) (L0 L1 l : List ByteArray) (e : Ending) (w' : World) : Prop :=
  (e = .returned (.int .i64 0) ∧ Hid (∃ F' d' s', Zz W w' S D s' d' F' X Y B oY oB v0 v1 L0 L1 ∧ On d' s' 63 ∧ s'.i = 0 ∧ s'.L = l ∧ s'.g = s.g + 1 ∧ d'.k = 1 ∧ (d.ask = none → d'.ask = none))) ∨
  (e = .returned (.int .i64 11) ∧ Hid (¬ d.ask = none ∧ ∃ F' d' s', Zz W w' S D s' d' F' X Y B oY oB v0 v1 L0 L1 ∧ d'.k = 1 ∧ (Down d' 0 63 s.L (s.g + 1) ∨ Down d' 0 63 l (s.g + 1))))
theorem zreset {W w : World} {S D : Nat} {s : Sm} {d : Dk} {F : Nat → Prop} {X Y B : Nat} {oY oB : Obj} {v0 v1 : Value} {L0 L1 : List ByteArray} (h : Zz W w S D s d F X Y B oY oB v0 v1 L0 L1) (o : On d s 63) (hi : s.i = 0) (hk : d.k = 1) (hg : s.g < 281474976710655) (l : List ByteArray) (p : Option Addr) (cap : Nat) (li : War.Lies w p l.length (nth l)) (hl : l.length ≤ 10) (h100 : G100 l) :
    Calls Try.prog 12 #[.pointer (some ⟨S, 0, none⟩), .slice p l.length cap] w fun e w' => ZrP W S D s d X Y B oY oB v0 v1 L0 L1 l e w' := by
  obtain ⟨Ly, lay⟩ := h.ss.o.at_
  obtain ⟨sw, g1⟩ := On.sw o
  refine (reset lay h.ss.st sw (On.q o (k1 hk hi)) l p cap (fun b hb => by have := (h100 b hb).2; unfold maxLen; omega) (by omega) li).mono fun e w' c => ?_
  have hS := h.ss.call c
  have hz := h.call hS c.2.2.2
  have he := c.1
  have hE : s.rE l = 0 := by
    unfold Sm.rE
    have h31 : s.h = 31 := o.h
    have := frs_small l h100
    rw [o.br, if_neg (by decide), if_pos (fE_ok.2 fun b hb => ⟨(h100 b hb).1, by have := (h100 b hb).2; omega⟩), if_neg]
    omega
  rcases o.reset l with ⟨q, _⟩ | ⟨_, q2, q3, q4, q5, q6, q7⟩ | ⟨_, q2, q3, q4, q5, _⟩
  · exact absurd hE q
  · rw [q4] at hz q3
    exact .inl ⟨by rw [he, q2], _, _, _, hz, q3, hi, rfl, rfl, q6.trans hk, q7⟩
  · rw [hi] at q4
    exact .inr ⟨by rw [he, q2], q3, _, _, _, hz, q5.trans hk, q4⟩

/-- A Cut; a Crash. -/
theorem zcut {W w : World} {S D : Nat} {s : Sm} {d : Dk} {F : Nat → Prop} {X Y B : Nat} {oY oB : Obj} {v0 v1 : Value} {L0 L1 : List ByteArray} (h : Zz W w S D s d F X Y B oY oB v0 v1 L0 L1) (n kp : Int) (hn : n < 9223372036854775808) (hk : 0 ≤ kp ∧ kp < 18446744073709551616) :
    Calls Try.prog 7 #[.pointer (some ⟨D, 0, none⟩), .int .i64 0, .int .i64 n, .slice (some ⟨w.heap.size, 0, none⟩) 1 1] (w.alloc (.cells #[.int .u64 kp] 28)) fun e w' => e = .returned (.tuple #[]) ∧ ∃ F', Zz W w' S D s (d.cut 0 n [kp]) F' X Y B oY oB v0 v1 L0 L1 := by
  have bA : Below w.heap.size w (w.alloc (.cells #[.int .u64 kp] 28)) := (Below.refl _ _).alloc (Nat.le_refl _) _
  exact (one_cut1 h.ss.o n kp hn hk).mono fun e w' ⟨h1, h2, h3⟩ => ⟨h1, _, (h.below bA).disk h2 h3⟩
theorem zcrash {W w : World} {S D : Nat} {s : Sm} {d : Dk} {F : Nat → Prop} {X Y B : Nat} {oY oB : Obj} {v0 v1 : Value} {L0 L1 : List ByteArray} (h : Zz W w S D s d F X Y B oY oB v0 v1 L0 L1) (hq : ∀ j, j < d.k → (d.r j).q.length ≤ 1048576) (kp : Int) (hk : 0 ≤ kp ∧ kp < 18446744073709551616) :
    Calls Try.prog 14 #[.pointer (some ⟨D, 0, none⟩), .slice (some ⟨w.heap.size, 0, none⟩) 1 1] (w.alloc (.cells #[.int .u64 kp] 28)) fun e w' => e = .returned (.tuple #[]) ∧ ∃ F', Zz W w' S D s (d.crash [kp]) F' X Y B oY oB v0 v1 L0 L1 := by
  have bA : Below w.heap.size w (w.alloc (.cells #[.int .u64 kp] 28)) := (Below.refl _ _).alloc (Nat.le_refl _) _
  have C := (h.below bA).ss.o.crash hq (K := [kp]) (ao := some ⟨w.heap.size, 0, none⟩) (.inr ⟨w.heap.size, 0, _, _, _, rfl, heap_alloc_last w _, .inr rfl, fun j hj => by
    match j, hj with
    | 0, _ => rfl⟩) (fun x hx => by rw [List.mem_singleton.1 hx]; exact hk) 1
  exact C.mono fun e w' ⟨h1, h2, h3⟩ => ⟨h1, _, (h.below bA).disk h2 h3⟩

/-! The walk -/
set_option maxRecDepth 100000 in
set_option maxHeartbeats 1000000 in
theorem lawResets (p1 : Option Addr) (n1 c1 : Nat) (y1 : Nat → ByteArray) (p2 : Option Addr) (n2 c2 : Nat) (y2 : Nat → ByteArray) (zn zk : Int) (w : World) (hy1 : ∀ i, (y1 i).size ≤ maxLen) (hc1 : n1 ≤ c1) (_ : c1 ≤ maxLen) (hL1 : War.Lies w p1 n1 y1) (hy2 : ∀ i, (y2 i).size ≤ maxLen) (hc2 : n2 ≤ c2) (_ : c2 ≤ maxLen) (hL2 : War.Lies w p2 n2 y2) (hlo : Wls.Lo.ok ⟨zn, zk⟩) :
    Calls Try.prog 4 #[.slice p1 n1 c1, .slice p2 n2 c2, .agg #[.int .i64 zn, .int .u64 zk]] w fun e w' => e = .returned (.bool true) ∧ Below w.heap.size w w' := by
  obtain ⟨i0, hi0, hz0, hz1, hz2⟩ := info_parts infoS
  have k1' : min (n1 : Int) 10 = ((min n1 10 : Nat) : Int) := by omega
  have k2' : min (n2 : Int) 10 = ((min n2 10 : Nat) : Int) := by omega
  obtain ⟨m1, hm1⟩ : ∃ k, k = min n1 10 := ⟨_, rfl⟩
  obtain ⟨m2, hm2⟩ : ∃ k, k = min n2 10 := ⟨_, rfl⟩
  have hm1a : m1 ≤ 10 := by omega
  have hm1b : m1 ≤ n1 := by omega
  have hm2a : m2 ≤ 10 := by omega
  have hm2b : m2 ≤ n2 := by omega
  rw [← hm1] at k1'
  rw [← hm2] at k2'
  clear hm1 hm2
  obtain ⟨V, hV⟩ : ∃ V, V = w.alloc (.cells #[.int .i64 zn, .int .u64 zk] 30) := ⟨_, rfl⟩
  have bV : Below w.heap.size w V := by rw [hV]; exact (Below.refl _ _).alloc (Nat.le_refl _) _
  have zV : V.heap.size = w.heap.size + 1 := by rw [hV]; simp
  have hB : V.heap[w.heap.size]? = some (.cells #[.int .i64 zn, .int .u64 zk] 30 (0, 0)) := by rw [hV]; exact heap_alloc_last w _
  have HV := hid hV
  have BV := hid bV
  have LK : Hid (∀ W, Below V.heap.size V W → W.cell? ⟨w.heap.size, 0, none⟩ = some (.int .i64 zn) ∧ W.cell? ⟨w.heap.size, 1, none⟩ = some (.int .u64 zk)) := fun W hW => by
    have := (hW.block w.heap.size (blk_lt hB)).trans hB
    exact ⟨blk_cell (l := [.int .i64 zn, .int .u64 zk]) this rfl, blk_cell (l := [.int .i64 zn, .int .u64 zk]) this rfl⟩
  have HL1 := hid (hL1.below bV)
  have HL2 := hid (hL2.below bV)
  have HY1 := hid hy1
  have HY2 := hid hy2
  have HLO := hid hlo
  have C0 := hid (newOne (Below.refl V.heap.size V) 63)
  rw [zV] at C0
  obtain ⟨R0, A0, K0⟩ := rest_new (z := 63) (by omega) (by omega)
  have OPN : Hid (∀ (W : World) D F, One V W D (newD (fun _ => 63) 1) F → Calls Try.prog 8 #[.pointer (some ⟨D, 0, none⟩), .int .i64 0] W fun e w' => ∃ S v F' d' s', e = .returned (.tuple #[.pointer (some ⟨S, 0, none⟩), v, .int .i64 0]) ∧ Hid (Ss V w' S D s' d' F' ∧ On d' s' 63 ∧ s'.i = 0 ∧ s'.g ≤ 1 ∧ d'.k = 1 ∧ d'.ask = none)) := fun W D F o => (open_calm o R0 (by omega) (k1 K0 rfl) A0).mono fun e w' ⟨S, v, F', d', s', q1, q2, q3, q4, q5, q6, q7, q8, q9, _, _, _, own, _⟩ => ⟨S, v, F', d', s', q1, q2, q3, q4, by omega, q7.trans K0, q9 A0⟩
  clear hL1 hL2 hy1 hy2 hlo R0 A0 K0 hV bV hB zV
  go_enter Try.func4, Try.ntmps4
  go_wp2_with fail
  rw [← HV.out]
  refine C0.out.mono ?_
  rintro e v1 ⟨rfl, ⟨F, o⟩, _⟩
  have O1 := hid (OPN.out v1 _ F o)
  obtain ⟨D, hD⟩ : ∃ D, D = w.heap.size + 1 + 1 := ⟨_, rfl⟩
  rw [← hD] at O1
  rw [← hD]
  clear o OPN C0 hD
  go_wp2_with fail
  refine O1.out.mono ?_
  rintro e v2 ⟨S, v, F, d, s, rfl, h2⟩
  clear O1
  go_wp2_with fail
  refine (wakes _).mono ?_
  rintro e v3 ⟨rfl, b3⟩
  obtain ⟨a1, a2, a3, a4, a5, a6⟩ := h2.out
  have HS := hid (And.intro (a1.below b3) (And.intro a2 (And.intro a3 (And.intro a4 (And.intro a5 a6)))))
  clear a1 a2 a3 a4 a5 a6 b3 h2
  obtain ⟨X, hX⟩ : ∃ X, X = v3.heap.size := ⟨_, rfl⟩
  obtain ⟨oY, hoY⟩ : ∃ oY, oY = Obj.cells #[.slice p1 n1 c1, .slice p2 n2 c2] 22 (0, 0) := ⟨_, rfl⟩
  have START : Hid (Zz V ((v3.alloc (.cells #[.slice none 0 0, .slice none 0 0] 38)).alloc (.cells #[.slice p1 n1 c1, .slice p2 n2 c2] 22)) S D s d F X (X + 1) (X + 1) oY oY (.slice none 0 0) (.slice none 0 0) [] []) := by
    have z1 : (v3.alloc (.cells #[.slice none 0 0, .slice none 0 0] 38)).heap.size = v3.heap.size + 1 := by simp
    have b1 := (Below.refl v3.heap.size v3).alloc (Nat.le_refl _) (.cells #[.slice none 0 0, .slice none 0 0] 38)
    have b2 := (Below.refl (v3.alloc (.cells #[.slice none 0 0, .slice none 0 0] 38)).heap.size (v3.alloc (.cells #[.slice none 0 0, .slice none 0 0] 38))).alloc (Nat.le_refl _) (.cells #[.slice p1 n1 c1, .slice p2 n2 c2] 22)
    have eY := heap_alloc_last (v3.alloc (.cells #[.slice none 0 0, .slice none 0 0] 38)) (.cells #[.slice p1 n1 c1, .slice p2 n2 c2] 22)
    rw [z1] at eY
    have flt := HS.out.1.flt
    have nf : ∀ b, v3.heap.size ≤ b → ¬ Fs F S b := fun b hb c => by have := flt b c; omega
    rw [hX, hoY]
    exact ⟨(HS.out.1.below b1).below b2, (b2.block _ (by rw [z1]; omega)).trans (heap_alloc_last v3 _), eY, eY, Rw.nil _ _ _, Rw.nil _ _ _, fun b hb => (by cases hb), nf _ (Nat.le_refl _), nf _ (by omega), nf _ (by omega), by omega, by omega, HS.out.1.o.bel.size⟩
  have HX := hid hX
  have HOY := hid hoY
  clear hX hoY
  go_wp2
  rw [← HX.out]
  go_loopw [38] (fun iv wr => ∃ i : Nat, i ≤ 2 ∧ iv = .int .i64 (i : Int) ∧ ∃ u0 u1 L0 L1, Zz V wr S D s d F X (X + 1) (X + 1) oY oY u0 u1 L0 L1 ∧ L0.length ≤ 10 ∧ L1.length ≤ 10 ∧ G100 L0 ∧ G100 L1 ∧ (i = 0 → L0 = []) ∧ (i ≤ 1 → L1 = [])) (fun iv _ => 2 - (intOf iv).toNat)
  case atStart => exact ⟨0, Nat.zero_le _, rfl, _, _, _, _, START.out, Nat.zero_le _, Nat.zero_le _, fun b hb => (by cases hb), fun b hb => (by cases hb), fun _ => rfl, fun _ => rfl⟩
  case round =>
    clear START
    obtain ⟨i, hi, rfl, u0, u1, L0, L1, hz, hl0, hl1, hg0, hg1, hi0', hi1'⟩ := hrel
    rename World => wo
    have hyy := hz.y
    rw [HOY.out] at hyy
    have y0 := blk_cell (l := [.slice p1 n1 c1, .slice p2 n2 c2]) hyy (i := 0) rfl
    have y1' := blk_cell (l := [.slice p1 n1 c1, .slice p2 n2 c2]) hyy (i := 1) rfl
    clear hyy
    rcases (by omega : i = 0 ∨ i = 1 ∨ i = 2) with rfl | rfl | rfl
    · have e0 := hi0' (by omega)
      subst e0
      have ST := hid (show ∃ u0 L0, Zz V wo S D s d F X (X + 1) (X + 1) oY oY u0 u1 L0 L1 ∧ L0.length ≤ 0 ∧ G100 L0 from ⟨_, _, hz, Nat.le_refl _, hg0⟩)
      have HG1 := hid (And.intro hl1 hg1)
      clear hz hl0 hg0 hl1 hg1
      have E1 := hid (hi1' (by omega))
      clear hi0' hi1'
      rw [show ((0 : Nat) : Int) = 0 from rfl]
      go_wp2
      go_loopw [49] (fun jv wr => ∃ j : Nat, j ≤ m1 ∧ jv = .int .i64 (j : Int) ∧ ∃ u0 L0, Zz V wr S D s d F X (X + 1) (X + 1) oY oY u0 u1 L0 L1 ∧ L0.length ≤ j ∧ G100 L0) (fun jv _ => m1 - (intOf jv).toNat)
      case atStart => exact ⟨0, Nat.zero_le _, rfl, ST.out⟩
      case round =>
        clear ST
        obtain ⟨j, hj, rfl, q0, Q0, hz, hl, hg⟩ := hrel
        by_cases hlt : j < m1
        · rcases HL1.out with h | ⟨bb, off, ha, hb, hcell⟩
          · exfalso; omega
          · have hci : wr.cell? ⟨bb, off + j, none⟩ = some (.string (y1 j)) := by rw [← hcell j (by omega)]; exact hz.ss.o.bel.cell (by exact hb)
            have hys := HY1.out j
            subst ha
            clear hcell y0 y1'
            generalize y1 j = Y0 at hci hys
            unfold maxLen at hys
            have hmin : min (Y0.size : Int) 100 = ((min Y0.size 100 : Nat) : Int) := by omega
            have hsl := War.cutL Y0 (Y0.extract 0 (min Y0.size 100)) _ _ rfl (Nat.min_le_left _ _) rfl
            have hBz : (Y0.extract 0 (min Y0.size 100)).size ≤ 100 := by rw [ByteArray.size_extract]; omega
            generalize Y0.extract 0 (min Y0.size 100) = B at hsl hBz
            generalize min Y0.size 100 = M at hmin hsl
            by_cases cz : B.size = 0
            · have em := empty_of cz
              have G := hid (And.intro hz (And.intro (show Q0.length ≤ j + 1 by omega) hg))
              clear hz hl hg
              go_wp2
              go_roundw
              case rel => exact ⟨j + 1, by omega, by go_num, _, _, G.out⟩
              case measure => simp [intOf] <;> omega
            · have em := Wf.full_of cz
              obtain ⟨ra, rc, hv, _, _, _⟩ := hz.r0.lies
              subst hv
              have cX := blk_cell (l := [.slice ra Q0.length rc, u1]) hz.x (i := 0) rfl
              have hown1 := hz.r0.own
              have hbase := hz.ss.o.bel.size
              obtain ⟨l0, hll⟩ : ∃ l0, Q0.length = l0 := ⟨_, rfl⟩
              have HLL := hid hll
              rw [hll] at hown1 hl cX
              have H8 := hid hz
              rw [hll] at H8
              have HGS := hid (hg.snoc cz hBz)
              clear hll hz hg
              go_wp2_with (at_builtin; refine wpList_append_lies _ rfl _ _ 22 rfl V.heap.size 9 i0 (.string ⟨#[]⟩) 1 16 Try.underlying22 hi0 hz0 hz1 hz2 rfl (by decide) _ _ _ rfl (hown1.alloc _) ⟨wr.heap.size, 0, none⟩ 1 1 [.string B] rfl rfl ?c1 ?c2 ?c6 ?c3 ?c4 ?c5 (wr.heap.size + 1) ?c7 ?_)
              case c1 =>
                intro j u hj
                match j, hj with
                | 0, hj => simp at hj; subst hj; simp [Addr.add]
              case c2 => intro u hu; simp at hu; subst hu; rfl
              case c3 => unfold maxLen; omega
              case c4 => omega
              case c5 => simp; omega
              case c6 => omega
              case c7 => simp
              · intro g cg w5 own5 gr5 hg5 _
                obtain ⟨⟨x1, x2⟩, Z5⟩ := H8.out.grow0 (by rw [HLL.out]; exact own5) gr5 hg5
                rw [HLL.out] at Z5
                have G := hid (And.intro Z5 (And.intro (show (Q0 ++ [B]).length ≤ j + 1 by rw [list_len, HLL.out]; omega) HGS.out))
                clear own5 gr5 hg5 Z5 hown1 H8 HGS
                go_wp2
                go_roundw
                case rel => exact ⟨j + 1, by omega, by go_num, _, _, G.out⟩
                case measure => simp [intOf] <;> omega
        · have G := hid (show ∃ u0 u1 L0 L1, Zz V wr S D s d F X (X + 1) (X + 1) oY oY u0 u1 L0 L1 ∧ L0.length ≤ 10 ∧ L1.length ≤ 10 ∧ G100 L0 ∧ G100 L1 ∧ (1 = 0 → L0 = []) ∧ (1 ≤ 1 → L1 = []) from ⟨_, _, _, _, hz, by omega, HG1.out.1, hg, HG1.out.2, fun c => by omega, fun _ => E1.out⟩)
          clear hz hg
          go_wp2
          go_roundw
          case rel => exact ⟨1, by omega, rfl, G.out⟩
          case measure => simp [intOf] <;> omega
    · have e1 := hi1' (by omega)
      subst e1
      have ST := hid (show ∃ u1 L1, Zz V wo S D s d F X (X + 1) (X + 1) oY oY u0 u1 L0 L1 ∧ L1.length ≤ 0 ∧ G100 L1 from ⟨_, _, hz, Nat.le_refl _, hg1⟩)
      have HG0 := hid (And.intro hl0 hg0)
      clear hz hl1 hg1 hl0 hg0

      clear hi0' hi1'
      rw [show ((1 : Nat) : Int) = 1 from rfl]
      go_wp2
      go_loopw [49] (fun jv wr => ∃ j : Nat, j ≤ m2 ∧ jv = .int .i64 (j : Int) ∧ ∃ u1 L1, Zz V wr S D s d F X (X + 1) (X + 1) oY oY u0 u1 L0 L1 ∧ L1.length ≤ j ∧ G100 L1) (fun jv _ => m2 - (intOf jv).toNat)
      case atStart => exact ⟨0, Nat.zero_le _, rfl, ST.out⟩
      case round =>
        clear ST
        obtain ⟨j, hj, rfl, q1, Q1, hz, hl, hg⟩ := hrel
        by_cases hlt : j < m2
        · rcases HL2.out with h | ⟨bb, off, ha, hb, hcell⟩
          · exfalso; omega
          · have hci : wr.cell? ⟨bb, off + j, none⟩ = some (.string (y2 j)) := by rw [← hcell j (by omega)]; exact hz.ss.o.bel.cell (by exact hb)
            have hys := HY2.out j
            subst ha
            clear hcell y0 y1'
            generalize y2 j = Y0 at hci hys
            unfold maxLen at hys
            have hmin : min (Y0.size : Int) 100 = ((min Y0.size 100 : Nat) : Int) := by omega
            have hsl := War.cutL Y0 (Y0.extract 0 (min Y0.size 100)) _ _ rfl (Nat.min_le_left _ _) rfl
            have hBz : (Y0.extract 0 (min Y0.size 100)).size ≤ 100 := by rw [ByteArray.size_extract]; omega
            generalize Y0.extract 0 (min Y0.size 100) = B at hsl hBz
            generalize min Y0.size 100 = M at hmin hsl
            by_cases cz : B.size = 0
            · have em := empty_of cz
              have G := hid (And.intro hz (And.intro (show Q1.length ≤ j + 1 by omega) hg))
              clear hz hl hg
              go_wp2
              go_roundw
              case rel => exact ⟨j + 1, by omega, by go_num, _, _, G.out⟩
              case measure => simp [intOf] <;> omega
            · have em := Wf.full_of cz
              obtain ⟨ra, rc, hv, _, _, _⟩ := hz.r1.lies
              subst hv
              have cX := blk_cell (l := [u0, .slice ra Q1.length rc]) hz.x (i := 1) rfl
              have hown1 := hz.r1.own
              have hbase := hz.ss.o.bel.size
              obtain ⟨l0, hll⟩ : ∃ l0, Q1.length = l0 := ⟨_, rfl⟩
              have HLL := hid hll
              rw [hll] at hown1 hl cX
              have H8 := hid hz
              rw [hll] at H8
              have HGS := hid (hg.snoc cz hBz)
              clear hll hz hg
              go_wp2_with (at_builtin; refine wpList_append_lies _ rfl _ _ 22 rfl V.heap.size 9 i0 (.string ⟨#[]⟩) 1 16 Try.underlying22 hi0 hz0 hz1 hz2 rfl (by decide) _ _ _ rfl (hown1.alloc _) ⟨wr.heap.size, 0, none⟩ 1 1 [.string B] rfl rfl ?c1 ?c2 ?c6 ?c3 ?c4 ?c5 (wr.heap.size + 1) ?c7 ?_)
              case c1 =>
                intro j u hj
                match j, hj with
                | 0, hj => simp at hj; subst hj; simp [Addr.add]
              case c2 => intro u hu; simp at hu; subst hu; rfl
              case c3 => unfold maxLen; omega
              case c4 => omega
              case c5 => simp; omega
              case c6 => omega
              case c7 => simp
              · intro g cg w5 own5 gr5 hg5 _
                obtain ⟨⟨x1, x2⟩, Z5⟩ := H8.out.grow1 (by rw [HLL.out]; exact own5) gr5 hg5
                rw [HLL.out] at Z5
                have G := hid (And.intro Z5 (And.intro (show (Q1 ++ [B]).length ≤ j + 1 by rw [list_len, HLL.out]; omega) HGS.out))
                clear own5 gr5 hg5 Z5 hown1 H8 HGS
                go_wp2
                go_roundw
                case rel => exact ⟨j + 1, by omega, by go_num, _, _, G.out⟩
                case measure => simp [intOf] <;> omega
        · have G := hid (show ∃ u0 u1 L0 L1, Zz V wr S D s d F X (X + 1) (X + 1) oY oY u0 u1 L0 L1 ∧ L0.length ≤ 10 ∧ L1.length ≤ 10 ∧ G100 L0 ∧ G100 L1 ∧ (2 = 0 → L0 = []) ∧ (2 ≤ 1 → L1 = []) from ⟨_, _, _, _, hz, HG0.out.1, by omega, HG0.out.2, hg, fun c => by omega, fun c => by omega⟩)
          clear hz hg
          go_wp2
          go_roundw
          case rel => exact ⟨2, by omega, rfl, G.out⟩
          case measure => simp [intOf] <;> omega
    · clear hi0' hi1' y0 y1'
      obtain ⟨ra0, rc0, hv0, _, _, li0⟩ := hz.r0.lies
      obtain ⟨ra1, rc1, hv1, _, _, li1⟩ := hz.r1.lies
      subst hv0 hv1
      have xc0 := blk_cell (l := [.slice ra0 L0.length rc0, .slice ra1 L1.length rc1]) hz.x (i := 0) rfl
      have LST : Hid (∀ (W : World) F s d, Zz V W S D s d F X (X + 1) (X + 1) oY oY (.slice ra0 L0.length rc0) (.slice ra1 L1.length rc1) L0 L1 → (W.cell? ⟨X, 0, none⟩ = some (.slice ra0 L0.length rc0) ∧ W.cell? ⟨X, 1, none⟩ = some (.slice ra1 L1.length rc1)) ∧ War.Lies W ra0 L0.length (nth L0) ∧ War.Lies W ra1 L1.length (nth L1)) := fun W F s d z => ⟨⟨blk_cell (l := [.slice ra0 L0.length rc0, .slice ra1 L1.length rc1]) z.x rfl, blk_cell (l := [.slice ra0 L0.length rc0, .slice ra1 L1.length rc1]) z.x rfl⟩, z.r0.at_, z.r1.at_⟩
      have CR1 := hid (zreset hz HS.out.2.1 HS.out.2.2.1 HS.out.2.2.2.2.1 (by have := HS.out.2.2.2.1; omega) L0 ra0 rc0 li0 hl0 hg0)
      have HG := hid (And.intro hl1 hg1)
      clear hz li0 li1 hl0 hl1 hg0 hg1
      go_wp2_with fail
      refine CR1.out.mono ?_
      clear CR1
      rintro e w5 (⟨rfl, h5⟩ | ⟨rfl, h5⟩)
      · obtain ⟨F5, d5, s5, z5, o5, i5, L5, g5, k5, a5⟩ := h5.out
        have g5' : s5.g ≤ 2 := by have := HS.out.2.2.2.1; omega
        have lk := LK.out w5 z5.ss.o.bel
        have l0 := lk.1
        have l1 := lk.2
        have CU := hid (zcut z5 zn zk HLO.out.n.2 HLO.out.k)
        have H5 := hid (And.intro o5 (And.intro i5 (And.intro L5 (And.intro g5' k5))))
        clear z5 o5 i5 L5 g5 k5 a5 h5 g5' lk
        go_wp2_with fail
        refine CU.out.mono ?_
        rintro e w6 ⟨rfl, F6, z6⟩
        obtain ⟨⟨x0, x1⟩, li0, li1⟩ := LST.out w6 _ _ _ z6
        have CR2 := hid (zreset z6 (H5.out.1.cut 0 zn [zk]) H5.out.2.1 H5.out.2.2.2.2 (by have := H5.out.2.2.2.1; omega) L1 ra1 rc1 li1 HG.out.1 HG.out.2)
        clear z6 li0 li1 CU l0 l1 x0
        go_wp2_with fail
        refine CR2.out.mono ?_
        clear CR2
        rintro e w7 (⟨rfl, h7⟩ | ⟨rfl, h7⟩)
        · obtain ⟨F7, d7, s7, z7, o7, i7, L7, g7, k7, a7⟩ := h7.out
          have OFF := hid (z7.ss.o.off)
          rw [o7.live.off] at OFF
          have lk := LK.out w7 z7.ss.o.bel
          have l1 := lk.2
          have CRS := hid (zcrash z7 (On.q o7 (k1 k7 i7)) zk HLO.out.k)
          have rc := o7.rest.crash [zk]
          rw [i7, L7] at rc
          have RC := hid (And.intro rc.1 (And.intro rc.2 (show (d7.crash [zk]).k = 1 from k7)))
          have g7' : s7.g < 281474976710655 := by have := H5.out.2.2.2.1; omega
          clear z7 o7 i7 L7 g7 k7 a7 h7 lk rc
          go_wp2_with fail
          refine OFF.out.mono ?_
          rintro e w8 ⟨rfl, rfl⟩
          go_wp2_with fail
          refine CRS.out.mono ?_
          rintro e w8 ⟨rfl, F8, z8⟩
          have OC := hid (open_cr z8.ss.o RC.out.1 g7' RC.out.2.1 RC.out.2.2)
          have Z8 := hid z8
          clear z8 CRS OFF l1
          go_wp2_with fail
          refine OC.out.mono ?_
          rintro e w9 ⟨S9, a9, cap9, F9, d9, rfl, h9⟩
          obtain ⟨e1, e2, e3, e4, e5, e6, e7⟩ := h9.out
          have x9 := (e5.block X (blk_lt Z8.out.x) (fun c => Z8.out.nX (.inl c))).trans Z8.out.x
          have y1x := blk_cell (l := [.slice ra0 L0.length rc0, .slice ra1 L1.length rc1]) x9 (i := 1) rfl
          have R1 := Z8.out.r1.other (w' := w9) (G' := fun _ => False) (fun b hb e => e5.block b hb fun c => Z8.out.r1.ap b e (.inl (.inl c))) fun _ _ _ c => c
          have EQ := hid (equal_ L1 L1 a9 ra1 cap9 rc1 w9 e7 R1.at_ (by have := HG.out.1; omega))
          rw [decide_eq_true rfl] at EQ
          have BE := hid e1.bel
          clear e1 e2 e3 e4 e5 e6 e7 h9 OC x9 R1
          go_wp2_with fail
          refine EQ.out.mono ?_
          rintro e w10 ⟨rfl, b10⟩
          have B10 := hid (BV.out.trans ((BE.out.trans (b10.mono BE.out.size)).mono BV.out.size))
          clear b10 EQ BE
          go_wp2
          go_ret
          exact ⟨rfl, B10.out⟩
        · obtain ⟨_, F7, d7, s7, z7, k7, dn⟩ := h7.out
          obtain ⟨LL, hLL, dn⟩ : ∃ LL, (LL = L0 ∨ LL = L1) ∧ Down d7 0 63 LL (s5.g + 1) := by
            rcases dn with dn | dn
            · exact ⟨_, .inl H5.out.2.2.1, dn⟩
            · exact ⟨_, .inr rfl, dn⟩
          have OFF := hid (z7.ss.o.off)
          rw [dn.off] at OFF
          have lk := LK.out w7 z7.ss.o.bel
          have l1 := lk.2
          have q7 : ∀ j, j < d7.k → (d7.r j).q.length ≤ 1048576 := fun j hj => by
            obtain ⟨yy, hr, _⟩ := dn.r
            have : j = 0 := by omega
            rw [this, hr]
            exact Nat.zero_le _
          have CRS := hid (zcrash z7 q7 zk HLO.out.k)
          have rc := dn.crash [zk]
          have RC := hid (And.intro rc.1 (And.intro rc.2 (show (d7.crash [zk]).k = 1 from k7)))
          have g7' : s5.g + 1 < 281474976710655 := by have := H5.out.2.2.2.1; omega
          have HLL := hid hLL
          have hll : LL.length ≤ 10 ∨ True := .inr trivial
          clear z7 k7 dn h7 lk rc q7 hLL hll
          go_wp2_with fail
          refine OFF.out.mono ?_
          rintro e w8 ⟨rfl, rfl⟩
          go_wp2_with fail
          refine CRS.out.mono ?_
          rintro e w8 ⟨rfl, F8, z8⟩
          have OC := hid (open_cr z8.ss.o RC.out.1 g7' RC.out.2.1 RC.out.2.2)
          have Z8 := hid z8
          clear z8 CRS OFF l1
          go_wp2_with fail
          refine OC.out.mono ?_
          rintro e w9 ⟨S9, a9, cap9, F9, d9, rfl, h9⟩
          obtain ⟨e1, e2, e3, e4, e5, e6, e7⟩ := h9.out
          have x9 := (e5.block X (blk_lt Z8.out.x) (fun c => Z8.out.nX (.inl c))).trans Z8.out.x
          have y1x := blk_cell (l := [.slice ra0 L0.length rc0, .slice ra1 L1.length rc1]) x9 (i := 1) rfl
          have R1 := Z8.out.r1.other (w' := w9) (G' := fun _ => False) (fun b hb e => e5.block b hb fun c => Z8.out.r1.ap b e (.inl (.inl c))) fun _ _ _ c => c
          have R0 := Z8.out.r0.other (w' := w9) (G' := fun _ => False) (fun b hb e => e5.block b hb fun c => Z8.out.r0.ap b e (.inl (.inl c))) fun _ _ _ c => c
          have len : LL.length ≤ 140737488355328 := by
            have h1 := e2.cap
            have h2 : ∀ (L : List ByteArray), L.length ≤ (frs L).size := fun L => by
              induction L with
              | nil => exact Nat.zero_le _
              | cons b L ih =>
                show L.length + 1 ≤ (fr b ++ frs L).size
                rw [size_app, fr_size]
                omega
            have := h2 LL
            omega
          have EQ := hid (equal_ LL L1 a9 ra1 cap9 rc1 w9 e7 R1.at_ len)
          have BE := hid e1.bel
          have X9 := hid x9
          have RR := hid (And.intro R0 (And.intro e7 len))
          clear e1 e2 e3 e4 e5 e6 e7 h9 OC x9 R1 R0 len
          by_cases cE : LL = L1
          · rw [decide_eq_true cE] at EQ
            clear cE
            go_wp2_with fail
            refine EQ.out.mono ?_
            rintro e w10 ⟨rfl, b10⟩
            have B10 := hid (BV.out.trans ((BE.out.trans (b10.mono BE.out.size)).mono BV.out.size))
            clear b10 EQ BE
            go_wp2
            go_ret
            exact ⟨rfl, B10.out⟩
          · have hL0 := hid (show LL = L0 from HLL.out.elim id fun c => absurd c cE)
            rw [decide_eq_false cE] at EQ
            clear cE
            go_wp2_with fail
            refine EQ.out.mono ?_
            rintro e w10 ⟨rfl, b10⟩
            have x10 := (b10.block X (blk_lt X9.out)).trans X9.out
            have y0x := blk_cell (l := [.slice ra0 L0.length rc0, .slice ra1 L1.length rc1]) x10 (i := 0) rfl
            have EQ2 := hid (equal_ LL L0 a9 ra0 cap9 rc0 w10 (RR.out.2.1.below b10) (RR.out.1.below b10).at_ RR.out.2.2)
            rw [decide_eq_true hL0.out] at EQ2
            have B10 := hid (BE.out.trans (b10.mono BE.out.size))
            clear b10 EQ BE x10 hL0 RR
            go_wp2_with fail
            refine EQ2.out.mono ?_
            rintro e w11 ⟨rfl, b11⟩
            have B11 := hid (BV.out.trans ((B10.out.trans (b11.mono B10.out.size)).mono BV.out.size))
            clear b11 EQ2
            go_wp2
            go_ret
            exact ⟨rfl, B11.out⟩
      · obtain ⟨q, _⟩ := h5.out
        exact absurd HS.out.2.2.2.2.2 q

end Go.Proofs.Ytefbdmijbcplmaa.Wst
