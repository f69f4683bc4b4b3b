/-
  Both tables in a law's memory ('Sp'), one contract for each call on them, and the laws' function same. Nothing is asked but what each fact names.
-/
import Derived.Test.YtpbbamoeaalolaaGtO
import Derived.Test.YtpbbamoeaalolaaGtG
namespace Go.Proofs.Ytpbbamoeaalolaa.Wg
open Go.ChangeShapes Go.WideShapes Go.ChangeAt Go.RowKit Go.Proofs.Ytpbbamoeaalolaa.M Go.Maps

set_option maxRecDepth 100000 in
set_option maxHeartbeats 800000 in
theorem same {w : World} {s r : Nat} {F G : Nat → Prop} {L : List Ky} (h : TbL w s F L) (k : RfL w r G L) :
    Calls Try.prog 17 #[.pointer (some ⟨s, 0, none⟩), .pointer (some ⟨r, 0, none⟩)] w fun e w' => e = .returned (.bool true) ∧ Below w.heap.size w w' := by
  have LS := hid (list h)
  have hr := k.lt
  have hlen := k.t.len
  obtain ⟨a, cap, h1, h2, h3, h4⟩ := k.rep
  have c0 := blk_cell (l := [.slice a L.length cap]) h1 (i := 0) rfl
  have hq := neqK 40 (.inr rfl)
  clear h k h1
  go_enter Try.func17, Try.ntmps17
  go_wp2_with fail
  refine LS.out.mono ?_
  rintro e w1 ⟨a1, cap1, rfl, q1, q2, q3, b1⟩
  have cR := (b1.cell (p := ⟨r, 0, none⟩) hr).trans c0
  clear LS
  go_wp2
  go_loopw [19, 6] (fun i _ wr => ∃ n : Nat, n ≤ L.length ∧ i = .int .i64 n ∧ ∃ q, wr = w1.drewN q) (fun i _ _ => L.length - (intOf i).toNat)
  case atStart => exact ⟨0, Nat.zero_le _, rfl, 0, rfl⟩
  case round =>
    obtain ⟨n, hn, rfl, q, rfl⟩ := hrel
    by_cases c : n < L.length
    · obtain ⟨x, hx⟩ : ∃ x, L[n]? = some x := ⟨L[n], List.getElem?_eq_getElem c⟩
      rcases h4 with h4 | ⟨g, rfl, _, p3, p4⟩
      · rw [h4] at c; simp at c
      rcases q3 with q3 | ⟨g1, rfl, _, _, p5⟩
      · rw [q3] at c; simp at c
      obtain ⟨x0, x1⟩ := p4.at hx
      have y0 : w1.cell? ⟨g, n * 2, none⟩ = some (.int .i64 x.1) := (b1.cell (p := ⟨g, n * 2, none⟩) p3).trans x0
      have y1 : w1.cell? ⟨g, n * 2 + 1, none⟩ = some (.string x.2) := (b1.cell (p := ⟨g, n * 2 + 1, none⟩) p3).trans x1
      obtain ⟨z0, z1⟩ := p5.at hx
      have hqx := fun W => hq W x x
      simp only [decide_true, Bool.not_true] at hqx
      clear hq x0 x1 hx p4 p5
      go_wp2
      go_quiet (fail)
      go_wp2
      go_roundw
      case rel => exact ⟨n + 1, c, by go_num, _, rfl⟩
      case measure => simp [intOf]; omega
    · go_wp2
      go_ret
      exact ⟨rfl, b1.os, b1.tape, b1.output, b1.size, b1.block⟩

structure Sp (w W : World) (s r : Nat) (obs : List (Nat × Obj)) (L M : List Ky) : Prop where
  bel : Below w.heap.size w W
  st : ∃ F G, TbL W s F L ∧ RfL W r G M ∧ (∀ i, F i → w.heap.size ≤ i ∧ i < W.heap.size) ∧ (∀ i, G i → w.heap.size ≤ i ∧ i < W.heap.size) ∧ (∀ i, F i → ¬ G i) ∧ ∀ p ∈ obs, W.heap[p.1]? = some p.2 ∧ ¬ F p.1 ∧ ¬ G p.1
theorem Sp.below {w W W' : World} {s r : Nat} {obs : List (Nat × Obj)} {L M : List Ky} (h : Sp w W s r obs L M) (b : Below W.heap.size W W') : Sp w W' s r obs L M := by
  obtain ⟨F, G, h1, h2, h3, h4, h5, h6⟩ := h.st
  exact ⟨h.bel.trans (b.mono h.bel.size), F, G, h1.below b, h2.below b, fun i hi => ⟨(h3 i hi).1, Nat.lt_of_lt_of_le (h3 i hi).2 b.size⟩, fun i hi => ⟨(h4 i hi).1, Nat.lt_of_lt_of_le (h4 i hi).2 b.size⟩, h5, fun p hp => ⟨(b.block p.1 (blk_lt (h6 p hp).1)).trans (h6 p hp).1, (h6 p hp).2⟩⟩
theorem Sp.alloc {w W : World} {s r : Nat} {obs : List (Nat × Obj)} {L M : List Ky} (h : Sp w W s r obs L M) (o : Obj) : Sp w (W.alloc o) s r ((W.heap.size, o) :: obs) L M := by
  have h' := h.below ((Below.refl _ _).alloc (Nat.le_refl _) o)
  obtain ⟨F, G, h1, h2, h3, h4, h5, h6⟩ := h.st
  have b := (Below.refl W.heap.size W).alloc (Nat.le_refl _) o
  refine ⟨h'.bel, F, G, h1.below b, h2.below b, fun i hi => ⟨(h3 i hi).1, Nat.lt_of_lt_of_le (h3 i hi).2 b.size⟩, fun i hi => ⟨(h4 i hi).1, Nat.lt_of_lt_of_le (h4 i hi).2 b.size⟩, h5, fun p hp => ?_⟩
  rcases List.mem_cons.1 hp with rfl | hp
  · exact ⟨heap_alloc_new W o, fun e => Nat.lt_irrefl _ (h3 _ e).2, fun e => Nat.lt_irrefl _ (h4 _ e).2⟩
  · exact ⟨(b.block p.1 (blk_lt (h6 p hp).1)).trans (h6 p hp).1, (h6 p hp).2⟩
theorem Sp.sub {w W : World} {s r : Nat} {obs obs' : List (Nat × Obj)} {L M : List Ky} (h : Sp w W s r obs L M) (hs : ∀ p ∈ obs', p ∈ obs) : Sp w W s r obs' L M := by
  obtain ⟨F, G, h1, h2, h3, h4, h5, h6⟩ := h.st
  exact ⟨h.bel, F, G, h1, h2, h3, h4, h5, fun p hp => h6 p (hs p hp)⟩
theorem Sp.at {w W : World} {s r : Nat} {obs : List (Nat × Obj)} {L M : List Ky} (h : Sp w W s r obs L M) {p : Nat × Obj} (hp : p ∈ obs) : W.heap[p.1]? = some p.2 := by
  obtain ⟨F, G, _, _, _, _, _, h6⟩ := h.st
  exact (h6 p hp).1
theorem Sp.drew {w W : World} {s r : Nat} {obs : List (Nat × Obj)} {L M : List Ky} (h : Sp w W s r obs L M) : Sp w W.drew s r obs L M := h.below ⟨rfl, rfl, rfl, Nat.le_refl _, fun _ _ => rfl⟩

section
variable {w W : World} {s r : Nat} {obs : List (Nat × Obj)} {L M : List Ky} (h : Sp w W s r obs L M)
include h
theorem sp_add {k : Ky} (hk : KOk k) : Calls Try.prog 15 #[.pointer (some ⟨s, 0, none⟩), .agg #[.int .i64 k.1, .string k.2]] W fun e w' => e = .returned (.int .i64 (addE k L)) ∧ Sp w w' s r obs (addL k L) M := by
  obtain ⟨F, G, h1, h2, h3, h4, h5, h6⟩ := h.st
  refine (Wg.add h1 hk).mono ?_
  rintro e w' ⟨rfl, q1, q2⟩
  have z := h.bel.size
  refine ⟨rfl, h.bel.trans (q2.below z fun i hi => (h3 i hi).1), Gr F W w', G, q1, h2.kept q2 fun i hg hf => h5 i hf hg, fun i hi => ?_, fun i hi => ⟨(h4 i hi).1, Nat.lt_of_lt_of_le (h4 i hi).2 q2.size⟩, fun i hi hg => ?_, fun p hp => ?_⟩
  · rcases hi with hi | hi
    · exact ⟨(h3 i hi).1, Nat.lt_of_lt_of_le (h3 i hi).2 q2.size⟩
    · omega
  · rcases hi with hi | hi
    · exact h5 i hi hg
    · have := (h4 i hg).2; omega
  · obtain ⟨a1, a2, a3⟩ := h6 p hp
    refine ⟨(q2.block p.1 (blk_lt a1) a2).trans a1, fun hi => ?_, a3⟩
    rcases hi with hi | hi
    · exact a2 hi
    · have := blk_lt a1; omega
theorem sp_drop {k : Ky} (hk : KOk k) : Calls Try.prog 13 #[.pointer (some ⟨s, 0, none⟩), .agg #[.int .i64 k.1, .string k.2]] W fun e w' => e = .returned (.int .i64 (dropE k L)) ∧ Sp w w' s r obs (dropL k L) M := by
  obtain ⟨F, G, h1, h2, h3, h4, h5, h6⟩ := h.st
  refine (Wg.drop h1 hk).mono ?_
  rintro e w' ⟨rfl, q1, q2⟩
  have z := h.bel.size
  exact ⟨rfl, h.bel.trans (q2.below z fun i hi => (h3 i hi).1), F, G, q1, h2.kept q2 fun i hg hf => h5 i hf hg, fun i hi => ⟨(h3 i hi).1, Nat.lt_of_lt_of_le (h3 i hi).2 q2.size⟩, fun i hi => ⟨(h4 i hi).1, Nat.lt_of_lt_of_le (h4 i hi).2 q2.size⟩, h5, fun p hp => by
    obtain ⟨a1, a2, a3⟩ := h6 p hp
    exact ⟨(q2.block p.1 (blk_lt a1) a2).trans a1, a2, a3⟩⟩
theorem sp_docs {W' : World} {G : Nat → Prop} {F : Nat → Prop} {M' : List Ky} (h1 : TbL W s F L) (h3 : ∀ i, F i → w.heap.size ≤ i ∧ i < W.heap.size) (h4 : ∀ i, G i → w.heap.size ≤ i ∧ i < W.heap.size) (h5 : ∀ i, F i → ¬ G i) (h6 : ∀ p ∈ obs, W.heap[p.1]? = some p.2 ∧ ¬ F p.1 ∧ ¬ G p.1)
    (c1 : RfL W' r (Gr G W W') M') (c2 : Kept G W W') : Sp w W' s r obs L M' := by
  refine ⟨h.bel.trans (c2.below h.bel.size fun i hi => (h4 i hi).1), F, Gr G W W', h1.kept c2 fun i hf => h5 i hf, c1, fun i hi => ⟨(h3 i hi).1, Nat.lt_of_lt_of_le (h3 i hi).2 c2.size⟩, fun i hi => ?_, fun i hf hi => ?_, fun p hp => ?_⟩
  · rcases hi with hi | hi
    · exact ⟨(h4 i hi).1, Nat.lt_of_lt_of_le (h4 i hi).2 c2.size⟩
    · have := h.bel.size; omega
  · rcases hi with hi | hi
    · exact h5 i hf hi
    · have := (h3 i hf).2; omega
  · obtain ⟨a1, a2, a3⟩ := h6 p hp
    refine ⟨(c2.block p.1 (blk_lt a1) a3).trans a1, a2, fun hi => ?_⟩
    rcases hi with hi | hi
    · exact a3 hi
    · have := blk_lt a1; omega
theorem sp_addR {k : Ky} (hk : KOk k) : Calls Try.prog 16 #[.pointer (some ⟨r, 0, none⟩), .agg #[.int .i64 k.1, .string k.2]] W fun e w' => e = .returned (.int .i64 (addE k M)) ∧ Sp w w' s r obs L (addL k M) := by
  obtain ⟨F, G, h1, h2, h3, h4, h5, h6⟩ := h.st
  refine (addRef h2 hk).mono ?_
  rintro e w' ⟨rfl, q1, q2⟩
  exact ⟨rfl, sp_docs h h1 h3 h4 h5 h6 q1 q2⟩
theorem sp_dropR (k : Ky) : Calls Try.prog 14 #[.pointer (some ⟨r, 0, none⟩), .agg #[.int .i64 k.1, .string k.2]] W fun e w' => e = .returned (.int .i64 (dropE k M)) ∧ Sp w w' s r obs L (dropL k M) := by
  obtain ⟨F, G, h1, h2, h3, h4, h5, h6⟩ := h.st
  refine (dropRef h2 k).mono ?_
  rintro e w' ⟨rfl, q1, q2⟩
  exact ⟨rfl, sp_docs h h1 h3 h4 h5 h6 q1 q2⟩
theorem sp_has {k : Ky} (hk : KOk k) : Calls Try.prog 18 #[.pointer (some ⟨s, 0, none⟩), .agg #[.int .i64 k.1, .string k.2]] W fun e w' => e = .returned (.bool (decide (k ∈ L))) ∧ Sp w w' s r obs L M := by
  obtain ⟨F, G, h1, _⟩ := h.st
  exact (Wg.has h1 hk).mono fun e w' ⟨q1, q2⟩ => ⟨q1, h.below q2⟩
theorem sp_hasR (k : Ky) : Calls Try.prog 19 #[.pointer (some ⟨r, 0, none⟩), .agg #[.int .i64 k.1, .string k.2]] W fun e w' => e = .returned (.bool (decide (k ∈ M))) ∧ Sp w w' s r obs L M := by
  obtain ⟨F, G, _, h2, _⟩ := h.st
  exact (hasRef h2 k).mono fun e w' ⟨q1, q2⟩ => ⟨q1, h.below q2⟩
end
theorem sp_same {w W : World} {s r : Nat} {obs : List (Nat × Obj)} {L : List Ky} (h : Sp w W s r obs L L) : Calls Try.prog 17 #[.pointer (some ⟨s, 0, none⟩), .pointer (some ⟨r, 0, none⟩)] W fun e w' => e = .returned (.bool true) ∧ Sp w w' s r obs L L := by
  obtain ⟨F, G, h1, h2, _⟩ := h.st
  exact (same h1 h2).mono fun e w' ⟨q1, q2⟩ => ⟨q1, h.below q2⟩
/-- A document's table beside the code's. -/
theorem sp_new {w W : World} {s : Nat} {L : List Ky} (t : Tab w W s L) : Sp w (W.alloc (.cells #[.slice none 0 0] 33)) s W.heap.size [] L [] := by
  obtain ⟨F, h1, h2⟩ := t.tb
  have b := (Below.refl W.heap.size W).alloc (Nat.le_refl _) (.cells #[.slice none 0 0] 33)
  have hW := t.bel.size
  refine ⟨t.bel.trans (b.mono hW), fun i => F i ∧ i < W.heap.size, fun i => i = W.heap.size, ?_, ⟨tbl_nil, rfl, none, 0, heap_alloc_new W _, Nat.le_refl _, Nat.zero_le _, .inl rfl⟩, fun i hi => ⟨h2 i hi.1, by simp; omega⟩, fun i hi => by subst hi; exact ⟨hW, by simp⟩, fun i hi e => by omega, by simp⟩
  have h1' : TbL W s (fun i => F i ∧ i < W.heap.size) L := by
    refine ⟨h1.t, ⟨h1.fs, h1.lt⟩, ?_⟩
    rcases h1.rep with q | ⟨b, D, q1, q2, q3, q4⟩
    · exact .inl q
    · exact .inr ⟨b, D, q1, ⟨q2, q3.lt⟩, q3, q4⟩
  exact h1'.below b

end Go.Proofs.Ytpbbamoeaalolaa.Wg
