/-
  A law's own row of texts, beside its disk and its stream: what keeps it, and what an append makes of it.
-/
import Derived.Test.YtaojoecmbgmhoaaLwC
namespace Go.Proofs.Ytaojoecmbgmhoaa.Wst
open Go.ChangeShapes Go.WideShapes Go.ChangeAt Go.RowKit Go.Proofs.Ytaojoecmbgmhoaa.M Go.Proofs.Ytaojoecmbgmhoaa.Wd

/-- A row of texts, made since W, apart from G. -/
structure Rw (W w : World) (G : Nat → Prop) (v : Value) (L : List ByteArray) : Prop where
  own : w.ownsRow W.heap.size 9 1 v L.length (rcv L)
  ap : ∀ b, v.ownBlock = some b → ¬ G b
theorem Rw.nil (W w : World) (G : Nat → Prop) : Rw W w G (.slice none 0 0) [] := ⟨World.ownsRow_nil _ _ _ _, fun b hb => by cases hb⟩
theorem Rw.kept {W w w' : World} {G G' : Nat → Prop} {v : Value} {L : List ByteArray} (h : Rw W w G v L) (hk : Kept G w w') (hG : ∀ b, G' b → G b ∨ w.heap.size ≤ b) : Rw W w' G' v L := by
  refine ⟨?_, fun b hb c => ?_⟩
  · obtain ⟨h1, h2 | ⟨g, cap, cur, q1, q2, q3, q4⟩⟩ := h.own
    · exact ⟨h1, .inl h2⟩
    · exact ⟨h1, .inr ⟨g, cap, cur, q1, q2, (hk.block g (blk_lt q3) (h.ap g (by rw [q1]; rfl))).trans q3, q4⟩⟩
  · have := (h.own.lt b hb).2
    rcases hG b c with c | c
    · exact h.ap b hb c
    · omega
theorem Rw.below {W w w' : World} {G : Nat → Prop} {v : Value} {L : List ByteArray} (h : Rw W w G v L) (b : Below w.heap.size w w') : Rw W w' G v L := h.kept (.of_below b) fun _ hb => .inl hb
theorem Rw.mono {W w : World} {G G' : Nat → Prop} {v : Value} {L : List ByteArray} (h : Rw W w G v L) (hG : ∀ b, G' b → G b) : Rw W w G' v L := ⟨h.own, fun b hb c => h.ap b hb (hG b c)⟩
theorem Rw.lies {W w : World} {G : Nat → Prop} {v : Value} {L : List ByteArray} (h : Rw W w G v L) : ∃ a cap, v = .slice a L.length cap ∧ L.length ≤ cap ∧ cap ≤ maxLen ∧ War.Lies w a L.length (nth L) := War.own_lies h.own fun _ hj => rcv_get hj
theorem rcv_snoc (L : List ByteArray) (x : ByteArray) : rcv (L ++ [x]) = rcv L ++ [.string x] := by simp [rcv]
theorem fs_gr {F : Nat → Prop} {S : Nat} {w w' : World} : ∀ b, Fs (Gr F w w') S b → Fs F S b ∨ w.heap.size ≤ b := fun b hb => by
  rcases hb with (hb | hb) | hb
  · exact .inl (.inl hb)
  · exact .inr hb.1
  · exact .inl (.inr hb)
theorem gr_old {F : Nat → Prop} {w w' : World} : ∀ b, Gr F w w' b → F b ∨ w.heap.size ≤ b := fun _ hb => hb.imp id fun hb => hb.1

/-- One text more. -/
theorem Rw.grown {W w w2 : World} {G : Nat → Prop} {v : Value} {L : List ByteArray} {x : ByteArray} {o : Obj} {g cap : Nat} (h : Rw W w G v L) (hG : ∀ b, G b → b < w.heap.size) (own2 : w2.ownsRow W.heap.size 9 1 (.slice (some ⟨g, 0, none⟩) (L.length + 1) cap) (L.length + 1) (rcv L ++ [.string x])) (gr : (w.alloc o).grownBy w2 v.ownBlock) (hg : v.ownBlock = some g ∨ g = w.heap.size + 1) :
    Rw W w2 G (.slice (some ⟨g, 0, none⟩) (L.length + 1) cap) (L ++ [x]) ∧ (∀ b, G b → w2.heap[b]? = w.heap[b]?) ∧ w.heap.size ≤ w2.heap.size := by
  have bA : Below w.heap.size w (w.alloc o) := (Below.refl _ _).alloc (Nat.le_refl _) o
  have zA : (w.alloc o).heap.size = w.heap.size + 1 := by simp
  refine ⟨⟨?_, fun b hb c => ?_⟩, fun b hb => ?_, ?_⟩
  · rw [rcv_snoc]
    have : (L ++ [x]).length = L.length + 1 := by simp
    rw [this]
    exact own2
  · have e : g = b := by simpa [Value.ownBlock] using hb
    subst e
    rcases hg with hg | hg
    · exact h.ap g hg c
    · have := hG g c
      omega
  · rw [gr.block b (by rw [zA]; have := hG b hb; omega) (fun e => h.ap b e.symm hb), bA.block b (hG b hb)]
  · have := gr.size
    omega
theorem One.grown {W w w2 : World} {D : Nat} {d : Dk} {F : Nat → Prop} {v : Value} {L : List ByteArray} {o : Obj} (h : One W w D d F) (r : Rw W w F v L) (gr : (w.alloc o).grownBy w2 v.ownBlock) (hk : ∀ b, F b → w2.heap[b]? = w.heap[b]?) (hz : w.heap.size ≤ w2.heap.size) : One W w2 D d F := by
  obtain ⟨Ly, l⟩ := h.at_
  refine ⟨⟨Ly, l.kept hz hk⟩, h.own, ?_⟩
  have hs := h.bel.size
  exact (h.bel.alloc hs o).grown gr (by simp; omega) fun k hk => (r.own.lt k hk).1
theorem Ss.grown {W w w2 : World} {S D : Nat} {s : Sm} {d : Dk} {F : Nat → Prop} {v : Value} {L : List ByteArray} {o : Obj} (h : Ss W w S D s d F) (r : Rw W w (Fs F S) v L) (gr : (w.alloc o).grownBy w2 v.ownBlock) (hk : ∀ b, Fs F S b → w2.heap[b]? = w.heap[b]?) (hz : w.heap.size ≤ w2.heap.size) : Ss W w2 S D s d F :=
  ⟨One.grown h.o (r.mono fun _ hb => .inl hb) gr (fun b hb => hk b (.inl hb)) hz, ⟨(hk S (.inr rfl)).trans h.st.at_, h.st.nf⟩, h.hS⟩
theorem Ss.flt {W w : World} {S D : Nat} {s : Sm} {d : Dk} {F : Nat → Prop} (h : Ss W w S D s d F) : ∀ b, Fs F S b → b < w.heap.size := fun b hb => by
  rcases hb with hb | hb
  · exact one_lt h.o hb
  · rw [hb]; exact h.st.lt

/-- The row that an Open answers. -/
theorem row_of {W w w' : World} {S : Nat} {F' : Nat → Prop} {v : Value} {L : List ByteArray} (hW : W.heap.size ≤ w.heap.size) (own : w'.ownsRow w.heap.size 9 1 v L.length (rcv L)) (ap : ∀ b, v.ownBlock = some b → ¬ F' b ∧ b ≠ S) : Rw W w' (Fs F' S) v L :=
  ⟨own_keep own hW (fun _ _ _ => rfl), fun b hb c => c.elim (ap b hb).1 (ap b hb).2⟩

end Go.Proofs.Ytaojoecmbgmhoaa.Wst
