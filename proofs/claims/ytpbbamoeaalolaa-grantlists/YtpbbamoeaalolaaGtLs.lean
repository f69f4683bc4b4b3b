/-
  What the law GrantLists keeps: a map of the grants added ('Bm'), and a table beside blocks that it doesn't touch ('Gl'). Nothing is asked but what each fact names.
-/
import Derived.Test.YtpbbamoeaalolaaGtPl
import Derived.Test.YtpbbamoeaalolaaGtNw
namespace Go.Proofs.Ytpbbamoeaalolaa.Wg
open Go.ChangeShapes Go.WideShapes Go.ChangeAt Go.RowKit Go.Proofs.Ytpbbamoeaalolaa.M Go.Maps

theorem zeroB (w : World) : (zeroValue 4).run Try.prog w = .ok (.bool false) w := by kernel_rfl
theorem pb_inv {P : Program} {e : TypeId} (he : P.underlying e = some .bool) {v : Value} {z : DataW Unit × List MemPlace} (h : plainElem P e v = some z) : ∃ x, v = .bool x ∧ z = (.lit (.bool x), []) := by
  unfold plainElem at h
  rw [he] at h
  cases v <;> simp at h
  exact ⟨_, rfl, h.symm⟩
/-- The law's map: each grant of the list, true. -/
structure Bm (w : World) (b : Nat) (D : DataW Unit) (L : List Ky) : Prop where
  own : w.ownsMap (H := Unit) Try.prog 38 (plainElem Try.prog 4) b L.length D
  ts : Ts D L
  yes : ∀ k ∈ L, D.atKey (kL k) (.lit (.bool false)) = .lit (.bool true)
theorem Bm.at {w w' : World} {b : Nat} {D : DataW Unit} {L : List Ky} (h : Bm w b D L) (e : w'.heap[b]? = w.heap[b]?) : Bm w' b D L := by
  obtain ⟨es, clock, hb, F, hs, hD⟩ := h.own
  exact ⟨⟨es, clock, e.trans hb, F, hs, hD⟩, h.ts, h.yes⟩
theorem Bm.below {w w' : World} {b : Nat} {D : DataW Unit} {L : List Ky} (h : Bm w b D L) (k : Below w.heap.size w w') : Bm w' b D L := h.at (k.block b h.own.lt)
set_option maxRecDepth 100000 in
theorem Bm.look {w : World} {b : Nat} {D : DataW Unit} {L : List Ky} (h : Bm w b D L) {k : Ky} (hm : k ∈ L) (hk : KOk k) :
    (Instr.lookup 59 (.map (some b)) (.agg #[.int .i64 k.1, .string k.2]) false).run Try.prog w = .ok (.bool true) w := by
  obtain ⟨v, ps, h1, h2⟩ := h.own.lookup lawG Try.underlying59 (zeroB w) (plainElem_bool (H := Unit) Try.underlying4 false) (keyOf_mk hk)
  rw [h.yes k hm] at h2
  obtain ⟨x, hv, e⟩ := pb_inv Try.underlying4 h2
  have e2 := congrArg Prod.fst e
  simp only [DataW.lit.injEq, Lit.bool.injEq] at e2
  rw [hv, ← e2] at h1
  exact h1
theorem bm_new (w : World) : Bm (w.alloc (.map #[] 0)) w.heap.size (.map []) [] := ⟨World.ownsMap_made _ _ _ _, ts_nil, by simp⟩
theorem Bm.put {w w' : World} {b : Nat} {D : DataW Unit} {L : List Ky} (h : Bm w b D L) (ht : ∀ k ∈ L, KOk k) {k : Ky} (hk : KOk k) (hn : k ∉ L) (o : w'.ownsMap (H := Unit) Try.prog 38 (plainElem Try.prog 4) b (L.length + 1) (D.put (kL k) (.lit (.bool true)))) : Bm w' b (D.put (kL k) (.lit (.bool true))) (ins k L) := by
  refine ⟨by rw [length_ins]; exact o, h.ts.add (h.own.tidy lawG) hk hn _, fun j hj => ?_⟩
  by_cases e : j = k
  · subst e
    rw [atKey_put_same h.own.isMap (kL_key j)]
  · rcases mem_ins.1 hj with hj | hj
    · exact absurd hj e
    · rw [atKey_put_other (fun e' => e (kL_inj (ht j hj) hk e')), h.yes j hj]

/-- A table made since w, and blocks that are not its own. -/
structure Gl (w W : World) (s : Nat) (av : List Nat) (L : List Ky) : Prop where
  bel : Below w.heap.size w W
  st : ∃ F, TbL W s F L ∧ (∀ i, F i → w.heap.size ≤ i ∧ i < W.heap.size) ∧ ∀ i ∈ av, i < W.heap.size ∧ ¬ F i
theorem gl_new {w W : World} {s : Nat} {L : List Ky} (t : Tab w W s L) : Gl w W s [] L := by
  obtain ⟨F, h1, h2⟩ := t.tb
  refine ⟨t.bel, fun i => F i ∧ i < W.heap.size, ⟨h1.t, ⟨h1.fs, h1.lt⟩, ?_⟩, fun i hi => ⟨h2 i hi.1, hi.2⟩, by simp⟩
  rcases h1.rep with q | ⟨b, D, q1, q2, q3, q4⟩
  · exact .inl q
  · exact .inr ⟨b, D, q1, ⟨q2, q3.lt⟩, q3, q4⟩
theorem Gl.tbl {w W : World} {s : Nat} {av : List Nat} {L : List Ky} (h : Gl w W s av L) : Tbl L := by
  obtain ⟨F, h1, _⟩ := h.st
  exact h1.t
theorem Gl.more {w W W' : World} {s : Nat} {av av' : List Nat} {L : List Ky} (h : Gl w W s av L) (b : Below W.heap.size W W') (ha : ∀ i ∈ av', i ∈ av ∨ (W.heap.size ≤ i ∧ i < W'.heap.size)) : Gl w W' s av' L := by
  obtain ⟨F, h1, h2, h3⟩ := h.st
  refine ⟨h.bel.trans (b.mono h.bel.size), F, h1.below b, fun i hi => ⟨(h2 i hi).1, Nat.lt_of_lt_of_le (h2 i hi).2 b.size⟩, fun i hi => ?_⟩
  rcases ha i hi with q | q
  · exact ⟨Nat.lt_of_lt_of_le (h3 i q).1 b.size, (h3 i q).2⟩
  · exact ⟨q.2, fun e => by have := (h2 i e).2; omega⟩
theorem Gl.put {w W W' : World} {s b : Nat} {av : List Nat} {L : List Ky} (h : Gl w W s av L) (g : W.grownBy W' (some b)) (hb : b ∈ av) (hw : w.heap.size ≤ b) : Gl w W' s av L := by
  obtain ⟨F, h1, h2, h3⟩ := h.st
  exact ⟨h.bel.grown g h.bel.size (fun j hj => by injection hj with e; omega), F, h1.kept (kept_grown g) (fun i hi e => by injection e with e; subst e; exact (h3 _ hb).2 hi), fun i hi => ⟨(h2 i hi).1, Nat.lt_of_lt_of_le (h2 i hi).2 g.size⟩, fun i hi => ⟨Nat.lt_of_lt_of_le (h3 i hi).1 g.size, (h3 i hi).2⟩⟩
section
variable {w W : World} {s : Nat} {av : List Nat} {L : List Ky} (h : Gl w W s av L)
include h
theorem gl_add {k : Ky} (hk : KOk k) : Calls Try.prog 15 #[.pointer (some ⟨s, 0, none⟩), .agg #[.int .i64 k.1, .string k.2]] W fun e w' => e = .returned (.int .i64 (addE k L)) ∧ Gl w w' s av (addL k L) ∧ W.heap.size ≤ w'.heap.size ∧ ∀ i ∈ av, w'.heap[i]? = W.heap[i]? := by
  obtain ⟨F, h1, h2, h3⟩ := h.st
  refine (Wg.add h1 hk).mono ?_
  rintro e w' ⟨rfl, q1, q2⟩
  have z := h.bel.size
  refine ⟨rfl, ⟨h.bel.trans (q2.below z fun i hi => (h2 i hi).1), Gr F W w', q1, fun i hi => ?_, fun i hi => ⟨Nat.lt_of_lt_of_le (h3 i hi).1 q2.size, fun e => ?_⟩⟩, q2.size, fun i hi => q2.block i (h3 i hi).1 (h3 i hi).2⟩
  · rcases hi with hi | hi
    · exact ⟨(h2 i hi).1, Nat.lt_of_lt_of_le (h2 i hi).2 q2.size⟩
    · omega
  · rcases e with e | e
    · exact (h3 i hi).2 e
    · have := (h3 i hi).1; omega
theorem gl_drop {k : Ky} (hk : KOk k) : Calls Try.prog 13 #[.pointer (some ⟨s, 0, none⟩), .agg #[.int .i64 k.1, .string k.2]] W fun e w' => e = .returned (.int .i64 (dropE k L)) ∧ Gl w w' s av (dropL k L) ∧ W.heap.size ≤ w'.heap.size ∧ ∀ i ∈ av, w'.heap[i]? = W.heap[i]? := by
  obtain ⟨F, h1, h2, h3⟩ := h.st
  refine (Wg.drop h1 hk).mono ?_
  rintro e w' ⟨rfl, q1, q2⟩
  have z := h.bel.size
  exact ⟨rfl, ⟨h.bel.trans (q2.below z fun i hi => (h2 i hi).1), F, q1, fun i hi => ⟨(h2 i hi).1, Nat.lt_of_lt_of_le (h2 i hi).2 q2.size⟩, fun i hi => ⟨Nat.lt_of_lt_of_le (h3 i hi).1 q2.size, (h3 i hi).2⟩⟩, q2.size, fun i hi => q2.block i (h3 i hi).1 (h3 i hi).2⟩
theorem gl_has {k : Ky} (hk : KOk k) : Calls Try.prog 18 #[.pointer (some ⟨s, 0, none⟩), .agg #[.int .i64 k.1, .string k.2]] W fun e w' => e = .returned (.bool (decide (k ∈ L))) ∧ Below W.heap.size W w' := by
  obtain ⟨F, h1, _⟩ := h.st
  exact Wg.has h1 hk
theorem gl_list : Calls Try.prog 20 #[.pointer (some ⟨s, 0, none⟩)] W fun e w' => ∃ a cap, e = .returned (.slice a L.length cap) ∧ L.length ≤ cap ∧ cap ≤ maxLen ∧ Lst w' W.heap.size a L ∧ Below W.heap.size W w' := by
  obtain ⟨F, h1, _⟩ := h.st
  exact list h1
end
theorem drop_add {k : Ky} {L : List Ky} (t : Tbl L) (hk : k ∈ L) : addE k (dropL k L) = 0 ∧ addL k (dropL k L) = L ∧ dropE k L = 0 ∧ k ∉ dropL k L ∧ (dropL k L).length + 1 = L.length := by
  obtain ⟨h1, h2⟩ := t.key k hk
  have hn : k ∉ dropL k L := by rw [mem_dropL]; simp
  have hl := len_dropL (rsg_nodup t.rsg) hk
  have e0 : addE k (dropL k L) = 0 := addE_0.2 ⟨h1, h2, hn, by have := t.len; omega⟩
  refine ⟨e0, ?_, if_pos hk, hn, hl⟩
  have tD : Tbl (addL k (dropL k L)) := (t.drop k).add k
  rw [addL_yes e0] at tD ⊢
  refine rsg_ext tD.rsg t.rsg fun x => ?_
  rw [mem_ins, mem_dropL]
  by_cases e : x = k
  · subst e; simp [hk]
  · simp [e]

end Go.Proofs.Ytpbbamoeaalolaa.Wg
