/-
  How a table of grants lies in memory: the code's by its pointer ('TbL': its map's keys are the grants), the document's by its own ('RfL': a rising list); what is kept from one world to the next ('Kept'); what a grant reads as, as a map's key ('kL'). Nothing is asked but what each fact names.
-/
import Derived.Test.YtpbbamoeaalolaaGtC
import Derived.Maps.RangeWalk
import Derived.Maps.OwnSet
import Derived.Maps.Ext
import Derived.DeepKeys4
import Derived.WideKeyArgs2
namespace Go.Proofs.Ytpbbamoeaalolaa.Wg
open Go.ChangeShapes Go.WideShapes Go.ChangeAt Go.RowKit Go.Proofs.Ytpbbamoeaalolaa.M Go.Maps

/-- Outside F nothing that was there has turned. -/
structure Kept (F : Nat → Prop) (w w' : World) : Prop where
  os : w'.os = w.os
  tape : w'.tape = w.tape
  output : w'.output = w.output
  size : w.heap.size ≤ w'.heap.size
  block : ∀ k, k < w.heap.size → ¬ F k → w'.heap[k]? = w.heap[k]?
/-- F, and what was made since. -/
def Gr (F : Nat → Prop) (w w' : World) : Nat → Prop := fun b => F b ∨ (w.heap.size ≤ b ∧ b < w'.heap.size)

theorem Kept.refl (F : Nat → Prop) (w : World) : Kept F w w := ⟨rfl, rfl, rfl, Nat.le_refl _, fun _ _ _ => rfl⟩
theorem Kept.trans {F : Nat → Prop} {a b c : World} (h : Kept F a b) (k : Kept (Gr F a b) b c) : Kept F a c :=
  ⟨k.os.trans h.os, k.tape.trans h.tape, k.output.trans h.output, Nat.le_trans h.size k.size, fun i hi hF =>
    (k.block i (Nat.lt_of_lt_of_le hi h.size) (fun e => e.elim hF fun e => by omega)).trans (h.block i hi hF)⟩
theorem Kept.mono {F G : Nat → Prop} {a b : World} (h : Kept F a b) (hG : ∀ i, i < a.heap.size → F i → G i) : Kept G a b :=
  ⟨h.os, h.tape, h.output, h.size, fun i hi hn => h.block i hi fun e => hn (hG i hi e)⟩
theorem Gr.trans {F : Nat → Prop} {a b c : World} (h1 : a.heap.size ≤ b.heap.size) (h2 : b.heap.size ≤ c.heap.size) : Gr (Gr F a b) b c = Gr F a c := by
  funext i
  apply propext
  unfold Gr
  constructor
  · rintro ((h | h) | h)
    · exact .inl h
    · exact .inr (by omega)
    · exact .inr (by omega)
  · rintro (h | h)
    · exact .inl (.inl h)
    · by_cases c : i < b.heap.size
      · exact .inl (.inr (by omega))
      · exact .inr (by omega)
theorem Gr.self (F : Nat → Prop) (a : World) : Gr F a a = F := by
  funext i
  apply propext
  unfold Gr
  constructor
  · rintro (h | h)
    · exact h
    · omega
  · exact .inl
theorem Kept.of_below {F : Nat → Prop} {w w' : World} (h : Below w.heap.size w w') : Kept F w w' := ⟨h.os, h.tape, h.output, h.size, fun k hk _ => h.block k hk⟩
theorem Kept.below {F : Nat → Prop} {w w' : World} {B : Nat} (h : Kept F w w') (hB : B ≤ w.heap.size) (hF : ∀ i, F i → B ≤ i) : Below B w w' :=
  ⟨h.os, h.tape, h.output, h.size, fun k hk => h.block k (by omega) fun e => by have := hF k e; omega⟩
theorem Kept.alloc (F : Nat → Prop) (w : World) (o : Obj) : Kept F w (w.alloc o) := .of_below ((Below.refl _ _).alloc (Nat.le_refl _) o)
theorem Kept.drew {F : Nat → Prop} {w w' : World} (h : Kept F w w') : Kept F w w'.drew := ⟨h.os, h.tape, h.output, h.size, h.block⟩
theorem Kept.setCell {F : Nat → Prop} {w w' : World} (h : Kept F w w') {p : Addr} (hp : F p.block) (u : Value) : Kept F w (w'.setCell p u) :=
  ⟨h.os, h.tape, h.output, by simpa [World.setCell] using h.size, fun k hk hF => (Below.heap_setCell _ _ _ _ (fun e => hF (by rw [e]; exact hp))).trans (h.block k hk hF)⟩
theorem Kept.cell {F : Nat → Prop} {w w' : World} (h : Kept F w w') {p : Addr} (hp : p.block < w.heap.size) (hF : ¬ F p.block) : w'.cell? p = w.cell? p := World.cell?_of_block (w := w) (h.block p.block hp hF)

/-- A block's contents behind a store. -/
theorem blk_set {w : World} {g : Nat} {l : List Value} {t : TypeId} (h : w.heap[g]? = some (.cells l.toArray t (0, 0))) (i : Nat) (v : Value) : (w.setCell ⟨g, i, none⟩ v).heap[g]? = some (.cells (l.set i v).toArray t (0, 0)) := by
  simp only [World.setCell, Array.getElem?_modify]
  rw [if_pos trivial, h]
  simp
theorem blk_row {w : World} {g : Nat} {l : Array Value} {t : TypeId} (h : w.heap[g]? = some (.cells l t (0, 0))) (c : Array Value) : (w.setRow g c).heap[g]? = some (.cells c t (0, 0)) := by
  simp only [World.setRow, Array.getElem?_modify]
  rw [if_pos trivial, h]
  rfl
theorem blk_other {w : World} {g k : Nat} (h : k ≠ g) (c : Array Value) : (w.setRow g c).heap[k]? = w.heap[k]? := by
  simp only [World.setRow, Array.getElem?_modify]
  rw [if_neg (by omega)]
theorem blk_cell {w : World} {g : Nat} {l : List Value} {t : TypeId} (h : w.heap[g]? = some (.cells l.toArray t (0, 0))) {i : Nat} {v : Value} (hv : l[i]? = some v) : w.cell? ⟨g, i, none⟩ = some v := by
  simp [World.cell?, h, hv]
theorem blk_free {w : World} {g : Nat} {l : Array Value} {t : TypeId} (h : w.heap[g]? = some (.cells l t (0, 0))) (i : Nat) : w.frozen? ⟨g, i, none⟩ = false := by
  simp [World.frozen?, h]
theorem blk_lt {w : World} {g : Nat} {o : Obj} (h : w.heap[g]? = some o) : g < w.heap.size := (Array.getElem?_eq_some_iff.1 h).1


/-! ### keys -/
/-- What a grant reads as, as a map's key. -/
def kL (k : Ky) : Lit := .string (keyBytes [.int .i64 k.1, .string k.2.data.toList])
def kV (k : Ky) : Value := .agg #[.int .i64 k.1, .string k.2]
theorem laidOut : laidOutB Try.prog = true := by kernel_rfl
theorem keyT : Try.prog.keyType 38 = true := by kernel_rfl
theorem cellsG : Try.prog.cellsOf 38 = 2 := by kernel_rfl
theorem rowG : (38 : TypeId) < Try.prog.types.size := of_decide_eq_true (by kernel_rfl)
theorem wideG : (match Try.prog.underlying 38 with | some (.array _ _) | some (.struct _) => true | _ => false) = true := by kernel_rfl
set_option maxRecDepth 100000 in
theorem lawG : Keyed Try.prog 38 := Keyed.of_law (deep_law_laid laidOut (m := 3) (by omega) rowG (by kernel_rfl) wideG)
theorem cIg : Try.prog.cellsOf 3 = 1 := by kernel_rfl
theorem cSg : Try.prog.cellsOf 9 = 1 := by kernel_rfl
theorem wfI {x : Int} (h : -9223372036854775808 ≤ x ∧ x < 9223372036854775808) : (Lit.int .i64 x).wf = true := by
  simp [Lit.wf, IntKind.min, IntKind.max, IntKind.bits, IntKind.signed]
  omega
section
variable {P : Program} {k : TypeId} {f0 f1 : Field} (hu : P.underlying k = some (.struct #[f0, f1])) (hk : P.keyType k = true) (hc : P.cellsOf k = 2) (u0 : P.underlying f0.type = some (.int .i64)) (u1 : P.underlying f1.type = some .string)
  (c0 : P.cellsOf f0.type = 1) (c1 : P.cellsOf f1.type = 1) (o0 : f0.offset = 0) (o1 : f1.offset = 1) (n0 : (f0.name != "_") = true) (n1 : (f1.name != "_") = true) {m : Nat} (hm : P.types.size = m + 1)
include hu hk hc u0 u1 c0 c1 o0 o1 n0 n1 hm
theorem keyOf_two (x : Int) (s : ByteArray) (hx : (Lit.int .i64 x).wf = true) (hs : s.size ≤ maxLen) : keyOf P k (.agg #[.int .i64 x, .string s]) = some (.string (keyBytes [.int .i64 x, .string s.data.toList])) := by
  unfold keyOf
  rw [hu]
  simp [hk, Value.formed, hu, hc, Value.cells, hm, Program.keyLits, u0, u1, c0, c1, o0, o1, n0, n1, hx, hs]
theorem keyOf_two_inv {v : Value} {l : Lit} (h : keyOf P k v = some l) : ∃ (x : Int) (s : ByteArray), v = .agg #[.int .i64 x, .string s] ∧ (Lit.int .i64 x).wf = true ∧ s.size ≤ maxLen ∧ l = .string (keyBytes [.int .i64 x, .string s.data.toList]) := by
  have _ := hk
  unfold keyOf at h
  rw [hu] at h
  cases v <;> simp [Value.formed, hu] at h
  rename_i cs
  obtain ⟨⟨_, hsz⟩, ls, hls, rfl⟩ := h
  rw [hc] at hsz
  have hl2 : cs.toList.length = 2 := by simpa using hsz
  obtain ⟨v0, v1, he⟩ := list2 hl2
  have he' : cs = #[v0, v1] := by rw [← Array.toArray_toList (xs := cs), he]
  subst he'
  simp [Value.cells, hm, Program.keyLits, hu, u0, u1, c0, c1, o0, o1, n0, n1, hc] at hls
  cases v0 <;> simp at hls
  rename_i q x
  by_cases c0 : q = .i64 ∧ (Lit.int .i64 x).wf = true
  · rw [if_pos c0] at hls
    obtain ⟨rfl, hw⟩ := c0
    cases v1 <;> simp at hls
    rename_i s
    by_cases c1 : s.size ≤ maxLen
    · rw [if_pos c1] at hls
      simp at hls
      subst hls
      exact ⟨x, s, rfl, hw, c1, rfl⟩
    · rw [if_neg c1] at hls
      simp at hls
  · rw [if_neg c0] at hls
    simp at hls
end
theorem szG : ∃ m, Try.prog.types.size = m + 1 := by
  have h : 0 < Try.prog.types.size := Nat.lt_of_le_of_lt (Nat.zero_le _) rowG
  generalize Try.prog.types.size = n at h
  exact ⟨n - 1, by omega⟩
theorem keyOf_mk {k : Ky} (h : KOk k) : keyOf Try.prog 38 (kV k) = some (kL k) := by
  obtain ⟨m, hm⟩ := szG
  exact keyOf_two Try.underlying38 keyT cellsG Try.underlying3 Try.underlying9 cIg cSg rfl rfl rfl rfl hm _ _ (wfI h.c) h.f
theorem keyOf_inv {v : Value} {l : Lit} (h : keyOf Try.prog 38 v = some l) : ∃ k, v = kV k ∧ KOk k ∧ l = kL k := by
  obtain ⟨m, hm⟩ := szG
  obtain ⟨x, s, rfl, hw, hs, rfl⟩ := keyOf_two_inv Try.underlying38 keyT cellsG Try.underlying3 Try.underlying9 cIg cSg rfl rfl rfl rfl hm h
  exact ⟨(x, s), rfl, ⟨wf_i64 hw, hs⟩, rfl⟩
theorem kL_inj {j k : Ky} (hj : KOk j) (hk : KOk k) (h : kL j = kL k) : j = k := by
  have := lawG.inj (keyOf_mk hj) (h ▸ keyOf_mk hk)
  unfold kV at this
  injection this with e
  have e' := congrArg Array.toList e
  simp only [List.cons.injEq, Value.int.injEq, Value.string.injEq, true_and, and_true] at e'
  exact Prod.ext e'.1 e'.2
theorem kL_key (k : Ky) : WideAt.IsKeyLit (kL k) := trivial

theorem len_dropL {k : Ky} : ∀ {L : List Ky}, L.Nodup → k ∈ L → (dropL k L).length + 1 = L.length
  | [], _, h => by simp at h
  | x :: r, hn, h => by
    obtain ⟨h1, h2⟩ := List.nodup_cons.1 hn
    by_cases e : x = k
    · subst e
      have : dropL x (x :: r) = r := by
        unfold dropL
        rw [List.filter_cons, if_neg (by simp)]
        exact dropL_none h1
      rw [this]
      rfl
    · have hr : k ∈ r := by
        rcases List.mem_cons.1 h with h | h
        · exact absurd h.symm e
        · exact h
      have : dropL k (x :: r) = x :: dropL k r := by
        unfold dropL
        rw [List.filter_cons, if_pos (by simp [e])]
      rw [this, List.length_cons, len_dropL h2 hr]
      rfl

/-- Just these grants are the map's keys. -/
structure Ts (D : DataW Unit) (L : List Ky) : Prop where
  has : ∀ k, KOk k → Maps.has D (kL k) = decide (k ∈ L)
  size : Maps.size D = L.length
theorem Tbl.ok {L : List Ky} (h : Tbl L) {k : Ky} (hk : k ∈ L) : KOk k := by
  obtain ⟨h1, h2⟩ := h.key k hk
  have := (nmd_iff.1 h2).2.1
  exact ⟨by omega, by unfold maxLen; omega⟩
theorem ts_nil : Ts (.map []) [] := ⟨fun _ _ => rfl, rfl⟩
theorem Ts.add {D : DataW Unit} {L : List Ky} (h : Ts D L) (t : Tidy D) {k : Ky} (hk : KOk k) (hn : k ∉ L) (d : DataW Unit) : Ts (D.put (kL k) d) (ins k L) where
  has j hj := by
    by_cases e : j = k
    · subst e
      rw [has_put_same t.isMap (kL_key j), decide_eq_true (mem_ins.2 (.inl rfl))]
    · rw [has_put_other (fun e' => e (kL_inj hj hk e')), h.has j hj]
      refine decide_eq_decide.2 ?_
      rw [mem_ins]
      simp [e]
  size := by
    have h0 := h.has k hk
    rw [decide_eq_false hn] at h0
    rw [size_put t, h0, length_ins, h.size]
    simp
theorem Ts.drop {D : DataW Unit} {L : List Ky} (h : Ts D L) (t : Tidy D) (hL : L.Nodup) {k : Ky} (hk : KOk k) (hn : k ∈ L) : Ts (D.del (kL k)) (dropL k L) where
  has j hj := by
    by_cases e : j = k
    · subst e
      rw [has_del_same, decide_eq_false (by rw [mem_dropL]; simp)]
    · rw [has_del_other (fun e' => e (kL_inj hj hk e')), h.has j hj]
      refine decide_eq_decide.2 ?_
      rw [mem_dropL]
      simp [e]
  size := by
    have h0 := h.has k hk
    rw [decide_eq_true hn] at h0
    have := size_del (k := kL k) t
    rw [h0, if_pos rfl, h.size, ← len_dropL hL hn] at this
    omega

/-- The code's table. -/
structure TbL (w : World) (s : Nat) (F : Nat → Prop) (L : List Ky) : Prop where
  t : Tbl L
  fs : F s
  rep : (w.heap[s]? = some (Obj.cells #[.map none] 64 (0, 0)) ∧ L = []) ∨
    (∃ b D, w.heap[s]? = some (Obj.cells #[.map (some b)] 64 (0, 0)) ∧ F b ∧ w.ownsMap (H := Unit) Try.prog 38 unitElem b L.length D ∧ Ts D L)

theorem own_at {w w' : World} {b n : Nat} {D : DataW Unit} (h : w.ownsMap (H := Unit) Try.prog 38 unitElem b n D) (e : w'.heap[b]? = w.heap[b]?) : w'.ownsMap (H := Unit) Try.prog 38 unitElem b n D := by
  obtain ⟨es, clock, hb, r⟩ := h
  exact ⟨es, clock, e.trans hb, r⟩
theorem own_tight {w : World} {b n : Nat} {D : DataW Unit} (h : w.ownsMap (H := Unit) Try.prog 38 unitElem b n D) : w.ownsMap (H := Unit) Try.prog 38 unitElem b (Maps.size D) D := by
  obtain ⟨es, clock, hb, F, hs, rfl⟩ := h
  exact ⟨es, clock, hb, F, by simp [Maps.size, length_sorted], rfl⟩
theorem TbL.lt {w : World} {s : Nat} {F : Nat → Prop} {L : List Ky} (h : TbL w s F L) : s < w.heap.size := by
  rcases h.rep with ⟨h1, _⟩ | ⟨b, D, h1, _⟩
  · exact blk_lt h1
  · exact blk_lt h1
theorem TbL.kept {w w' : World} {s : Nat} {F G : Nat → Prop} {L : List Ky} (h : TbL w s F L) (k : Kept G w w') (hd : ∀ i, F i → ¬ G i) : TbL w' s F L := by
  refine ⟨h.t, h.fs, ?_⟩
  have e := k.block s h.lt (hd s h.fs)
  rcases h.rep with ⟨h1, h2⟩ | ⟨b, D, h1, h2, h3, h4⟩
  · exact .inl ⟨e.trans h1, h2⟩
  · exact .inr ⟨b, D, e.trans h1, h2, own_at h3 (k.block b h3.lt (hd b h2)), h4⟩
theorem TbL.below {w w' : World} {s : Nat} {F : Nat → Prop} {L : List Ky} (h : TbL w s F L) (b : Below w.heap.size w w') : TbL w' s F L := h.kept (G := fun _ => False) (.of_below b) fun _ _ e => e
theorem TbL.mono {w : World} {s : Nat} {F G : Nat → Prop} {L : List Ky} (h : TbL w s F L) (hG : ∀ i, F i → G i) : TbL w s G L := by
  refine ⟨h.t, hG _ h.fs, ?_⟩
  rcases h.rep with h1 | ⟨b, D, h1, h2, h3⟩
  · exact .inl h1
  · exact .inr ⟨b, D, h1, hG _ h2, h3⟩

theorem zero0 (w : World) : (zeroValue 65).run Try.prog w = .ok (.agg #[]) w := by kernel_rfl
theorem look_any {w W : World} {b n : Nat} {D : DataW Unit} (h : w.ownsMap (H := Unit) Try.prog 38 unitElem b n D) (e : W.heap[b]? = w.heap[b]?) {k : Ky} (hk : KOk k) :
    (Instr.lookup 62 (.map (some b)) (.agg #[.int .i64 k.1, .string k.2]) true).run Try.prog W = .ok (.tuple #[.agg #[], .bool (Maps.has D (kL k))]) W := by
  obtain ⟨v, ps, h1, h2⟩ := (own_at h e).look_ok lawG Try.underlying62 (zero0 W) (unitElem_mk (H := Unit)) (keyOf_mk hk)
  obtain ⟨rfl, _⟩ := unitElem_inv h2
  exact h1
theorem look_nil' (W : World) {k : Ky} (hk : KOk k) :
    (Instr.lookup 62 (.map none) (.agg #[.int .i64 k.1, .string k.2]) true).run Try.prog W = .ok (.tuple #[.agg #[], .bool false]) W :=
  Maps.look_nil true lawG Try.underlying62 (zero0 W) (keyOf_mk hk)

end Go.Proofs.Ytpbbamoeaalolaa.Wg
