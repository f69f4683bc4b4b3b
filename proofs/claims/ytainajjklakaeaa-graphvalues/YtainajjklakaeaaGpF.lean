/-
  The walk of the laws' own 'flows': the program's and the document's workflow, of a law's first 20 nodes, of each its first 20 Deps, in new memory. Nothing that was in memory has turned. Conditions: the law's workflow can be read.
-/
import Derived.Test.YtainajjklakaeaaGpV
import Derived.Test.YtainajjklakaeaaLate
import Derived.Deep.AppendLies
import Derived.Deep.DeepCutAuto
import Derived.Lib.MinMax
import Derived.Laws.AppendOwnNone
namespace Go.Proofs.Ytainajjklakaeaa.Wgf
open Go.ChangeShapes Go.WideShapes Go.ChangeAt Go.RowKit Go.Proofs.Ytainajjklakaeaa.M Go.Proofs.Ytainajjklakaeaa.Wgp Go.Proofs.Ytainajjklakaeaa.Wgv

theorem hid {p : Prop} (h : p) : Hid p := h
theorem wpList_append_any {P : Program} (w : World) {ops : Array Oper} {rest : List Oper} {o : Oper} {a : Act} {Q : Exit → Act → World → Prop} (hgd : o.guard = none) (s x : Operand) (t : TypeId)
    (ho : o.op = .call { callee := .builtin .append, args := #[s, x], argTypes := #[t, t] })
    (base : Nat) (e : TypeId) (i : TypeInfo) (z : Value) (size bytes : Nat) (ht : P.underlying t = some (.slice e)) (hi : P.info? e = some i) (hz : i.zero = some z)
    (hsize : i.size = size) (hby : i.bytes = bytes) (hzs : z.cells.size = size) (hsz : 0 < size)
    (v : Value) (n : Nat) (xs : List Value) (hs : a.eval s = v) (hown : w.ownsRow base e size v n xs)
    (ad : Option Addr) (m c : Nat) (news : List Value) (hx : a.eval x = .slice ad m c) (hnone : ad = none → m = 0 ∧ c = 0) (hl : news.length = m * size) (hnews : ∀ b, ad = some b → ∀ j u, news[j]? = some u → w.cell? (b.add j) = some u) (h1 : ∀ u ∈ news, u.oneCell' = true)
    (h63 : n + m ≤ maxLen) (hbytes : (n + m) * bytes ≤ 140737488355328) (hbase : base ≤ w.heap.size)
    (h : ∀ v' w', w'.ownsRow base e size v' (n + m) (xs ++ news) → w.grownBy w' v.ownBlock → wpList P ops Q rest (a.put o.dst v') w') : wpList P ops Q (o :: rest) a w := by
  cases ad with
  | none =>
    obtain ⟨h2, h3⟩ := hnone rfl
    subst h2 h3
    have hn : news = [] := List.length_eq_zero_iff.1 (by omega)
    subst hn
    refine wpList_append_own_none (w := w) hgd s x t ho base e i size ht hi v n xs hs hown hx (h v w (by simpa using hown) ⟨rfl, rfl, rfl, Nat.le_refl _, fun _ _ _ => rfl⟩)
  | some b => exact wpList_append_own (w := w) hgd s x t ho base e i z size bytes ht hi hz hsize hby hzs hsz v n xs hs hown b m c news hx hl (hnews b rfl) h1 h63 hbytes hbase (fun v' w' h2 h3 _ => h v' w' h2 h3)

theorem infoS : (Try.prog.info? 9).map (fun i => (i.zero, i.size, i.bytes)) = some (some (.string ⟨#[]⟩), 1, 16) := by kernel_rfl
theorem infoN : (Try.prog.info? 56).map (fun i => (i.zero, i.size, i.bytes)) = some (some (.agg #[.string ⟨#[]⟩, .slice none 0 0, .int .i64 0, .int .i64 0, .int .i64 0, .string ⟨#[]⟩]), 6, 80) := by kernel_rfl
theorem infoR : (Try.prog.info? 57).map (fun i => (i.zero, i.size, i.bytes)) = some (some (.agg #[.string ⟨#[]⟩, .slice none 0 0, .int .i64 0, .int .i64 0, .int .i64 0, .string ⟨#[]⟩]), 6, 80) := by kernel_rfl

/-- The first 20 Deps of a node; the first 20 nodes. -/
def cutN (x : Nd) : Nd := ⟨x.name, x.deps.take 20, x.tries, x.lease, x.tenant, x.flow⟩
def cutL (L : List Nd) : List Nd := (L.take 20).map cutN
theorem cut_ok {L : List Nd} (h : ∀ x ∈ L, VOk x) : ∀ y ∈ cutL L, NdOk y := fun y hy => by
  unfold cutL at hy
  obtain ⟨x, hx, rfl⟩ := List.mem_map.1 hy
  obtain ⟨h1, h2, h3, h4, h5, h6⟩ := h x (List.mem_of_mem_take hx)
  exact ⟨h1, h2, fun s hs => h3 s (List.mem_of_mem_take hs), by show (x.deps.take 20).length ≤ 400; rw [List.length_take]; omega, h4, h5, h6⟩
theorem cut_len (L : List Nd) : (cutL L).length ≤ 20 := by unfold cutL; rw [List.length_map, List.length_take]; omega
/-- What flows gives. -/
def FlP (w w' : World) (nm : ByteArray) (M : List Nd) (e : Ending) : Prop := ∃ (q1 q2 : Option Addr) (d1 d2 : Nat),
  e = .returned (.tuple #[.agg #[.string nm, .slice q1 M.length d1], .agg #[.string nm, .slice q2 M.length d2]]) ∧ Ns w' q1 M ∧ Ns w' q2 M ∧ M.length ≤ d1 ∧ M.length ≤ d2 ∧ Below w.heap.size w w'

theorem own_ss {w : World} {base e n : Nat} {v : Value} {l : List ByteArray} {xs : List Value} (h : w.ownsRow base e 1 v n xs) (hn : n = l.length) (hx : xs = l.map Value.string) :
    ∃ a cap, v = .slice a l.length cap ∧ l.length ≤ cap ∧ cap ≤ 9223372036854775807 ∧ (l = [] ∨ ∃ g, a = some ⟨g, 0, none⟩ ∧ base ≤ g ∧ g < w.heap.size ∧ ∀ (i : Nat) s, l[i]? = some s → w.cell? ⟨g, i, none⟩ = some (.string s)) := by
  subst hn hx
  rcases h.2 with ⟨rfl, hn⟩ | ⟨g, cap, cur, rfl, hb, hg, hc, hm, hs, ht⟩
  · rw [hn]
    exact ⟨none, 0, rfl, Nat.le_refl _, by omega, .inl (List.length_eq_zero_iff.1 hn)⟩
  · refine ⟨_, cap, rfl, hc, hm, .inr ⟨g, rfl, hb, lt_of_heap hg, fun i s hs => ?_⟩⟩
    have hi := (List.getElem?_eq_some_iff.1 hs).1
    rw [h.cellAt i (by omega), List.getElem?_map, hs]
    rfl
theorem lw_news {W : World} {da : Option Addr} {l : List ByteArray} (h : Lw W da l) : ∀ b, da = some b → ∀ j u, ((l.take 20).map Value.string)[j]? = some u → W.cell? (b.add j) = some u := fun b hb j u hu => by
  rcases h with h | ⟨g, off, h1, h2, h3⟩
  · rw [h] at hu; simp at hu
  · rw [h1] at hb
    injection hb with hb
    subst hb
    rw [add_none]
    rw [List.getElem?_map] at hu
    rcases e : (l.take 20)[j]? with _ | s
    · rw [e] at hu; cases hu
    · rw [e] at hu
      injection hu with hu
      rw [List.getElem?_take] at e
      split at e
      · rw [← hu]; exact h3 j s e
      · cases e

/-- What else lies there: the law's workflow, the two results' places. -/
def EV (a : Option Addr) (n c : Nat) (nm : ByteArray) (w wr : World) : Prop := Below w.heap.size w wr ∧ w.heap.size + 5 ≤ wr.heap.size ∧ wr.heap[w.heap.size]? = some (.cells #[.string nm, .slice a n c] 24 (0, 0)) ∧
  wr.heap[w.heap.size + 1]? = some (.cells #[.string ⟨#[]⟩, .slice none 0 0] 28 (0, 0)) ∧ wr.heap[w.heap.size + 2]? = some (.cells #[.string ⟨#[]⟩, .slice none 0 0] 31 (0, 0))
theorem EV.grow {a : Option Addr} {n c : Nat} {nm : ByteArray} {w X Y : World} (h : EV a n c nm w X) (g : X.grownBy Y none) : EV a n c nm w Y := by
  obtain ⟨h1, h2, h3, h4, h5⟩ := h
  have hz := g.size
  exact ⟨h1.trans ((below_grown g).mono h1.size), by omega, (g.block _ (by omega) (by simp)).trans h3, (g.block _ (by omega) (by simp)).trans h4, (g.block _ (by omega) (by simp)).trans h5⟩
theorem EV.far {a : Option Addr} {n c ba bb : Nat} {nm : ByteArray} {w X Y Z : World} {S : Nat → Prop} (h : EV a n c nm w X) (hF : Far (w.heap.size + 5) S X Y) (g8 : w.heap.size + 3 ≤ ba) (g9 : w.heap.size + 3 ≤ bb) (hz : Z.heap.size = Y.heap.size) (ho : Z.os = Y.os) (ht : Z.tape = Y.tape) (hu : Z.output = Y.output) (hj : ∀ j, j ≠ ba → j ≠ bb → Z.heap[j]? = Y.heap[j]?) : EV a n c nm w Z := by
  obtain ⟨h1, h2, h3, h4, h5⟩ := h
  have hs := hF.size
  have key : ∀ j, j < w.heap.size + 3 → Z.heap[j]? = X.heap[j]? := fun j hj' => (hj j (by omega) (by omega)).trans (hF.stay j (by omega) (.inl (by omega)))
  exact ⟨⟨(ho.trans hF.os).trans h1.os, (ht.trans hF.tape).trans h1.tape, (hu.trans hF.output).trans h1.output, by omega, fun j hj1 => (key j (by omega)).trans (h1.block j hj1)⟩, by omega, (key _ (by omega)).trans h3, (key _ (by omega)).trans h4, (key _ (by omega)).trans h5⟩

/-- The two workflows under way: their heads in blocks ba and bb, their nodes in rows of their own. -/
def FL (base ba bb : Nat) (nm : ByteArray) (M : List Nd) (X : World) : Prop := ∃ (S : Nat → Prop) (q1 q2 : Option Addr) (d1 d2 : Nat) (xs : List Value),
  X.heap[ba]? = some (.cells #[.string nm, .slice q1 M.length d1] 28 (0, 0)) ∧ X.heap[bb]? = some (.cells #[.string nm, .slice q2 M.length d2] 31 (0, 0)) ∧
  Iv6 56 57 base S (.slice q1 M.length d1) (.slice q2 M.length d2) M.length M.length xs xs X ∧ NF X S M xs
theorem fl_nil {base ba bb : Nat} {nm : ByteArray} {X : World} (h8 : X.heap[ba]? = some (.cells #[.string nm, .slice none 0 0] 28 (0, 0))) (h9 : X.heap[bb]? = some (.cells #[.string nm, .slice none 0 0] 31 (0, 0))) (hb : base ≤ X.heap.size) : FL base ba bb nm [] X :=
  ⟨fun _ => False, none, none, 0, 0, [], h8, h9, ⟨World.ownsRow_nil _ _ _ _, World.ownsRow_nil _ _ _ _, .inl rfl, fun _ h => h.elim, hb⟩, rfl⟩

/-- Behind the node's own variable, and its Deps' new row. -/
theorem mid {a : Option Addr} {n c ba bb : Nat} {nm s0 fl0 : ByteArray} {t0 l0 e0 : Int} {D0 : Value} {w wr w4 X : World} {M : List Nd} {ds : List ByteArray} {ea : Option Addr} {ec : Nat} (hE : EV a n c nm w wr) (hF : FL (w.heap.size + 5) ba bb nm M wr)
    (g4 : (wr.alloc (.cells #[.string s0, D0, .int .i64 t0, .int .i64 l0, .int .i64 e0, .string fl0] 55)).grownBy w4 none)
    (hd : ds = [] ∨ ∃ g, ea = some ⟨g, 0, none⟩ ∧ wr.heap.size + 1 ≤ g ∧ g < w4.heap.size ∧ ∀ (i : Nat) s, ds[i]? = some s → w4.cell? ⟨g, i, none⟩ = some (.string s)) (h1 : ds.length ≤ ec) (h2 : ec ≤ 9223372036854775807)
    (hX : X = w4.setCell ⟨wr.heap.size, 1, none⟩ (.slice ea ds.length ec)) :
    EV a n c nm w X ∧ ∃ (S : Nat → Prop) (q1 q2 : Option Addr) (d1 d2 : Nat) (xs : List Value),
      X.heap[ba]? = some (.cells #[.string nm, .slice q1 M.length d1] 28 (0, 0)) ∧ X.heap[bb]? = some (.cells #[.string nm, .slice q2 M.length d2] 31 (0, 0)) ∧
      Iv6 56 57 (w.heap.size + 5) S (.slice q1 M.length d1) (.slice q2 M.length d2) M.length M.length xs xs X ∧ NF X S M xs ∧ DpS X S ⟨s0, ds, t0, l0, e0, fl0⟩ ea ec ∧
      X.heap[wr.heap.size]? = some (.cells #[.string s0, .slice ea ds.length ec, .int .i64 t0, .int .i64 l0, .int .i64 e0, .string fl0] 55 (0, 0)) ∧ S wr.heap.size ∧ wr.heap.size < X.heap.size := by
  have z4 := g4.size
  rw [World.size_alloc] at z4
  have hz : X.heap.size = w4.heap.size := by rw [hX]; simp [World.setCell]
  have ho : ∀ j, j ≠ wr.heap.size → X.heap[j]? = w4.heap[j]? := fun j hj => by rw [hX]; exact Below.heap_setCell _ _ _ _ hj
  have hn := (g4.block wr.heap.size (by simp) (by simp)).trans (heap_alloc_new wr _)
  have gX : wr.grownBy X none := by
    refine ⟨?_, ?_, ?_, by omega, fun j hj _ => (ho j (by omega)).trans ((g4.block j (by simp; omega) (by simp)).trans (Below.heap_alloc _ _ _ hj))⟩
    · rw [hX]; exact g4.os
    · rw [hX]; exact g4.tape
    · rw [hX]; exact g4.output
  obtain ⟨S, q1, q2, d1, d2, xs, a1, a2, hI, hN⟩ := hF
  have hh := hI.here
  refine ⟨hE.grow gX, fun g => S g ∨ (wr.heap.size ≤ g ∧ g < X.heap.size), q1, q2, d1, d2, xs, (gX.block ba (lt_of_heap a1) (by simp)).trans a1, (gX.block bb (lt_of_heap a2) (by simp)).trans a2, ?_, ?_, ⟨h1, h2, ?_⟩, ?_, .inr ⟨Nat.le_refl _, by omega⟩, by omega⟩
  · have hI' := hI.grow gX
    refine ⟨hI'.own1, hI'.own2, hI'.apart, ?_, hI'.here⟩
    rintro x (hx | ⟨hx1, hx2⟩)
    · exact hI'.kids x hx
    · refine ⟨by omega, hx2, ?_, ?_⟩
      · intro e; have := (hI.own1.lt x e).2; omega
      · intro e; have := (hI.own2.lt x e).2; omega
  · exact hN.far (fun g h => .inl h) gX.size (fun g _ hl => gX.block g hl (by simp))
  · rcases hd with hd | ⟨g, k1, k2, k3, k4⟩
    · exact .inl hd
    · exact .inr ⟨g, k1, .inr ⟨by omega, by omega⟩, by omega, fun i s hs => (World.cell?_of_block (a := ⟨g, i, none⟩) (ho g (by omega))).trans (k4 i s hs)⟩
  · rw [hX, heap_set1 hn 1 _]
    simp

/-- Behind the two appends, and the stores of what they gave. -/
theorem fl_end {base ba bb : Nat} {nm : ByteArray} {M : List Nd} {y : Nd} {S : Nat → Prop} {q1 q2 ea : Option Addr} {d1 d2 g1 g2 t1 t2 ec : Nat} {xs : List Value} {X Y : World} (l8 : ba < base) (l9 : bb < base) (h89 : ba ≠ bb)
    (a1 : X.heap[ba]? = some (.cells #[.string nm, .slice q1 M.length d1] 28 (0, 0))) (a2 : X.heap[bb]? = some (.cells #[.string nm, .slice q2 M.length d2] 31 (0, 0)))
    (hN : NF X S M xs) (hD : DpS X S y ea ec) (hF : Far base S X Y)
    (hI : Iv6 56 57 base S (.slice (some ⟨g1, 0, none⟩) (M.length + 1) t1) (.slice (some ⟨g2, 0, none⟩) (M.length + 1) t2) (M.length + 1) (M.length + 1) (xs ++ [.string y.name, .slice ea y.deps.length ec, .int .i64 y.tries, .int .i64 y.lease, .int .i64 y.tenant, .string y.flow]) (xs ++ [.string y.name, .slice ea y.deps.length ec, .int .i64 y.tries, .int .i64 y.lease, .int .i64 y.tenant, .string y.flow]) Y) :
    FL base ba bb nm (M ++ [y]) ((Y.setCell ⟨ba, 1, none⟩ (.slice (some ⟨g1, 0, none⟩) (M.length + 1) t1)).setCell ⟨bb, 1, none⟩ (.slice (some ⟨g2, 0, none⟩) (M.length + 1) t2)) ∧
    (∀ j, j ≠ ba → j ≠ bb → ((Y.setCell ⟨ba, 1, none⟩ (.slice (some ⟨g1, 0, none⟩) (M.length + 1) t1)).setCell ⟨bb, 1, none⟩ (.slice (some ⟨g2, 0, none⟩) (M.length + 1) t2)).heap[j]? = Y.heap[j]?) := by
  have y8 := (hF.stay ba (lt_of_heap a1) (.inl l8)).trans a1
  have y9 := (hF.stay bb (lt_of_heap a2) (.inl l9)).trans a2
  have z8 := heap_set1 y8 1 (.slice (some ⟨g1, 0, none⟩) (M.length + 1) t1)
  have z9 := heap_set1 ((Below.heap_setCell Y ⟨ba, 1, none⟩ (.slice (some ⟨g1, 0, none⟩) (M.length + 1) t1) bb (fun e => h89 e.symm)).trans y9) 1 (.slice (some ⟨g2, 0, none⟩) (M.length + 1) t2)
  have hoth : ∀ j, j ≠ ba → j ≠ bb → ((Y.setCell ⟨ba, 1, none⟩ (.slice (some ⟨g1, 0, none⟩) (M.length + 1) t1)).setCell ⟨bb, 1, none⟩ (.slice (some ⟨g2, 0, none⟩) (M.length + 1) t2)).heap[j]? = Y.heap[j]? := fun j hj1 hj2 => (Below.heap_setCell _ _ _ _ hj2).trans (Below.heap_setCell _ _ _ _ hj1)
  have hsz : ((Y.setCell ⟨ba, 1, none⟩ (.slice (some ⟨g1, 0, none⟩) (M.length + 1) t1)).setCell ⟨bb, 1, none⟩ (.slice (some ⟨g2, 0, none⟩) (M.length + 1) t2)).heap.size = Y.heap.size := by simp [World.setCell]
  have hlen : (M ++ [y]).length = M.length + 1 := by simp
  generalize hZ : (Y.setCell ⟨ba, 1, none⟩ (.slice (some ⟨g1, 0, none⟩) (M.length + 1) t1)).setCell ⟨bb, 1, none⟩ (.slice (some ⟨g2, 0, none⟩) (M.length + 1) t2) = Z at *
  have hkid : ∀ g, S g → g < X.heap.size → Z.heap[g]? = X.heap[g]? := fun g hg hl => (hoth g (by have := (hI.kids g hg).1; omega) (by have := (hI.kids g hg).1; omega)).trans (hF.stay g hl (.inr hg))
  have own : ∀ {e : TypeId} {v : Value} {n : Nat} {xs : List Value}, Y.ownsRow base e 6 v n xs → Z.ownsRow base e 6 v n xs := by
    intro e v n xs h
    refine ⟨h.1, ?_⟩
    rcases h.2 with h2 | ⟨gg, cap, cur, h1, h2, h3, h4⟩
    · exact .inl h2
    · exact .inr ⟨gg, cap, cur, h1, h2, (hoth gg (by omega) (by omega)).trans h3, h4⟩
  have hfs := hF.size
  refine ⟨⟨S, some ⟨g1, 0, none⟩, some ⟨g2, 0, none⟩, t1, t2, xs ++ [.string y.name, .slice ea y.deps.length ec, .int .i64 y.tries, .int .i64 y.lease, .int .i64 y.tenant, .string y.flow], ?_, ?_, ?_, ?_⟩, hoth⟩
  · rw [hlen, ← hZ, Below.heap_setCell _ _ _ _ h89, z8]
    simp
  · rw [hlen, z9]
    simp
  · rw [hlen]
    exact ⟨own hI.own1, own hI.own2, hI.apart, fun x hx => ⟨(hI.kids x hx).1, by rw [hsz]; exact (hI.kids x hx).2.1, (hI.kids x hx).2.2⟩, by rw [hsz]; exact hI.here⟩
  · exact NF.snoc (hD.far (fun _ h => h) (by omega) hkid) (hN.far (fun _ h => h) (by omega) hkid)

/-- Behind the results' stores. -/
theorem fin {a : Option Addr} {n c : Nat} {nm : ByteArray} {w wr Z : World} {M : List Nd} {S : Nat → Prop} {q1 q2 : Option Addr} {d1 d2 : Nat} {xs : List Value} (hE : EV a n c nm w wr)
    (hI : Iv6 56 57 (w.heap.size + 5) S (.slice q1 M.length d1) (.slice q2 M.length d2) M.length M.length xs xs wr) (hN : NF wr S M xs)
    (hj : ∀ j, j ≠ w.heap.size + 1 → j ≠ w.heap.size + 2 → Z.heap[j]? = wr.heap[j]?) (hz : Z.heap.size = wr.heap.size) (ho : Z.os = wr.os) (ht : Z.tape = wr.tape) (hu : Z.output = wr.output) :
    FlP w Z nm M (.returned (.tuple #[.agg #[.string nm, .slice q1 M.length d1], .agg #[.string nm, .slice q2 M.length d2]])) := by
  have own : ∀ {e : TypeId} {v : Value} {n : Nat} {xs : List Value}, wr.ownsRow (w.heap.size + 5) e 6 v n xs → Z.ownsRow (w.heap.size + 5) e 6 v n xs := by
    intro e v n xs h
    refine ⟨h.1, ?_⟩
    rcases h.2 with h2 | ⟨gg, cap, cur, h1, h2, h3, h4⟩
    · exact .inl h2
    · exact .inr ⟨gg, cap, cur, h1, h2, (hj gg (by omega) (by omega)).trans h3, h4⟩
  have hN' : NF Z S M xs := hN.far (fun _ h => h) (by omega) (fun g hg _ => hj g (by have := (hI.kids g hg).1; omega) (by have := (hI.kids g hg).1; omega))
  obtain ⟨n1, n2, _⟩ := ns_own (own hI.own1) hN'
  obtain ⟨n3, n4, _⟩ := ns_own (own hI.own2) hN'
  have h1 := hE.1
  exact ⟨q1, q2, d1, d2, rfl, n1, n3, n2, n4, ho.trans h1.os, ht.trans h1.tape, hu.trans h1.output, by have := h1.size; omega, fun j hj1 => (hj j (by omega) (by omega)).trans (h1.block j hj1)⟩

/-- The conditions on the world while the two appends are under way: what must stay till the second store; till the first; nothing. -/
def Sf (ba bb u : Nat) (L1 L2 c0 c1 c2 c3 c4 c5 : Value) : Nat → World → Prop
  | 0, w' => w'.cell? ⟨bb, 1, none⟩ = some L2 ∧ w'.cell? ⟨u, 0, none⟩ = some c0 ∧ w'.cell? ⟨u, 1, none⟩ = some c1 ∧ w'.cell? ⟨u, 2, none⟩ = some c2 ∧ w'.cell? ⟨u, 3, none⟩ = some c3 ∧ w'.cell? ⟨u, 4, none⟩ = some c4 ∧ w'.cell? ⟨u, 5, none⟩ = some c5
  | 1, w' => w'.cell? ⟨ba, 1, none⟩ = some L1
  | _, _ => True
/-- Which operation keeps which. -/
def keepsF (c j : Nat) : Bool := if c = 0 then j != 13 else if c = 1 then decide (j < 11) else true

section
variable {base : Nat} {S : Nat → Prop} {X Y : World} {ba bb u : Nat} {L1 L2 c0 c1 c2 c3 c4 c5 : Value}
theorem Sf.far (F : Far base S X Y) (h8 : ba < base) (h9 : bb < base) (su : S u) : ∀ c, Sf ba bb u L1 L2 c0 c1 c2 c3 c4 c5 c X → Sf ba bb u L1 L2 c0 c1 c2 c3 c4 c5 c Y
  | 0, ⟨q0, q1, q2, q3, q4, q5, q6⟩ => ⟨F.cell q0 (.inl h9), F.cell q1 (.inr su), F.cell q2 (.inr su), F.cell q3 (.inr su), F.cell q4 (.inr su), F.cell q5 (.inr su), F.cell q6 (.inr su)⟩
  | 1, h => Far.cell (k := ba) (j := 1) F h (.inl h8)
  | _ + 2, _ => trivial
theorem cell_set_far {w : World} {b j o : Nat} {v x : Value} (hc : w.cell? ⟨b, j, none⟩ = some x) (hne : o ≠ b) : (w.setCell ⟨o, 1, none⟩ v).cell? ⟨b, j, none⟩ = some x :=
  (World.cell?_of_block (a := ⟨b, j, none⟩) (Below.heap_setCell _ _ _ _ (fun e => hne e.symm))).trans hc
theorem Sf.store8 {v : Value} (h89 : ba ≠ bb) (hu : ba ≠ u) : ∀ c, keepsF c 11 = true → Sf ba bb u L1 L2 c0 c1 c2 c3 c4 c5 c X → Sf ba bb u L1 L2 c0 c1 c2 c3 c4 c5 c (X.setCell ⟨ba, 1, none⟩ v)
  | 0, _, ⟨q0, q1, q2, q3, q4, q5, q6⟩ => ⟨cell_set_far q0 h89, cell_set_far q1 hu, cell_set_far q2 hu, cell_set_far q3 hu, cell_set_far q4 hu, cell_set_far q5 hu, cell_set_far q6 hu⟩
  | 1, hc, _ => by cases hc
  | _ + 2, _, _ => trivial
theorem Sf.store9 : ∀ c, keepsF c 13 = true → Sf ba bb u L1 L2 c0 c1 c2 c3 c4 c5 c X
  | 0, hc => by cases hc
  | 1, hc => by cases hc
  | _ + 2, _ => trivial
end
theorem cut_snoc {L : List Nd} {i : Nat} {x : Nd} (hx : L[i]? = some x) : (L.take (i + 1)).map cutN = (L.take i).map cutN ++ [cutN x] := by
  rw [List.take_add_one, hx]
  simp
theorem begun {a : Option Addr} {n c : Nat} {nm : ByteArray} {w X0 : World} (h0 : X0 = ((w.alloc (.cells #[.string nm, .slice a n c] 24)).alloc (.cells #[.string ⟨#[]⟩, .slice none 0 0] 28)).alloc (.cells #[.string ⟨#[]⟩, .slice none 0 0] 31)) (c1 c2 : Array Value) (t1 t2 : TypeId) :
    EV a n c nm w ((X0.alloc (.cells c1 t1)).alloc (.cells c2 t2)) ∧ ((X0.alloc (.cells c1 t1)).alloc (.cells c2 t2)).heap[X0.heap.size]? = some (.cells c1 t1 (0, 0)) ∧ ((X0.alloc (.cells c1 t1)).alloc (.cells c2 t2)).heap[X0.heap.size + 1]? = some (.cells c2 t2 (0, 0)) ∧ X0.heap.size = w.heap.size + 3 := by
  have y1 := heap_alloc_new w (.cells #[.string nm, .slice a n c] 24)
  have y2 := heap_alloc_new (w.alloc (.cells #[.string nm, .slice a n c] 24)) (.cells #[.string ⟨#[]⟩, .slice none 0 0] 28)
  have y3 := heap_alloc_new ((w.alloc (.cells #[.string nm, .slice a n c] 24)).alloc (.cells #[.string ⟨#[]⟩, .slice none 0 0] 28)) (.cells #[.string ⟨#[]⟩, .slice none 0 0] 31)
  have hz : X0.heap.size = w.heap.size + 3 := by rw [h0]; simp
  have g0 : w.grownBy X0 none := by rw [h0]; exact grown_trans (grown2 w _ _) (grown1 _ _)
  have x1 : X0.heap[w.heap.size]? = some (.cells #[.string nm, .slice a n c] 24 (0, 0)) := by rw [h0, Below.heap_alloc _ _ _ (by simp only [World.size_alloc]; omega), Below.heap_alloc _ _ _ (by simp only [World.size_alloc]; omega), y1]
  have x2 : X0.heap[w.heap.size + 1]? = some (.cells #[.string ⟨#[]⟩, .slice none 0 0] 28 (0, 0)) := by rw [h0, Below.heap_alloc _ _ _ (by simp only [World.size_alloc]; omega)]; simpa using y2
  have x3 : X0.heap[w.heap.size + 2]? = some (.cells #[.string ⟨#[]⟩, .slice none 0 0] 31 (0, 0)) := by rw [h0]; simpa using y3
  clear h0 y1 y2 y3
  have g := grown2 X0 (.cells c1 t1) (.cells c2 t2)
  refine ⟨⟨below_grown (grown_trans g0 g), by simp; omega, (g.block _ (by omega) (by simp)).trans x1, (g.block _ (by omega) (by simp)).trans x2, (g.block _ (by omega) (by simp)).trans x3⟩, ?_, ?_, hz⟩
  · rw [Below.heap_alloc _ _ _ (by simp)]; exact heap_alloc_new X0 _
  · have := heap_alloc_new (X0.alloc (.cells c1 t1)) (.cells c2 t2)
    rw [World.size_alloc] at this
    exact this

set_option linter.unusedSimpArgs false in
set_option maxHeartbeats 16000000 in
set_option maxRecDepth 100000 in
theorem flows {w : World} {a : Option Addr} {L : List Nd} {c : Nat} (nm : ByteArray) (hV : Vs w a L) (hc : L.length ≤ c) (hcm : c ≤ maxLen) :
    Calls Try.prog 4 #[.agg #[.string nm, .slice a L.length c]] w fun e w' => FlP w w' nm (cutL L) e := by
  unfold maxLen at hcm
  have k1 : min (L.length : Int) 20 = ((min L.length 20 : Nat) : Int) := by omega
  obtain ⟨kk, hkk⟩ : ∃ k, k = min L.length 20 := ⟨_, rfl⟩
  have hk1 : kk ≤ 20 := by omega
  have hk2 : kk ≤ L.length := by omega
  rw [← hkk] at k1
  have HK := hid hkk
  have HV := hid hV
  obtain ⟨i1, hi1, hz1, hs1, hb1⟩ := info_parts infoN
  obtain ⟨i2, hi2, hz2, hs2, hb2⟩ := info_parts infoR
  obtain ⟨i0, hi0, hz0, hs0, hb0⟩ := info_parts infoS
  clear hV hkk
  go_enter Try.func4, Try.ntmps4
  go_wp2_with fail
  obtain ⟨X0, hX0⟩ : ∃ X0, X0 = ((w.alloc (.cells #[.string nm, .slice a L.length c] 24)).alloc (.cells #[.string ⟨#[]⟩, .slice none 0 0] 28)).alloc (.cells #[.string ⟨#[]⟩, .slice none 0 0] 31) := ⟨_, rfl⟩
  rw [← hX0]
  have x0 : X0.cell? ⟨w.heap.size, 0, none⟩ = some (.string nm) := by
    have e : X0.heap[w.heap.size]? = some (.cells #[.string nm, .slice a L.length c] 24 (0, 0)) := by
      rw [hX0, Below.heap_alloc _ _ _ (by simp only [World.size_alloc]; omega), Below.heap_alloc _ _ _ (by simp only [World.size_alloc]; omega), heap_alloc_new]
    simp [World.cell?, e]
  have n0 := World.new_ne X0 _ x0
  have HX0 := hid hX0
  clear hX0
  go_cut [4, 5] (fun s4 s5 wx => ∃ ba bb : Nat, s4 = .pointer (some ⟨ba, 0, none⟩) ∧ s5 = .pointer (some ⟨bb, 0, none⟩) ∧ ba < w.heap.size + 5 ∧ bb < w.heap.size + 5 ∧ w.heap.size + 3 ≤ ba ∧ w.heap.size + 3 ≤ bb ∧ ba ≠ bb ∧ EV a L.length c nm w wx ∧ FL (w.heap.size + 5) ba bb nm [] wx)
  case first =>
    go_region_held3 (fun w' => w'.cell? ⟨w.heap.size, 0, none⟩ = some (.string nm)) (go_keep) (fail)
    · go_wp2_with fail
      go_meet
      case rel =>
        obtain ⟨y1, y2, y3, y4⟩ := begun HX0.out #[.string nm, .slice none 0 0] #[.string nm, .slice none 0 0] 28 31
        exact ⟨X0.heap.size, X0.heap.size + 1, rfl, rfl, by omega, by omega, by omega, by omega, by omega, y1.grow (grown_drew (grown_refl _ _)), fl_nil y2 y3 y1.2.1⟩
    · go_wp2_with fail
      go_meet
      case rel =>
        obtain ⟨y1, y2, y3, y4⟩ := begun HX0.out #[.string nm, .slice none 0 0] #[.string nm, .slice none 0 0] 31 28
        exact ⟨X0.heap.size + 1, X0.heap.size, rfl, rfl, by omega, by omega, by omega, by omega, by omega, y1.grow (grown_drew (grown_refl _ _)), fl_nil y3 y2 y1.2.1⟩
  case rest =>
    rename World => wx
    obtain ⟨ba, bb, rfl, rfl, l8, l9, g8, g9, h89, hE, hS⟩ := hcut
    have HE := hid hE
    have HS := hid hS
    have x1 : wx.cell? ⟨w.heap.size, 1, none⟩ = some (.slice a L.length c) := by simp [World.cell?, hE.2.2.1]
    have I1 : (kk : Int) ≤ (c : Int) := by omega
    clear hE hS
    go_wp2_with fail
    clear x1
    go_loopw [22] (fun iv wr => ∃ (i : Nat) (M : List Nd), i ≤ kk ∧ iv = .int .i64 (i : Int) ∧ Hid (M = (L.take i).map cutN) ∧ Hid (M.length = i) ∧ Hid (EV a L.length c nm w wr) ∧ Hid (FL (w.heap.size + 5) ba bb nm M wr)) (fun iv _ => kk - (intOf iv).toNat)
    case atStart => exact ⟨0, [], Nat.zero_le _, rfl, rfl, rfl, HE, HS⟩
    case round =>
      clear HE HS
      obtain ⟨i, M, hik, rfl, hM, hMl, hE, hS⟩ := hrel
      by_cases ci : i < kk
      · obtain ⟨x, hx⟩ : ∃ x, L[i]? = some x := ⟨L[i]'(by omega), List.getElem?_eq_getElem (by omega)⟩
        obtain ⟨_, hV2⟩ := HV.out
        rcases hV2 with hV2 | ⟨b, off, rfl, hbl, hV3⟩
        · rw [hV2] at hx; simp at hx
        obtain ⟨da, dc, hN6, hVD⟩ := hV3 i x hx
        have hcut := hid (cut_snoc hx)
        rw [← hM.out] at hcut
        obtain ⟨s0, ds0, t0, l0, e0, fl0⟩ := x
        obtain ⟨v1, v2, v3, v4⟩ := hVD
        obtain ⟨y0, y1, y2, y3, y4, y5⟩ := hN6.below hbl hE.out.1
        simp only at y0 y1 y2 y3 y4 y5 v1 v2 v3
        obtain ⟨ds, hds⟩ : ∃ ds, Hid (ds = ds0.take 20) := ⟨_, rfl⟩
        have hdl : ds.length = min ds0.length 20 := by rw [hds.out, List.length_take]; omega
        have k2 : min (ds0.length : Int) 20 = ((ds.length : Nat) : Int) := by omega
        have hd1 : ds.length ≤ 20 := by omega
        have hd2 : (ds.length : Int) ≤ (dc : Int) := by omega
        have hcut2 : Hid (M ++ [⟨s0, ds, t0, l0, e0, fl0⟩] = (L.take (i + 1)).map cutN) := hid (by rw [hcut.out, hds.out]; rfl)
        have hnone : Hid (da = none → ds.length = 0 ∧ dc = 0) := hid (fun e => by have := v4 e; omega)
        have hnw := hid (lw_news (v3.below (hE.out.1.trans ((below_grown (grown1 wr (.cells #[.string s0, .slice da ds0.length dc, .int .i64 t0, .int .i64 l0, .int .i64 e0, .string fl0] 55))).mono hE.out.1.size))))
        rw [← hds.out] at hnw
        have hz5 := hE.out.2.1
        have hM20 : M.length ≤ 20 := by rw [hMl.out]; omega
        clear hx hV3 hN6 hcut v1 v2 v3 v4 hdl hM hds
        unfold maxLen at *
        go_wp2_with (first | (at_builtin; (refine wpList_append_any _ rfl _ _ 53 rfl (wr.heap.size + 1) 9 i0 (.string ⟨#[]⟩) 1 16 Try.underlying53 hi0 hz0 hs0 hb0 rfl (by decide) _ _ _ rfl (World.ownsRow_nil _ _ _ _) da ds.length dc (ds.map Value.string) rfl hnone.out (by simp) hnw.out (fun u hu => by obtain ⟨s, _, rfl⟩ := List.mem_map.1 hu; rfl) (by unfold maxLen; omega) (by omega) (by simp) ?_; intro v4 w4 o4 g4; obtain ⟨ea, ec, rfl, k3, k4, k5⟩ := own_ss (l := ds) o4 (by omega) (by simp); have g4 : (wr.alloc (.cells #[.string s0, .slice da ds0.length dc, .int .i64 t0, .int .i64 l0, .int .i64 e0, .string fl0] 55)).grownBy w4 none := g4; have nb := (g4.block wr.heap.size (by simp) (by simp)).trans (heap_alloc_new wr _); have nb1 := cell_there nb (j := 1) (by simp); have nb2 := frozen_there nb; go_frame)))
        obtain ⟨X, hX⟩ : ∃ X, X = w4.setCell ⟨wr.heap.size, 1, none⟩ (.slice ea ds.length ec) := ⟨_, rfl⟩
        rw [← hX]
        obtain ⟨hEX, S, q1, q2, d1, d2, xs, y8, y9, hI0, hN, hD, yu, sn, hXz⟩ := mid hE.out hS.out g4 k5 k3 k4 hX
        have hcut := hcut2
        have I0 := hid hI0
        have kEX := hid hEX
        have kNF := hid hN
        have kDS := hid hD
        have ky8 := hid y8
        have ky9 := hid y9
        have e8 : X.cell? ⟨ba, 1, none⟩ = some (.slice q1 M.length d1) := by simp [World.cell?, y8]
        have e9 : X.cell? ⟨bb, 1, none⟩ = some (.slice q2 M.length d2) := by simp [World.cell?, y9]
        have u0 : X.cell? ⟨wr.heap.size, 0, none⟩ = some (.string s0) := by simp [World.cell?, yu]
        have u1 : X.cell? ⟨wr.heap.size, 1, none⟩ = some (.slice ea ds.length ec) := by simp [World.cell?, yu]
        have u2 : X.cell? ⟨wr.heap.size, 2, none⟩ = some (.int .i64 t0) := by simp [World.cell?, yu]
        have u3 : X.cell? ⟨wr.heap.size, 3, none⟩ = some (.int .i64 l0) := by simp [World.cell?, yu]
        have u4 : X.cell? ⟨wr.heap.size, 4, none⟩ = some (.int .i64 e0) := by simp [World.cell?, yu]
        have u5 : X.cell? ⟨wr.heap.size, 5, none⟩ = some (.string fl0) := by simp [World.cell?, yu]
        have hu8 : ba ≠ wr.heap.size := by omega
        have cells := And.intro e8 (And.intro e9 (And.intro u0 (And.intro u1 (And.intro u2 (And.intro u3 (And.intro u4 u5))))))
        clear hI0 hEX hN hD y8 y9 yu hX hXz g4 o4 nb nb1 nb2 k3 k4 k5 y0 y1 y2 y3 y4 y5 hS hE hnw hnone
        generalize wr.heap.size = bn at *

        refine wp_region_late (Sf ba bb bn (.slice q1 M.length d1) (.slice q2 M.length d2) (.string s0) (.slice ea ds.length ec) (.int .i64 t0) (.int .i64 l0) (.int .i64 e0) (.string fl0)) keepsF (by kernel_rfl) 14 (by rfl) ?_
        refine wpAnyT_take (i := 0) 2 (.pointer (some ⟨ba, 1, none⟩)) rfl (by kernel_rfl) (by kernel_rfl) (by kernel_rfl) (by kernel_rfl) (fun _ _ _ h => h) (by rfl) ?_ trivial ?_
        · intro w hSw
          simp only [Sf] at hSw
          go_simp
        simp only [List.getElem_toArray, List.getElem_cons_zero, List.getElem_cons_succ, Act.put, List.setIfInBounds_toArray, List.set_cons_zero, List.set_cons_succ]
        refine wpAnyT_take (i := 1) 1 (.slice q1 M.length d1) rfl (by kernel_rfl) (by kernel_rfl) (by kernel_rfl) (by kernel_rfl) (fun _ _ _ h => h) (by rfl) ?_ cells.1 ?_
        · intro w hSw
          simp only [Sf] at hSw
          go_simp
        simp only [List.getElem_toArray, List.getElem_cons_zero, List.getElem_cons_succ, Act.put, List.setIfInBounds_toArray, List.set_cons_zero, List.set_cons_succ]
        refine wpAnyT_take (i := 2) 0 (.agg #[.string s0, .slice ea ds.length ec, .int .i64 t0, .int .i64 l0, .int .i64 e0, .string fl0]) rfl (by kernel_rfl) (by kernel_rfl) (by kernel_rfl) (by kernel_rfl) (fun _ _ _ h => h) (by rfl) ?_ cells.2 ?_
        · intro w hSw
          simp only [Sf] at hSw
          go_simp
        simp only [List.getElem_toArray, List.getElem_cons_zero, List.getElem_cons_succ, Act.put, List.setIfInBounds_toArray, List.set_cons_zero, List.set_cons_succ]
        refine wpAnyT_take (i := 5) 2 (.pointer (some ⟨bb, 1, none⟩)) rfl (by kernel_rfl) (by kernel_rfl) (by kernel_rfl) (by kernel_rfl) (fun _ _ _ h => h) (by rfl) ?_ trivial ?_
        · intro w hSw
          simp only [Sf] at hSw
          go_simp
        simp only [List.getElem_toArray, List.getElem_cons_zero, List.getElem_cons_succ, Act.put, List.setIfInBounds_toArray, List.set_cons_zero, List.set_cons_succ]
        refine wpAnyT_take (i := 6) 0 (.slice q2 M.length d2) rfl (by kernel_rfl) (by kernel_rfl) (by kernel_rfl) (by kernel_rfl) (fun _ _ _ h => h) (by rfl) ?_ cells.2 ?_
        · intro w hSw
          simp only [Sf] at hSw
          go_simp
        simp only [List.getElem_toArray, List.getElem_cons_zero, List.getElem_cons_succ, Act.put, List.setIfInBounds_toArray, List.set_cons_zero, List.set_cons_succ]
        refine wpAnyT_take (i := 7) 0 (.agg #[.string s0, .slice ea ds.length ec, .int .i64 t0, .int .i64 l0, .int .i64 e0, .string fl0]) rfl (by kernel_rfl) (by kernel_rfl) (by kernel_rfl) (by kernel_rfl) (fun _ _ _ h => h) (by rfl) ?_ cells.2 ?_
        · intro w hSw
          simp only [Sf] at hSw
          go_simp
        simp only [List.getElem_toArray, List.getElem_cons_zero, List.getElem_cons_succ, Act.put, List.setIfInBounds_toArray, List.set_cons_zero, List.set_cons_succ]
        refine wpAnyT_two (i := 3) (j := 8) (by kernel_rfl) rfl (by rfl) rfl (by rfl) ?_ ?_
        · skip
          intro K hK
          simp only [List.getElem_toArray, List.getElem_cons_zero, List.getElem_cons_succ]
          go_simp
          refine hK _ _ (fun c _ h => Sf.far (far_grow (grown1d X (.cells #[.string s0, .slice ea ds.length ec, .int .i64 t0, .int .i64 l0, .int .i64 e0, .string fl0] 56))) l8 l9 sn c h) ?_
          clear hK K
          try simp only [List.getElem_toArray, List.getElem_cons_zero, List.getElem_cons_succ, Act.put, List.setIfInBounds_toArray, List.set_cons_zero, List.set_cons_succ]
          refine wpAnyT_two (i := 4) (j := 8) (by kernel_rfl) rfl (by rfl) rfl (by rfl) ?_ ?_
          · skip
            intro K hK
            refine wp_append_lies _ _ _ _ (by rfl) (w.heap.size + 5) 56 i1 _ 6 80 Try.underlying26 hi1 hz1 hs1 hb1 rfl (by omega) (.slice q1 M.length d1) M.length xs (by rfl) (I0.out.grow (grown_drew (grown1 X (.cells #[.string s0, .slice ea ds.length ec, .int .i64 t0, .int .i64 l0, .int .i64 e0, .string fl0] 56)))).own1 ⟨X.heap.size, 0, none⟩ 1 1 [.string s0, .slice ea ds.length ec, .int .i64 t0, .int .i64 l0, .int .i64 e0, .string fl0] (by rfl) (by rfl) (World.news_of_block (cs := #[.string s0, .slice ea ds.length ec, .int .i64 t0, .int .i64 l0, .int .i64 e0, .string fl0]) (t := 56) (fr := (0, 0)) (heap_alloc_new X _)) (by simp [Value.oneCell']) (by omega) (by unfold maxLen; omega) (by omega) (I0.out.grow (grown_drew (grown1 X (.cells #[.string s0, .slice ea ds.length ec, .int .i64 t0, .int .i64 l0, .int .i64 e0, .string fl0] 56)))).here _ rfl ?_
            intro j1 t1 Y1 o1 g1 at1 _
            have F0 : Far (w.heap.size + 5) S _ Y1 := far6_one (I0.out.grow (grown_drew (grown1 X (.cells #[.string s0, .slice ea ds.length ec, .int .i64 t0, .int .i64 l0, .int .i64 e0, .string fl0] 56)))) g1
            have F1 : Far (w.heap.size + 5) S X Y1 := (far_grow (grown_drew (grown1 X (.cells #[.string s0, .slice ea ds.length ec, .int .i64 t0, .int .i64 l0, .int .i64 e0, .string fl0] 56)))).trans F0
            have I1 : Hid (Iv6 56 57 (w.heap.size + 5) S (.slice (some ⟨j1, 0, none⟩) (M.length + 1) t1) (.slice q2 M.length d2) (M.length + 1) M.length (xs ++ [.string s0, .slice ea ds.length ec, .int .i64 t0, .int .i64 l0, .int .i64 e0, .string fl0]) xs Y1) := (I0.out.grow (grown_drew (grown1 X (.cells #[.string s0, .slice ea ds.length ec, .int .i64 t0, .int .i64 l0, .int .i64 e0, .string fl0] 56)))).one o1 g1 at1
            refine hK _ _ (fun c _ h => Sf.far F0 l8 l9 sn c h) ?_
            clear hK K o1 g1 at1 F0
            try simp only [List.getElem_toArray, List.getElem_cons_zero, List.getElem_cons_succ, Act.put, List.setIfInBounds_toArray, List.set_cons_zero, List.set_cons_succ]
            refine wpAnyT_take (i := 10) 2 (.pointer (some ⟨ba, 1, none⟩)) rfl (by kernel_rfl) (by kernel_rfl) (by kernel_rfl) (by kernel_rfl) (fun _ _ _ h => h) (by rfl) ?_ trivial ?_
            · intro w hSw
              go_simp
            simp only [List.getElem_toArray, List.getElem_cons_zero, List.getElem_cons_succ, Act.put, List.setIfInBounds_toArray, List.set_cons_zero, List.set_cons_succ]
            refine wpAnyT_one (i := 8) (by kernel_rfl) rfl (by rfl) ?_
            intro K hK
            simp only [List.getElem_toArray, List.getElem_cons_zero, List.getElem_cons_succ]
            go_simp
            refine hK _ _ (fun c _ h => Sf.far (far_grow (grown1 Y1 (.cells #[.string s0, .slice ea ds.length ec, .int .i64 t0, .int .i64 l0, .int .i64 e0, .string fl0] 57))) l8 l9 sn c h) ?_
            clear hK K
            try simp only [List.getElem_toArray, List.getElem_cons_zero, List.getElem_cons_succ, Act.put, List.setIfInBounds_toArray, List.set_cons_zero, List.set_cons_succ]
            refine wpAnyT_one (i := 9) (by kernel_rfl) rfl (by rfl) ?_
            intro K hK
            refine wp_append_lies _ _ _ _ (by rfl) (w.heap.size + 5) 57 i2 _ 6 80 Try.underlying29 hi2 hz2 hs2 hb2 rfl (by omega) (.slice q2 M.length d2) M.length xs (by rfl) (I1.out.grow (grown1 Y1 (.cells #[.string s0, .slice ea ds.length ec, .int .i64 t0, .int .i64 l0, .int .i64 e0, .string fl0] 57))).own2 ⟨Y1.heap.size, 0, none⟩ 1 1 [.string s0, .slice ea ds.length ec, .int .i64 t0, .int .i64 l0, .int .i64 e0, .string fl0] (by rfl) (by rfl) (World.news_of_block (cs := #[.string s0, .slice ea ds.length ec, .int .i64 t0, .int .i64 l0, .int .i64 e0, .string fl0]) (t := 57) (fr := (0, 0)) (heap_alloc_new Y1 _)) (by simp [Value.oneCell']) (by omega) (by unfold maxLen; omega) (by omega) (I1.out.grow (grown1 Y1 (.cells #[.string s0, .slice ea ds.length ec, .int .i64 t0, .int .i64 l0, .int .i64 e0, .string fl0] 57))).here _ rfl ?_
            intro j2 t2 Y2 o2 g2 at2 _
            have F3 : Far (w.heap.size + 5) S _ Y2 := far6_two (I1.out.grow (grown1 Y1 (.cells #[.string s0, .slice ea ds.length ec, .int .i64 t0, .int .i64 l0, .int .i64 e0, .string fl0] 57))) g2
            have F2 : Hid (Far (w.heap.size + 5) S X Y2) := hid ((F1.trans (far_grow (grown1 Y1 (.cells #[.string s0, .slice ea ds.length ec, .int .i64 t0, .int .i64 l0, .int .i64 e0, .string fl0] 57)))).trans F3)
            have I2 : Hid (Iv6 56 57 (w.heap.size + 5) S (.slice (some ⟨j1, 0, none⟩) (M.length + 1) t1) (.slice (some ⟨j2, 0, none⟩) (M.length + 1) t2) (M.length + 1) (M.length + 1) (xs ++ [.string s0, .slice ea ds.length ec, .int .i64 t0, .int .i64 l0, .int .i64 e0, .string fl0]) (xs ++ [.string s0, .slice ea ds.length ec, .int .i64 t0, .int .i64 l0, .int .i64 e0, .string fl0]) Y2) := hid ((I1.out.grow (grown1 Y1 (.cells #[.string s0, .slice ea ds.length ec, .int .i64 t0, .int .i64 l0, .int .i64 e0, .string fl0] 57))).two o2 g2 at2)
            refine hK _ _ (fun c _ h => Sf.far F3 l8 l9 sn c h) ?_
            clear hK K o2 g2 at2 F3
            have r8 := (F2.out.stay ba (lt_of_heap ky8.out) (.inl l8)).trans ky8.out
            have r9 := (F2.out.stay bb (lt_of_heap ky9.out) (.inl l9)).trans ky9.out
            have v8 : Y2.cell? ⟨ba, 1, none⟩ = some (.slice q1 M.length d1) := by simp [World.cell?, r8]
            have z8 := frozen_there r8 1
            have r9' : ∀ v, (Y2.setCell ⟨ba, 1, none⟩ v).heap[bb]? = some (.cells #[.string nm, (.slice q2 M.length d2)] 31 (0, 0)) := fun v => (Below.heap_setCell _ _ _ _ (fun e => h89 e.symm)).trans r9
            have v9 : ∀ v, (Y2.setCell ⟨ba, 1, none⟩ v).cell? ⟨bb, 1, none⟩ = some (.slice q2 M.length d2) := fun v => by simp [World.cell?, r9' v]
            have z9 : ∀ v, (Y2.setCell ⟨ba, 1, none⟩ v).frozen? ⟨bb, 1, none⟩ = false := fun v => frozen_there (r9' v) 1
            clear r8 r9 r9'
            try simp only [List.getElem_toArray, List.getElem_cons_zero, List.getElem_cons_succ, Act.put, List.setIfInBounds_toArray, List.set_cons_zero, List.set_cons_succ]
            refine wpAnyT_one (i := 11) (by kernel_rfl) rfl (by rfl) ?_
            intro K hK
            simp only [List.getElem_toArray, List.getElem_cons_zero, List.getElem_cons_succ]
            go_simp
            refine hK _ _ (fun c hc h => Sf.store8 h89 hu8 c hc h) ?_
            clear hK K
            try simp only [List.getElem_toArray, List.getElem_cons_zero, List.getElem_cons_succ, Act.put, List.setIfInBounds_toArray, List.set_cons_zero, List.set_cons_succ]
            refine wpAnyT_take (i := 12) 2 (.pointer (some ⟨bb, 1, none⟩)) rfl (by kernel_rfl) (by kernel_rfl) (by kernel_rfl) (by kernel_rfl) (fun _ _ _ h => h) (by rfl) ?_ trivial ?_
            · intro w hSw
              go_simp
            simp only [List.getElem_toArray, List.getElem_cons_zero, List.getElem_cons_succ, Act.put, List.setIfInBounds_toArray, List.set_cons_zero, List.set_cons_succ]
            refine wpAnyT_one (i := 13) (by kernel_rfl) rfl (by rfl) ?_
            intro K hK
            simp only [List.getElem_toArray, List.getElem_cons_zero, List.getElem_cons_succ]
            go_simp
            refine hK _ _ (fun c hc h => Sf.store9 c hc) ?_
            clear hK K
            try simp only [List.getElem_toArray, List.getElem_cons_zero, List.getElem_cons_succ, Act.put, List.setIfInBounds_toArray, List.set_cons_zero, List.set_cons_succ]
            refine wpAnyT_done (by kernel_rfl) (NoPanic.normal ?_) _
            have hEnd := hid (fl_end (y := ⟨s0, ds, t0, l0, e0, fl0⟩) l8 l9 h89 ky8.out ky9.out kNF.out kDS.out F2.out I2.out)
            have kEn := hid (EV.far (Z := (Y2.setCell ⟨ba, 1, none⟩ (.slice (some ⟨j1, 0, none⟩) (M.length + 1) t1)).setCell ⟨bb, 1, none⟩ (.slice (some ⟨j2, 0, none⟩) (M.length + 1) t2)) kEX.out F2.out g8 g9 (by simp [World.setCell]) rfl rfl rfl hEnd.out.2)
            clear v8 z8 v9 z9
            go_wp2_with fail
            go_roundw
            case rel => exact ⟨i + 1, M ++ [⟨s0, ds, t0, l0, e0, fl0⟩], ci, by go_num, hcut, hid (by simp [hMl.out]), kEn, hid hEnd.out.1⟩
            case measure => simp [intOf]; omega
          · skip
            intro K hK
            simp only [List.getElem_toArray, List.getElem_cons_zero, List.getElem_cons_succ]
            go_simp
            refine hK _ _ (fun c _ h => Sf.far (far_grow (grown1d (X.alloc (.cells #[.string s0, .slice ea ds.length ec, .int .i64 t0, .int .i64 l0, .int .i64 e0, .string fl0] 56)) (.cells #[.string s0, .slice ea ds.length ec, .int .i64 t0, .int .i64 l0, .int .i64 e0, .string fl0] 57))) l8 l9 sn c h) ?_
            clear hK K
            try simp only [List.getElem_toArray, List.getElem_cons_zero, List.getElem_cons_succ, Act.put, List.setIfInBounds_toArray, List.set_cons_zero, List.set_cons_succ]
            refine wpAnyT_one (i := 4) (by kernel_rfl) rfl (by rfl) ?_
            intro K hK
            refine wp_append_lies _ _ _ _ (by rfl) (w.heap.size + 5) 56 i1 _ 6 80 Try.underlying26 hi1 hz1 hs1 hb1 rfl (by omega) (.slice q1 M.length d1) M.length xs (by rfl) (I0.out.grow (grown_drew (grown2 X (.cells #[.string s0, .slice ea ds.length ec, .int .i64 t0, .int .i64 l0, .int .i64 e0, .string fl0] 56) (.cells #[.string s0, .slice ea ds.length ec, .int .i64 t0, .int .i64 l0, .int .i64 e0, .string fl0] 57)))).own1 ⟨X.heap.size, 0, none⟩ 1 1 [.string s0, .slice ea ds.length ec, .int .i64 t0, .int .i64 l0, .int .i64 e0, .string fl0] (by rfl) (by rfl) (World.news_of_block (cs := #[.string s0, .slice ea ds.length ec, .int .i64 t0, .int .i64 l0, .int .i64 e0, .string fl0]) (t := 56) (fr := (0, 0)) ((Below.heap_alloc _ _ _ (by simp)).trans (heap_alloc_new X _))) (by simp [Value.oneCell']) (by omega) (by unfold maxLen; omega) (by omega) (I0.out.grow (grown_drew (grown2 X (.cells #[.string s0, .slice ea ds.length ec, .int .i64 t0, .int .i64 l0, .int .i64 e0, .string fl0] 56) (.cells #[.string s0, .slice ea ds.length ec, .int .i64 t0, .int .i64 l0, .int .i64 e0, .string fl0] 57)))).here _ rfl ?_
            intro j1 t1 Y1 o1 g1 at1 _
            have F0 : Far (w.heap.size + 5) S _ Y1 := far6_one (I0.out.grow (grown_drew (grown2 X (.cells #[.string s0, .slice ea ds.length ec, .int .i64 t0, .int .i64 l0, .int .i64 e0, .string fl0] 56) (.cells #[.string s0, .slice ea ds.length ec, .int .i64 t0, .int .i64 l0, .int .i64 e0, .string fl0] 57)))) g1
            have F1 : Far (w.heap.size + 5) S X Y1 := (far_grow (grown_drew (grown2 X (.cells #[.string s0, .slice ea ds.length ec, .int .i64 t0, .int .i64 l0, .int .i64 e0, .string fl0] 56) (.cells #[.string s0, .slice ea ds.length ec, .int .i64 t0, .int .i64 l0, .int .i64 e0, .string fl0] 57)))).trans F0
            have I1 : Hid (Iv6 56 57 (w.heap.size + 5) S (.slice (some ⟨j1, 0, none⟩) (M.length + 1) t1) (.slice q2 M.length d2) (M.length + 1) M.length (xs ++ [.string s0, .slice ea ds.length ec, .int .i64 t0, .int .i64 l0, .int .i64 e0, .string fl0]) xs Y1) := (I0.out.grow (grown_drew (grown2 X (.cells #[.string s0, .slice ea ds.length ec, .int .i64 t0, .int .i64 l0, .int .i64 e0, .string fl0] 56) (.cells #[.string s0, .slice ea ds.length ec, .int .i64 t0, .int .i64 l0, .int .i64 e0, .string fl0] 57)))).one o1 g1 at1
            have B2 : Hid (Y1.heap[X.heap.size + 1]? = some (.cells #[.string s0, .slice ea ds.length ec, .int .i64 t0, .int .i64 l0, .int .i64 e0, .string fl0] 57 (0, 0))) := hid ((g1.block _ (by simp [World.drew]) (fun e => by have := (I0.out.own1.lt _ e.symm).2; omega)).trans (by have := heap_alloc_new (X.alloc (.cells #[.string s0, .slice ea ds.length ec, .int .i64 t0, .int .i64 l0, .int .i64 e0, .string fl0] 56)) (.cells #[.string s0, .slice ea ds.length ec, .int .i64 t0, .int .i64 l0, .int .i64 e0, .string fl0] 57); rw [World.size_alloc] at this; exact this))
            refine hK _ _ (fun c _ h => Sf.far F0 l8 l9 sn c h) ?_
            clear hK K o1 g1 at1 F0
            try simp only [List.getElem_toArray, List.getElem_cons_zero, List.getElem_cons_succ, Act.put, List.setIfInBounds_toArray, List.set_cons_zero, List.set_cons_succ]
            refine wpAnyT_take (i := 10) 2 (.pointer (some ⟨ba, 1, none⟩)) rfl (by kernel_rfl) (by kernel_rfl) (by kernel_rfl) (by kernel_rfl) (fun _ _ _ h => h) (by rfl) ?_ trivial ?_
            · intro w hSw
              go_simp
            simp only [List.getElem_toArray, List.getElem_cons_zero, List.getElem_cons_succ, Act.put, List.setIfInBounds_toArray, List.set_cons_zero, List.set_cons_succ]
            refine wpAnyT_one (i := 9) (by kernel_rfl) rfl (by rfl) ?_
            intro K hK
            refine wp_append_lies _ _ _ _ (by rfl) (w.heap.size + 5) 57 i2 _ 6 80 Try.underlying29 hi2 hz2 hs2 hb2 rfl (by omega) (.slice q2 M.length d2) M.length xs (by rfl) I1.out.own2 ⟨X.heap.size + 1, 0, none⟩ 1 1 [.string s0, .slice ea ds.length ec, .int .i64 t0, .int .i64 l0, .int .i64 e0, .string fl0] (by rfl) (by rfl) (World.news_of_block (cs := #[.string s0, .slice ea ds.length ec, .int .i64 t0, .int .i64 l0, .int .i64 e0, .string fl0]) (t := 57) (fr := (0, 0)) (B2.out)) (by simp [Value.oneCell']) (by omega) (by unfold maxLen; omega) (by omega) I1.out.here _ rfl ?_
            intro j2 t2 Y2 o2 g2 at2 _
            have F3 : Far (w.heap.size + 5) S _ Y2 := far6_two I1.out g2
            have F2 : Hid (Far (w.heap.size + 5) S X Y2) := hid (F1.trans F3)
            have I2 : Hid (Iv6 56 57 (w.heap.size + 5) S (.slice (some ⟨j1, 0, none⟩) (M.length + 1) t1) (.slice (some ⟨j2, 0, none⟩) (M.length + 1) t2) (M.length + 1) (M.length + 1) (xs ++ [.string s0, .slice ea ds.length ec, .int .i64 t0, .int .i64 l0, .int .i64 e0, .string fl0]) (xs ++ [.string s0, .slice ea ds.length ec, .int .i64 t0, .int .i64 l0, .int .i64 e0, .string fl0]) Y2) := hid (I1.out.two o2 g2 at2)
            refine hK _ _ (fun c _ h => Sf.far F3 l8 l9 sn c h) ?_
            clear hK K o2 g2 at2 F3
            have r8 := (F2.out.stay ba (lt_of_heap ky8.out) (.inl l8)).trans ky8.out
            have r9 := (F2.out.stay bb (lt_of_heap ky9.out) (.inl l9)).trans ky9.out
            have v8 : Y2.cell? ⟨ba, 1, none⟩ = some (.slice q1 M.length d1) := by simp [World.cell?, r8]
            have z8 := frozen_there r8 1
            have r9' : ∀ v, (Y2.setCell ⟨ba, 1, none⟩ v).heap[bb]? = some (.cells #[.string nm, (.slice q2 M.length d2)] 31 (0, 0)) := fun v => (Below.heap_setCell _ _ _ _ (fun e => h89 e.symm)).trans r9
            have v9 : ∀ v, (Y2.setCell ⟨ba, 1, none⟩ v).cell? ⟨bb, 1, none⟩ = some (.slice q2 M.length d2) := fun v => by simp [World.cell?, r9' v]
            have z9 : ∀ v, (Y2.setCell ⟨ba, 1, none⟩ v).frozen? ⟨bb, 1, none⟩ = false := fun v => frozen_there (r9' v) 1
            clear r8 r9 r9'
            try simp only [List.getElem_toArray, List.getElem_cons_zero, List.getElem_cons_succ, Act.put, List.setIfInBounds_toArray, List.set_cons_zero, List.set_cons_succ]
            refine wpAnyT_one (i := 11) (by kernel_rfl) rfl (by rfl) ?_
            intro K hK
            simp only [List.getElem_toArray, List.getElem_cons_zero, List.getElem_cons_succ]
            go_simp
            refine hK _ _ (fun c hc h => Sf.store8 h89 hu8 c hc h) ?_
            clear hK K
            try simp only [List.getElem_toArray, List.getElem_cons_zero, List.getElem_cons_succ, Act.put, List.setIfInBounds_toArray, List.set_cons_zero, List.set_cons_succ]
            refine wpAnyT_take (i := 12) 2 (.pointer (some ⟨bb, 1, none⟩)) rfl (by kernel_rfl) (by kernel_rfl) (by kernel_rfl) (by kernel_rfl) (fun _ _ _ h => h) (by rfl) ?_ trivial ?_
            · intro w hSw
              go_simp
            simp only [List.getElem_toArray, List.getElem_cons_zero, List.getElem_cons_succ, Act.put, List.setIfInBounds_toArray, List.set_cons_zero, List.set_cons_succ]
            refine wpAnyT_one (i := 13) (by kernel_rfl) rfl (by rfl) ?_
            intro K hK
            simp only [List.getElem_toArray, List.getElem_cons_zero, List.getElem_cons_succ]
            go_simp
            refine hK _ _ (fun c hc h => Sf.store9 c hc) ?_
            clear hK K
            try simp only [List.getElem_toArray, List.getElem_cons_zero, List.getElem_cons_succ, Act.put, List.setIfInBounds_toArray, List.set_cons_zero, List.set_cons_succ]
            refine wpAnyT_done (by kernel_rfl) (NoPanic.normal ?_) _
            have hEnd := hid (fl_end (y := ⟨s0, ds, t0, l0, e0, fl0⟩) l8 l9 h89 ky8.out ky9.out kNF.out kDS.out F2.out I2.out)
            have kEn := hid (EV.far (Z := (Y2.setCell ⟨ba, 1, none⟩ (.slice (some ⟨j1, 0, none⟩) (M.length + 1) t1)).setCell ⟨bb, 1, none⟩ (.slice (some ⟨j2, 0, none⟩) (M.length + 1) t2)) kEX.out F2.out g8 g9 (by simp [World.setCell]) rfl rfl rfl hEnd.out.2)
            clear v8 z8 v9 z9
            go_wp2_with fail
            go_roundw
            case rel => exact ⟨i + 1, M ++ [⟨s0, ds, t0, l0, e0, fl0⟩], ci, by go_num, hcut, hid (by simp [hMl.out]), kEn, hid hEnd.out.1⟩
            case measure => simp [intOf]; omega
        · skip
          intro K hK
          simp only [List.getElem_toArray, List.getElem_cons_zero, List.getElem_cons_succ]
          go_simp
          refine hK _ _ (fun c _ h => Sf.far (far_grow (grown1d X (.cells #[.string s0, .slice ea ds.length ec, .int .i64 t0, .int .i64 l0, .int .i64 e0, .string fl0] 57))) l8 l9 sn c h) ?_
          clear hK K
          try simp only [List.getElem_toArray, List.getElem_cons_zero, List.getElem_cons_succ, Act.put, List.setIfInBounds_toArray, List.set_cons_zero, List.set_cons_succ]
          refine wpAnyT_one (i := 3) (by kernel_rfl) rfl (by rfl) ?_
          intro K hK
          simp only [List.getElem_toArray, List.getElem_cons_zero, List.getElem_cons_succ]
          go_simp
          refine hK _ _ (fun c _ h => Sf.far (far_grow (grown1d (X.alloc (.cells #[.string s0, .slice ea ds.length ec, .int .i64 t0, .int .i64 l0, .int .i64 e0, .string fl0] 57)) (.cells #[.string s0, .slice ea ds.length ec, .int .i64 t0, .int .i64 l0, .int .i64 e0, .string fl0] 56))) l8 l9 sn c h) ?_
          clear hK K
          try simp only [List.getElem_toArray, List.getElem_cons_zero, List.getElem_cons_succ, Act.put, List.setIfInBounds_toArray, List.set_cons_zero, List.set_cons_succ]
          refine wpAnyT_one (i := 4) (by kernel_rfl) rfl (by rfl) ?_
          intro K hK
          refine wp_append_lies _ _ _ _ (by rfl) (w.heap.size + 5) 56 i1 _ 6 80 Try.underlying26 hi1 hz1 hs1 hb1 rfl (by omega) (.slice q1 M.length d1) M.length xs (by rfl) (I0.out.grow (grown_drew (grown2 X (.cells #[.string s0, .slice ea ds.length ec, .int .i64 t0, .int .i64 l0, .int .i64 e0, .string fl0] 57) (.cells #[.string s0, .slice ea ds.length ec, .int .i64 t0, .int .i64 l0, .int .i64 e0, .string fl0] 56)))).own1 ⟨X.heap.size + 1, 0, none⟩ 1 1 [.string s0, .slice ea ds.length ec, .int .i64 t0, .int .i64 l0, .int .i64 e0, .string fl0] (by rfl) (by rfl) (World.news_of_block (cs := #[.string s0, .slice ea ds.length ec, .int .i64 t0, .int .i64 l0, .int .i64 e0, .string fl0]) (t := 56) (fr := (0, 0)) (by have := heap_alloc_new (X.alloc (.cells #[.string s0, .slice ea ds.length ec, .int .i64 t0, .int .i64 l0, .int .i64 e0, .string fl0] 57)) (.cells #[.string s0, .slice ea ds.length ec, .int .i64 t0, .int .i64 l0, .int .i64 e0, .string fl0] 56); rw [World.size_alloc] at this; exact this)) (by simp [Value.oneCell']) (by omega) (by unfold maxLen; omega) (by omega) (I0.out.grow (grown_drew (grown2 X (.cells #[.string s0, .slice ea ds.length ec, .int .i64 t0, .int .i64 l0, .int .i64 e0, .string fl0] 57) (.cells #[.string s0, .slice ea ds.length ec, .int .i64 t0, .int .i64 l0, .int .i64 e0, .string fl0] 56)))).here _ rfl ?_
          intro j1 t1 Y1 o1 g1 at1 _
          have F0 : Far (w.heap.size + 5) S _ Y1 := far6_one (I0.out.grow (grown_drew (grown2 X (.cells #[.string s0, .slice ea ds.length ec, .int .i64 t0, .int .i64 l0, .int .i64 e0, .string fl0] 57) (.cells #[.string s0, .slice ea ds.length ec, .int .i64 t0, .int .i64 l0, .int .i64 e0, .string fl0] 56)))) g1
          have F1 : Far (w.heap.size + 5) S X Y1 := (far_grow (grown_drew (grown2 X (.cells #[.string s0, .slice ea ds.length ec, .int .i64 t0, .int .i64 l0, .int .i64 e0, .string fl0] 57) (.cells #[.string s0, .slice ea ds.length ec, .int .i64 t0, .int .i64 l0, .int .i64 e0, .string fl0] 56)))).trans F0
          have I1 : Hid (Iv6 56 57 (w.heap.size + 5) S (.slice (some ⟨j1, 0, none⟩) (M.length + 1) t1) (.slice q2 M.length d2) (M.length + 1) M.length (xs ++ [.string s0, .slice ea ds.length ec, .int .i64 t0, .int .i64 l0, .int .i64 e0, .string fl0]) xs Y1) := (I0.out.grow (grown_drew (grown2 X (.cells #[.string s0, .slice ea ds.length ec, .int .i64 t0, .int .i64 l0, .int .i64 e0, .string fl0] 57) (.cells #[.string s0, .slice ea ds.length ec, .int .i64 t0, .int .i64 l0, .int .i64 e0, .string fl0] 56)))).one o1 g1 at1
          have B2 : Hid (Y1.heap[X.heap.size]? = some (.cells #[.string s0, .slice ea ds.length ec, .int .i64 t0, .int .i64 l0, .int .i64 e0, .string fl0] 57 (0, 0))) := hid ((g1.block _ (by simp [World.drew]; omega) (fun e => by have := (I0.out.own1.lt _ e.symm).2; omega)).trans ((Below.heap_alloc _ _ _ (by simp)).trans (heap_alloc_new X _)))
          refine hK _ _ (fun c _ h => Sf.far F0 l8 l9 sn c h) ?_
          clear hK K o1 g1 at1 F0
          try simp only [List.getElem_toArray, List.getElem_cons_zero, List.getElem_cons_succ, Act.put, List.setIfInBounds_toArray, List.set_cons_zero, List.set_cons_succ]
          refine wpAnyT_take (i := 10) 2 (.pointer (some ⟨ba, 1, none⟩)) rfl (by kernel_rfl) (by kernel_rfl) (by kernel_rfl) (by kernel_rfl) (fun _ _ _ h => h) (by rfl) ?_ trivial ?_
          · intro w hSw
            go_simp
          simp only [List.getElem_toArray, List.getElem_cons_zero, List.getElem_cons_succ, Act.put, List.setIfInBounds_toArray, List.set_cons_zero, List.set_cons_succ]
          refine wpAnyT_one (i := 9) (by kernel_rfl) rfl (by rfl) ?_
          intro K hK
          refine wp_append_lies _ _ _ _ (by rfl) (w.heap.size + 5) 57 i2 _ 6 80 Try.underlying29 hi2 hz2 hs2 hb2 rfl (by omega) (.slice q2 M.length d2) M.length xs (by rfl) I1.out.own2 ⟨X.heap.size, 0, none⟩ 1 1 [.string s0, .slice ea ds.length ec, .int .i64 t0, .int .i64 l0, .int .i64 e0, .string fl0] (by rfl) (by rfl) (World.news_of_block (cs := #[.string s0, .slice ea ds.length ec, .int .i64 t0, .int .i64 l0, .int .i64 e0, .string fl0]) (t := 57) (fr := (0, 0)) (B2.out)) (by simp [Value.oneCell']) (by omega) (by unfold maxLen; omega) (by omega) I1.out.here _ rfl ?_
          intro j2 t2 Y2 o2 g2 at2 _
          have F3 : Far (w.heap.size + 5) S _ Y2 := far6_two I1.out g2
          have F2 : Hid (Far (w.heap.size + 5) S X Y2) := hid (F1.trans F3)
          have I2 : Hid (Iv6 56 57 (w.heap.size + 5) S (.slice (some ⟨j1, 0, none⟩) (M.length + 1) t1) (.slice (some ⟨j2, 0, none⟩) (M.length + 1) t2) (M.length + 1) (M.length + 1) (xs ++ [.string s0, .slice ea ds.length ec, .int .i64 t0, .int .i64 l0, .int .i64 e0, .string fl0]) (xs ++ [.string s0, .slice ea ds.length ec, .int .i64 t0, .int .i64 l0, .int .i64 e0, .string fl0]) Y2) := hid (I1.out.two o2 g2 at2)
          refine hK _ _ (fun c _ h => Sf.far F3 l8 l9 sn c h) ?_
          clear hK K o2 g2 at2 F3
          have r8 := (F2.out.stay ba (lt_of_heap ky8.out) (.inl l8)).trans ky8.out
          have r9 := (F2.out.stay bb (lt_of_heap ky9.out) (.inl l9)).trans ky9.out
          have v8 : Y2.cell? ⟨ba, 1, none⟩ = some (.slice q1 M.length d1) := by simp [World.cell?, r8]
          have z8 := frozen_there r8 1
          have r9' : ∀ v, (Y2.setCell ⟨ba, 1, none⟩ v).heap[bb]? = some (.cells #[.string nm, (.slice q2 M.length d2)] 31 (0, 0)) := fun v => (Below.heap_setCell _ _ _ _ (fun e => h89 e.symm)).trans r9
          have v9 : ∀ v, (Y2.setCell ⟨ba, 1, none⟩ v).cell? ⟨bb, 1, none⟩ = some (.slice q2 M.length d2) := fun v => by simp [World.cell?, r9' v]
          have z9 : ∀ v, (Y2.setCell ⟨ba, 1, none⟩ v).frozen? ⟨bb, 1, none⟩ = false := fun v => frozen_there (r9' v) 1
          clear r8 r9 r9'
          try simp only [List.getElem_toArray, List.getElem_cons_zero, List.getElem_cons_succ, Act.put, List.setIfInBounds_toArray, List.set_cons_zero, List.set_cons_succ]
          refine wpAnyT_one (i := 11) (by kernel_rfl) rfl (by rfl) ?_
          intro K hK
          simp only [List.getElem_toArray, List.getElem_cons_zero, List.getElem_cons_succ]
          go_simp
          refine hK _ _ (fun c hc h => Sf.store8 h89 hu8 c hc h) ?_
          clear hK K
          try simp only [List.getElem_toArray, List.getElem_cons_zero, List.getElem_cons_succ, Act.put, List.setIfInBounds_toArray, List.set_cons_zero, List.set_cons_succ]
          refine wpAnyT_take (i := 12) 2 (.pointer (some ⟨bb, 1, none⟩)) rfl (by kernel_rfl) (by kernel_rfl) (by kernel_rfl) (by kernel_rfl) (fun _ _ _ h => h) (by rfl) ?_ trivial ?_
          · intro w hSw
            go_simp
          simp only [List.getElem_toArray, List.getElem_cons_zero, List.getElem_cons_succ, Act.put, List.setIfInBounds_toArray, List.set_cons_zero, List.set_cons_succ]
          refine wpAnyT_one (i := 13) (by kernel_rfl) rfl (by rfl) ?_
          intro K hK
          simp only [List.getElem_toArray, List.getElem_cons_zero, List.getElem_cons_succ]
          go_simp
          refine hK _ _ (fun c hc h => Sf.store9 c hc) ?_
          clear hK K
          try simp only [List.getElem_toArray, List.getElem_cons_zero, List.getElem_cons_succ, Act.put, List.setIfInBounds_toArray, List.set_cons_zero, List.set_cons_succ]
          refine wpAnyT_done (by kernel_rfl) (NoPanic.normal ?_) _
          have hEnd := hid (fl_end (y := ⟨s0, ds, t0, l0, e0, fl0⟩) l8 l9 h89 ky8.out ky9.out kNF.out kDS.out F2.out I2.out)
          have kEn := hid (EV.far (Z := (Y2.setCell ⟨ba, 1, none⟩ (.slice (some ⟨j1, 0, none⟩) (M.length + 1) t1)).setCell ⟨bb, 1, none⟩ (.slice (some ⟨j2, 0, none⟩) (M.length + 1) t2)) kEX.out F2.out g8 g9 (by simp [World.setCell]) rfl rfl rfl hEnd.out.2)
          clear v8 z8 v9 z9
          go_wp2_with fail
          go_roundw
          case rel => exact ⟨i + 1, M ++ [⟨s0, ds, t0, l0, e0, fl0⟩], ci, by go_num, hcut, hid (by simp [hMl.out]), kEn, hid hEnd.out.1⟩
          case measure => simp [intOf]; omega

      · have eM : Hid (M = cutL L) := hid (by
          rw [hM.out, show i = min L.length 20 by rw [← HK.out]; omega]
          unfold cutL
          rcases Nat.le_total L.length 20 with q | q
          · rw [Nat.min_eq_left q, List.take_length, List.take_of_length_le q]
          · rw [Nat.min_eq_right q])
        obtain ⟨S, q1, q2, d1, d2, xs, y8, y9, hI, hN⟩ := hS.out
        have hE' := hE.out
        have z5 := hE'.2.1
        have e80 : wr.cell? ⟨ba, 0, none⟩ = some (.string nm) := by simp [World.cell?, y8]
        have e81 : wr.cell? ⟨ba, 1, none⟩ = some (.slice q1 M.length d1) := by simp [World.cell?, y8]
        have e90 : wr.cell? ⟨bb, 0, none⟩ = some (.string nm) := by simp [World.cell?, y9]
        have e91 : wr.cell? ⟨bb, 1, none⟩ = some (.slice q2 M.length d2) := by simp [World.cell?, y9]
        have p0 : wr.cell? ⟨w.heap.size + 1, 0, none⟩ = some (.string ⟨#[]⟩) := by simp [World.cell?, hE'.2.2.2.1]
        have p1 : wr.cell? ⟨w.heap.size + 1, 1, none⟩ = some (.slice none 0 0) := by simp [World.cell?, hE'.2.2.2.1]
        have p2 : wr.cell? ⟨w.heap.size + 1 + 1, 0, none⟩ = some (.string ⟨#[]⟩) := by simp [World.cell?, hE'.2.2.2.2]
        have p3 : wr.cell? ⟨w.heap.size + 1 + 1, 1, none⟩ = some (.slice none 0 0) := by simp [World.cell?, hE'.2.2.2.2]
        have f1 := frozen_there hE'.2.2.2.1
        have f2 : ∀ j, wr.frozen? ⟨w.heap.size + 1 + 1, j, none⟩ = false := frozen_there hE'.2.2.2.2
        have ne1 : ¬ w.heap.size + 1 = ba := by omega
        have ne2 : ¬ w.heap.size + 1 = bb := by omega
        have ne3 : ¬ w.heap.size + 1 + 1 = ba := by omega
        have ne4 : ¬ w.heap.size + 1 + 1 = bb := by omega
        have ne5 : ¬ ba = w.heap.size + 1 := by omega
        have ne6 : ¬ bb = w.heap.size + 1 := by omega
        have ne7 : ¬ ba = w.heap.size + 1 + 1 := by omega
        have ne8 : ¬ bb = w.heap.size + 1 + 1 := by omega
        have kI := hid hI
        have kN := hid hN
        clear hE' hI hN y8 y9 hS hM
        go_wp2_with fail
        go_region_held3 (fun w' => w'.cell? ⟨ba, 0, none⟩ = some (.string nm) ∧ w'.cell? ⟨ba, 1, none⟩ = some (.slice q1 M.length d1) ∧ w'.cell? ⟨bb, 0, none⟩ = some (.string nm) ∧ w'.cell? ⟨bb, 1, none⟩ = some (.slice q2 M.length d2)) (go_keep) (fail)
        go_wp2_with fail
        refine bodyPost_ret (v := .tuple #[.agg #[.string nm, .slice q1 M.length d1], .agg #[.string nm, .slice q2 M.length d2]]) (by simp [results, Try.results4, go_sem, p0, p1, p2, p3]) rfl ?_
        rw [← eM.out]
        exact fin (Z := (((((wr.setCell ⟨w.heap.size + 1, 0, none⟩ (.string nm)).setCell ⟨w.heap.size + 1, 1, none⟩ (.slice q1 M.length d1)).setCell ⟨w.heap.size + 1 + 1, 0, none⟩ (.string nm)).setCell ⟨w.heap.size + 1 + 1, 1, none⟩ (.slice q2 M.length d2)).drew)) hE.out kI.out kN.out
          (fun j h1 h2 => (Below.heap_setCell _ _ _ _ h2).trans ((Below.heap_setCell _ _ _ _ h2).trans ((Below.heap_setCell _ _ _ _ h1).trans (Below.heap_setCell _ _ _ _ h1)))) (by simp [World.setCell, World.drew]) rfl rfl rfl

end Go.Proofs.Ytainajjklakaeaa.Wgf
