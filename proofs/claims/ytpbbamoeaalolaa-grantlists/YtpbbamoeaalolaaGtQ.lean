/-
  What the code's Reach keeps in memory: who is found, a set of them, and the ways. Nothing is asked but what each fact names.
-/
import Derived.Test.YtpbbamoeaalolaaGtZ
namespace Go.Proofs.Ytpbbamoeaalolaa.Wg
open Go.ChangeShapes Go.WideShapes Go.ChangeAt Go.RowKit Go.Proofs.Ytpbbamoeaalolaa.M Go.Maps

def I64 (x : Int) : Prop := -9223372036854775808 ≤ x ∧ x < 9223372036854775808
theorem lawI : Keyed Try.prog 3 := int_keyed Try.underlying3
theorem keyI {x : Int} (h : I64 x) : keyOf Try.prog 3 (.int .i64 x) = some (.int .i64 x) := keyOf_int_mk Try.underlying3 (wfI h)
theorem litI_ne {x y : Int} (h : x ≠ y) : Lit.int .i64 x ≠ Lit.int .i64 y := fun e => h (by injection e)

structure Qs (w wr : World) (g b B : Nat) (W : List Ed) (v : Value) (F : List Int) (D : DataW Unit) : Prop where
  bw : Below w.heap.size w wr
  rd : Rd eC wr g 0 W
  gl : g < B
  gw : w.heap.size ≤ g
  own : wr.ownsRow B 3 1 v F.length (F.map (Value.int .i64))
  map : wr.ownsMap (H := Unit) Try.prog 3 unitElem b F.length D
  bl : B ≤ b
  bB : B ≤ wr.heap.size
  has : ∀ x, I64 x → Maps.has D (.int .i64 x) = decide (x ∈ F)
theorem row_ne_map {w : World} {b n m base e size : Nat} {D : DataW Unit} {v : Value} {xs : List Value} {k : Nat} (h : w.ownsRow base e size v m xs) (k' : w.ownsMap (H := Unit) Try.prog k unitElem b n D) : some b ≠ v.ownBlock := by
  obtain ⟨es, cl, q, _⟩ := k'
  rcases h.2 with ⟨rfl, _⟩ | ⟨g, cap, cur, rfl, _, hg, _⟩
  · intro e; cases e
  · intro e
    have e' : b = g := by
      unfold Value.ownBlock at e
      injection e
    rw [e', hg] at q
    cases q
theorem Qs.grown {w wr w' : World} {g b B : Nat} {W : List Ed} {v : Value} {F : List Int} {D : DataW Unit} (q : Qs w wr g b B W v F D) (k : Below wr.heap.size wr w') : Qs w w' g b B W v F D where
  bw := q.bw.trans (k.mono q.bw.size)
  rd i x hx t u hu := (k.cell (p := ⟨g, 0 + i * 2 + t, none⟩) (Nat.lt_of_lt_of_le q.gl q.bB)).trans (q.rd i x hx t u hu)
  gl := q.gl
  gw := q.gw
  own := own_below q.own k
  map := q.map.kept (grown_of k) (by simp)
  bl := q.bl
  bB := Nat.le_trans q.bB k.size
  has := q.has
/-- One more is found. -/
theorem Qs.more {w wr w5 w6 : World} {g b B : Nat} {W : List Ed} {v v6 : Value} {F : List Int} {D : DataW Unit} {o : Obj} {y : Int} (q : Qs w wr g b B W v F D) (hy : I64 y) (hn : y ∉ F)
    (hown5 : w5.ownsMap (H := Unit) Try.prog 3 unitElem b (F.length + 1) (D.put (.int .i64 y) (.agg []))) (hg5 : wr.grownBy w5 (some b))
    (o6 : w6.ownsRow B 3 1 v6 (F.length + 1) (F.map (Value.int .i64) ++ [.int .i64 y])) (g6 : (w5.alloc o).grownBy w6 v.ownBlock) : Qs w w6 g b B W v6 (F ++ [y]) (D.put (.int .i64 y) (.agg [])) := by
  have own5 := q.own.kept hg5 (.inr (row_ne_map q.own q.map).symm)
  have hgb : g ≠ b := by have := q.gl; have := q.bl; omega
  have z5 := hg5.size
  have z6 := g6.size
  have gl := Nat.lt_of_lt_of_le q.gl q.bB
  have hwB : w.heap.size ≤ B := by have := q.gl; have := q.gw; omega
  have lo := fun k hk => (q.own.lt k hk).1
  have eg : w6.heap[g]? = wr.heap[g]? := (g6.block g (by simp; omega) (fun e => by have := lo g e.symm; have := q.gl; omega)).trans ((heap_alloc_old w5 o (by omega)).trans (hg5.block g gl (fun e => hgb (by injection e))))
  refine ⟨?_, fun i x hx t u hu => ?_, q.gl, q.gw, ?_, ?_, q.bl, ?_, fun x hx => ?_⟩
  · refine ((q.bw.grown hg5 q.bw.size (fun j hj => ?_)).alloc (by have := q.bw.size; omega) o).grown g6 (by have := q.bw.size; simp; omega) (fun j hj => by have := lo j hj; omega)
    injection hj with e
    have := q.bl
    omega
  · exact (World.cell?_of_block (w := wr) eg).trans (q.rd i x hx t u hu)
  · rw [List.length_append, List.map_append]
    exact o6
  · rw [List.length_append]
    exact (hown5.alloc o).kept g6 (row_ne_map q.own q.map)
  · have := q.bB
    simp at z6
    omega
  · by_cases e : x = y
    · subst e
      rw [has_put_same q.map.isMap (show WideAt.IsKeyLit (.int .i64 x) from trivial), decide_eq_true (by simp)]
    · rw [has_put_other (litI_ne e), q.has x hx]
      exact decide_eq_decide.2 (by simp [e])

end Go.Proofs.Ytpbbamoeaalolaa.Wg
