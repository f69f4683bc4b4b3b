/-
  The memory of the laws' own 'build' at its steps: what lies there at the start, behind an inner call, behind the two appends. No Go text is in sight.
-/
import Derived.Test.YtainajjklakaeaaMathN
namespace Go.Proofs.Ytainajjklakaeaa.M
open Go.RowKit

section
variable {ti e1 e2 tm : TypeId} {W X : World} {ba at_ : Nat} {k m c : Int} {s : ByteArray}

theorem grown_set0 {w : World} {b : Nat} (v : Value) : w.grownBy (w.setCell ⟨b, 0, none⟩ v) (some b) :=
  ⟨rfl, rfl, rfl, by simp [World.setCell], fun k _ hk => Below.heap_setCell _ _ _ _ (fun e => hk (by rw [e]))⟩

/-- Behind the first four statements. -/
theorem start (ha : W.heap[ba]? = some (.cells #[.int .i64 (at_ : Int)] ti (0, 0)))
    (hX : X = (((W.setCell ⟨ba, 0, none⟩ (.int .i64 ((at_ : Int) + 1))).alloc (.cells #[.int .i64 0, .int .i64 0, .string ⟨#[]⟩, .slice none 0 0] e1)).alloc (.cells #[.int .i64 0, .int .i64 0, .string ⟨#[]⟩, .slice none 0 0] e2)).alloc (.cells #[.int .i64 k, .int .i64 m, .string s, .int .i64 c] tm)) :
    W.grownBy X (some ba) ∧ X.heap.size = W.heap.size + 3 ∧ X.heap[ba]? = some (.cells #[.int .i64 ((at_ + 1 : Nat) : Int)] ti (0, 0)) ∧
    X.heap[W.heap.size]? = some (.cells #[.int .i64 0, .int .i64 0, .string ⟨#[]⟩, .slice none 0 0] e1 (0, 0)) ∧ X.heap[W.heap.size + 1]? = some (.cells #[.int .i64 0, .int .i64 0, .string ⟨#[]⟩, .slice none 0 0] e2 (0, 0)) ∧
    X.heap[W.heap.size + 2]? = some (.cells #[.int .i64 k, .int .i64 m, .string s, .int .i64 c] tm (0, 0)) := by
  have lba := lt_of_heap ha
  have hx0 := heap_set1 ha 0 (.int .i64 ((at_ : Int) + 1))
  have hxz : (W.setCell ⟨ba, 0, none⟩ (.int .i64 ((at_ : Int) + 1))).heap.size = W.heap.size := by simp [World.setCell]
  have hg0 := grown_set0 (w := W) (b := ba) (.int .i64 ((at_ : Int) + 1))
  generalize W.setCell ⟨ba, 0, none⟩ (.int .i64 ((at_ : Int) + 1)) = V at *
  have y1 := heap_alloc_new V (.cells #[.int .i64 0, .int .i64 0, .string ⟨#[]⟩, .slice none 0 0] e1)
  have y2 := heap_alloc_new (V.alloc (.cells #[.int .i64 0, .int .i64 0, .string ⟨#[]⟩, .slice none 0 0] e1)) (.cells #[.int .i64 0, .int .i64 0, .string ⟨#[]⟩, .slice none 0 0] e2)
  have y3 := heap_alloc_new ((V.alloc (.cells #[.int .i64 0, .int .i64 0, .string ⟨#[]⟩, .slice none 0 0] e1)).alloc (.cells #[.int .i64 0, .int .i64 0, .string ⟨#[]⟩, .slice none 0 0] e2)) (.cells #[.int .i64 k, .int .i64 m, .string s, .int .i64 c] tm)
  rw [hxz] at y1
  rw [World.size_alloc, hxz] at y2
  rw [World.size_alloc, World.size_alloc, hxz] at y3
  subst hX
  refine ⟨grown_trans (grown_trans (grown_trans hg0 (grown_some (grown1 _ _) _)) (grown_some (grown1 _ _) _)) (grown_some (grown1 _ _) _), by simp [hxz], ?_, ?_, ?_, y3⟩
  · rw [Below.heap_alloc _ _ _ (by simp; omega), Below.heap_alloc _ _ _ (by simp; omega), Below.heap_alloc _ _ _ (by omega), hx0]
    simp
  · rw [Below.heap_alloc _ _ _ (by simp; omega), Below.heap_alloc _ _ _ (by simp; omega), y1]
  · rw [Below.heap_alloc _ _ _ (by simp; omega), y2]

/-- What is there is there behind a call that makes memory, and counts. -/
theorem Env.grown {Y : World} {a' : Nat} (h : Env ti e1 e2 tm W ba at_ k m c s X) (g : X.grownBy Y (some ba)) (hba : ba < W.heap.size) (ha : Y.heap[ba]? = some (.cells #[.int .i64 (a' : Int)] ti (0, 0))) : Env ti e1 e2 tm W ba a' k m c s Y := by
  obtain ⟨h1, h2, h3, h4, h5, h6⟩ := h
  exact ⟨grown_trans h1 g, Nat.le_trans h2 g.size, ha, (g.block _ (by omega) (by simp; omega)).trans h4, (g.block _ (by omega) (by simp; omega)).trans h5, (g.block _ (by omega) (by simp; omega)).trans h6⟩
theorem Env.same {Y : World} (h : Env ti e1 e2 tm W ba at_ k m c s X) (g : X.grownBy Y none) (hba : ba < W.heap.size) : Env ti e1 e2 tm W ba at_ k m c s Y :=
  h.grown (grown_some g _) hba ((g.block _ (by have := h.2.1; omega) (by simp)).trans h.2.2.1)

/-- The two heads, laid in whatever order. -/
theorem begun (x1 : W.grownBy X (some ba)) (x2 : X.heap.size = W.heap.size + 3) (x3 : X.heap[ba]? = some (.cells #[.int .i64 ((at_ + 1 : Nat) : Int)] ti (0, 0)))
    (x4 : X.heap[W.heap.size]? = some (.cells #[.int .i64 0, .int .i64 0, .string ⟨#[]⟩, .slice none 0 0] e1 (0, 0))) (x5 : X.heap[W.heap.size + 1]? = some (.cells #[.int .i64 0, .int .i64 0, .string ⟨#[]⟩, .slice none 0 0] e2 (0, 0)))
    (x6 : X.heap[W.heap.size + 2]? = some (.cells #[.int .i64 k, .int .i64 m, .string s, .int .i64 c] tm (0, 0))) (hba : ba < W.heap.size) (ea eb : TypeId) :
    Env ti e1 e2 tm W ba (at_ + 1) k m c s ((X.alloc (.cells #[.int .i64 k, .int .i64 m, .string s, .slice none 0 0] ea)).alloc (.cells #[.int .i64 k, .int .i64 m, .string s, .slice none 0 0] eb)) ∧
    ((X.alloc (.cells #[.int .i64 k, .int .i64 m, .string s, .slice none 0 0] ea)).alloc (.cells #[.int .i64 k, .int .i64 m, .string s, .slice none 0 0] eb)).heap[W.heap.size + 3]? = some (.cells #[.int .i64 k, .int .i64 m, .string s, .slice none 0 0] ea (0, 0)) ∧
    ((X.alloc (.cells #[.int .i64 k, .int .i64 m, .string s, .slice none 0 0] ea)).alloc (.cells #[.int .i64 k, .int .i64 m, .string s, .slice none 0 0] eb)).heap[W.heap.size + 4]? = some (.cells #[.int .i64 k, .int .i64 m, .string s, .slice none 0 0] eb (0, 0)) ∧
    W.heap.size + 5 ≤ ((X.alloc (.cells #[.int .i64 k, .int .i64 m, .string s, .slice none 0 0] ea)).alloc (.cells #[.int .i64 k, .int .i64 m, .string s, .slice none 0 0] eb)).heap.size := by
  have y1 := heap_alloc_new X (.cells #[.int .i64 k, .int .i64 m, .string s, .slice none 0 0] ea)
  have y2 := heap_alloc_new (X.alloc (.cells #[.int .i64 k, .int .i64 m, .string s, .slice none 0 0] ea)) (.cells #[.int .i64 k, .int .i64 m, .string s, .slice none 0 0] eb)
  rw [x2] at y1
  rw [World.size_alloc, x2] at y2
  have g := grown2 X (.cells #[.int .i64 k, .int .i64 m, .string s, .slice none 0 0] ea) (.cells #[.int .i64 k, .int .i64 m, .string s, .slice none 0 0] eb)
  refine ⟨⟨grown_trans x1 (grown_some g _), by simp [x2], (g.block _ (by omega) (by simp)).trans x3, (g.block _ (by omega) (by simp)).trans x4, (g.block _ (by omega) (by simp)).trans x5, (g.block _ (by omega) (by simp)).trans x6⟩, ?_, y2, by simp [x2]⟩
  rw [Below.heap_alloc _ _ _ (by simp; omega), y1]

theorem st_nil {base b8 b9 : Nat} (h8 : X.heap[b8]? = some (.cells #[.int .i64 k, .int .i64 m, .string s, .slice none 0 0] e1 (0, 0))) (h9 : X.heap[b9]? = some (.cells #[.int .i64 k, .int .i64 m, .string s, .slice none 0 0] e2 (0, 0))) (hb : base ≤ X.heap.size) : St e1 e2 base b8 b9 k m s .nil X :=
  ⟨fun _ => False, none, none, 0, 0, [], [], h8, h9, ⟨World.ownsRow_nil _ _ _ _, World.ownsRow_nil _ _ _ _, .inl rfl, fun _ h => h.elim, hb⟩, rfl, rfl⟩

/-- .. and the two values under way are there behind such a call. -/
theorem St.grown {Y : World} {base b8 b9 : Nat} {f : F} (h : St e1 e2 base b8 b9 k m s f X) (g : X.grownBy Y (some ba)) (hba : ba < base) (h8 : b8 ≠ ba) (h9 : b9 ≠ ba) : St e1 e2 base b8 b9 k m s f Y := by
  obtain ⟨S, p1, p2, c1, c2, xs1, xs2, a1, a2, hI, f1, f2⟩ := h
  have hk : ∀ x, S x → ∀ o, X.heap[x]? = some o → Y.heap[x]? = some o := fun x hx o ho => (g.block x (lt_of_heap ho) (by have := (hI.kids x hx).1; simp; omega)).trans ho
  refine ⟨S, p1, p2, c1, c2, xs1, xs2, (g.block b8 (lt_of_heap a1) (by simp; omega)).trans a1, (g.block b9 (lt_of_heap a2) (by simp; omega)).trans a2, ⟨hI.own1.kept g ?_, hI.own2.kept g ?_, hI.apart, fun x hx => ⟨(hI.kids x hx).1, Nat.lt_of_lt_of_le (hI.kids x hx).2.1 g.size, (hI.kids x hx).2.2⟩, Nat.le_trans hI.here g.size⟩, fits_of (fun _ h => h) hk f1, fits_of (fun _ h => h) hk f2⟩
  · right
    intro e
    have := (hI.own1.lt ba e).1
    omega
  · right
    intro e
    have := (hI.own2.lt ba e).1
    omega
end

section
variable {ti e1 e2 tm : TypeId} {W wr w2 X Y : World} {ba at_ base b8 b9 : Nat} {k m c k' m' : Int} {s s' : ByteArray} {f l : F} {p1 p2 : Option Addr} {c1 c2 : Nat}

/-- Behind an inner call: its two values beside the two under way. -/
theorem joined (hS : St e1 e2 base b8 b9 k m s f wr) (g : wr.grownBy w2 (some ba)) (hba : ba < base) (h8 : b8 ≠ ba) (h9 : b9 ≠ ba) (R1 : Rd w2 (fun g => wr.heap.size ≤ g) (.slice p1 l.len c1) l) (R2 : Rd w2 (fun g => wr.heap.size ≤ g) (.slice p2 l.len c2) l)
    (hX : X = (w2.alloc (.cells #[.int .i64 k', .int .i64 m', .string s', .slice p1 l.len c1] e1)).alloc (.cells #[.int .i64 k', .int .i64 m', .string s', .slice p2 l.len c2] e2)) :
    ∃ (S : Nat → Prop) (q1 q2 : Option Addr) (d1 d2 : Nat) (xs1 xs2 : List Value),
      X.heap[b8]? = some (.cells #[.int .i64 k, .int .i64 m, .string s, .slice q1 f.len d1] e1 (0, 0)) ∧ X.heap[b9]? = some (.cells #[.int .i64 k, .int .i64 m, .string s, .slice q2 f.len d2] e2 (0, 0)) ∧
      Inv e1 e2 base S (.slice q1 f.len d1) (.slice q2 f.len d2) f.len f.len xs1 xs2 X ∧ Fits X S f xs1 ∧ Fits X S f xs2 ∧ Rd X S (.slice p1 l.len c1) l ∧ Rd X S (.slice p2 l.len c2) l ∧
      X.heap[w2.heap.size]? = some (.cells #[.int .i64 k', .int .i64 m', .string s', .slice p1 l.len c1] e1 (0, 0)) ∧ X.heap[w2.heap.size + 1]? = some (.cells #[.int .i64 k', .int .i64 m', .string s', .slice p2 l.len c2] e2 (0, 0)) ∧ S w2.heap.size ∧ S (w2.heap.size + 1) ∧ X.heap.size = w2.heap.size + 2 := by
  obtain ⟨S, q1, q2, d1, d2, xs1, xs2, a1, a2, hI, f1, f2⟩ := hS
  have y1 := heap_alloc_new w2 (.cells #[.int .i64 k', .int .i64 m', .string s', .slice p1 l.len c1] e1)
  have y2 := heap_alloc_new (w2.alloc (.cells #[.int .i64 k', .int .i64 m', .string s', .slice p1 l.len c1] e1)) (.cells #[.int .i64 k', .int .i64 m', .string s', .slice p2 l.len c2] e2)
  rw [World.size_alloc] at y2
  have gx : w2.grownBy X none := by rw [hX]; exact grown2 _ _ _
  have gw : wr.grownBy X (some ba) := grown_trans g (grown_some gx _)
  have hz : X.heap.size = w2.heap.size + 2 := by rw [hX]; simp
  have hh := hI.here
  have hgs := g.size
  have hk : ∀ x, S x → ∀ o, wr.heap[x]? = some o → X.heap[x]? = some o := fun x hx o ho => (gw.block x (lt_of_heap ho) (by have := (hI.kids x hx).1; simp; omega)).trans ho
  refine ⟨fun x => S x ∨ (wr.heap.size ≤ x ∧ x < X.heap.size), q1, q2, d1, d2, xs1, xs2, (gw.block b8 (lt_of_heap a1) (by simp; omega)).trans a1, (gw.block b9 (lt_of_heap a2) (by simp; omega)).trans a2, ⟨hI.own1.kept gw ?_, hI.own2.kept gw ?_, hI.apart, ?_, by omega⟩, fits_of (fun _ h => .inl h) hk f1, fits_of (fun _ h => .inl h) hk f2, ?_, ?_, ?_, ?_, .inr ⟨hgs, by omega⟩, .inr ⟨by omega, by omega⟩, hz⟩
  · right; intro e; have := (hI.own1.lt ba e).1; omega
  · right; intro e; have := (hI.own2.lt ba e).1; omega
  · rintro x (hx | ⟨hx1, hx2⟩)
    · exact ⟨(hI.kids x hx).1, Nat.lt_of_lt_of_le (hI.kids x hx).2.1 gw.size, (hI.kids x hx).2.2⟩
    · refine ⟨by omega, hx2, ?_, ?_⟩
      · intro e; have := (hI.own1.lt x e).2; omega
      · intro e; have := (hI.own2.lt x e).2; omega
  · exact rd_of (fun x h => .inr ⟨h.1, Nat.lt_of_lt_of_le h.2 gx.size⟩) (fun x h o ho => (gx.block x h.2 (by simp)).trans ho) (rd_size R1)
  · exact rd_of (fun x h => .inr ⟨h.1, Nat.lt_of_lt_of_le h.2 gx.size⟩) (fun x h o ho => (gx.block x h.2 (by simp)).trans ho) (rd_size R2)
  · rw [hX, Below.heap_alloc _ _ _ (by simp), y1]
  · rw [hX, y2]

/-- Behind the two appends, and the stores of what they gave. -/
theorem ended {S : Nat → Prop} {q1 q2 : Option Addr} {d1 d2 g1 g2 t1 t2 : Nat} {xs1 xs2 : List Value} (l8 : b8 < base) (l9 : b9 < base) (h89 : b8 ≠ b9)
    (a1 : X.heap[b8]? = some (.cells #[.int .i64 k, .int .i64 m, .string s, .slice q1 f.len d1] e1 (0, 0))) (a2 : X.heap[b9]? = some (.cells #[.int .i64 k, .int .i64 m, .string s, .slice q2 f.len d2] e2 (0, 0)))
    (f1 : Fits X S f xs1) (f2 : Fits X S f xs2) (R1 : Rd X S (.slice p1 l.len c1) l) (R2 : Rd X S (.slice p2 l.len c2) l) (hF : Far base S X Y)
    (hI : Inv e1 e2 base S (.slice (some ⟨g1, 0, none⟩) (f.len + 1) t1) (.slice (some ⟨g2, 0, none⟩) (f.len + 1) t2) (f.len + 1) (f.len + 1) (xs1 ++ [.int .i64 k', .int .i64 m', .string s', .slice p1 l.len c1]) (xs2 ++ [.int .i64 k', .int .i64 m', .string s', .slice p2 l.len c2]) Y) :
    St e1 e2 base b8 b9 k m s (f.app (.cons k' m' s' l .nil)) ((Y.setCell ⟨b8, 3, none⟩ (.slice (some ⟨g1, 0, none⟩) (f.len + 1) t1)).setCell ⟨b9, 3, none⟩ (.slice (some ⟨g2, 0, none⟩) (f.len + 1) t2)) ∧
    (∀ j, j ≠ b8 → j ≠ b9 → ((Y.setCell ⟨b8, 3, none⟩ (.slice (some ⟨g1, 0, none⟩) (f.len + 1) t1)).setCell ⟨b9, 3, none⟩ (.slice (some ⟨g2, 0, none⟩) (f.len + 1) t2)).heap[j]? = Y.heap[j]?) := by
  have hlen : (f.app (.cons k' m' s' l .nil)).len = f.len + 1 := by rw [F.len_app]; rfl
  have y8 := (hF.stay b8 (lt_of_heap a1) (.inl l8)).trans a1
  have y9 := (hF.stay b9 (lt_of_heap a2) (.inl l9)).trans a2
  have z8 := heap_set1 y8 3 (.slice (some ⟨g1, 0, none⟩) (f.len + 1) t1)
  have z9 := heap_set1 ((Below.heap_setCell Y ⟨b8, 3, none⟩ (.slice (some ⟨g1, 0, none⟩) (f.len + 1) t1) b9 (fun e => h89 e.symm)).trans y9) 3 (.slice (some ⟨g2, 0, none⟩) (f.len + 1) t2)
  have hoth : ∀ j, j ≠ b8 → j ≠ b9 → ((Y.setCell ⟨b8, 3, none⟩ (.slice (some ⟨g1, 0, none⟩) (f.len + 1) t1)).setCell ⟨b9, 3, none⟩ (.slice (some ⟨g2, 0, none⟩) (f.len + 1) t2)).heap[j]? = Y.heap[j]? := fun j hj1 hj2 => (Below.heap_setCell _ _ _ _ hj2).trans (Below.heap_setCell _ _ _ _ hj1)
  have hsz : ((Y.setCell ⟨b8, 3, none⟩ (.slice (some ⟨g1, 0, none⟩) (f.len + 1) t1)).setCell ⟨b9, 3, none⟩ (.slice (some ⟨g2, 0, none⟩) (f.len + 1) t2)).heap.size = Y.heap.size := by simp [World.setCell]
  have hS : ∀ x, S x → ∀ o, Y.heap[x]? = some o → ((Y.setCell ⟨b8, 3, none⟩ (.slice (some ⟨g1, 0, none⟩) (f.len + 1) t1)).setCell ⟨b9, 3, none⟩ (.slice (some ⟨g2, 0, none⟩) (f.len + 1) t2)).heap[x]? = some o := fun x hx o ho => (hoth x (by have := (hI.kids x hx).1; omega) (by have := (hI.kids x hx).1; omega)).trans ho
  have own : ∀ {e : TypeId} {v : Value} {n : Nat} {xs : List Value}, Y.ownsRow base e 4 v n xs → ((Y.setCell ⟨b8, 3, none⟩ (.slice (some ⟨g1, 0, none⟩) (f.len + 1) t1)).setCell ⟨b9, 3, none⟩ (.slice (some ⟨g2, 0, none⟩) (f.len + 1) t2)).ownsRow base e 4 v n xs := by
    intro e v n xs h
    refine ⟨h.1, ?_⟩
    rcases h.2 with h2 | ⟨gg, cap, cur, h1, h2, h3, h4⟩
    · exact .inl h2
    · exact .inr ⟨gg, cap, cur, h1, h2, (hoth gg (by omega) (by omega)).trans h3, h4⟩
  refine ⟨⟨S, some ⟨g1, 0, none⟩, some ⟨g2, 0, none⟩, t1, t2, xs1 ++ [.int .i64 k', .int .i64 m', .string s', .slice p1 l.len c1], xs2 ++ [.int .i64 k', .int .i64 m', .string s', .slice p2 l.len c2], ?_, ?_, ?_, ?_, ?_⟩, hoth⟩
  · rw [hlen, Below.heap_setCell _ _ _ _ h89, z8]
    simp
  · rw [hlen, z9]
    simp
  · rw [hlen]
    exact ⟨own hI.own1, own hI.own2, hI.apart, fun x hx => ⟨(hI.kids x hx).1, by rw [hsz]; exact (hI.kids x hx).2.1, (hI.kids x hx).2.2⟩, by rw [hsz]; exact hI.here⟩
  · exact fits_app (fits_of (fun _ h => h) hS (hF.fits f1)) (fits_one (rd_of (fun _ h => h) hS (hF.rd R1)))
  · exact fits_app (fits_of (fun _ h => h) hS (hF.fits f2)) (fits_one (rd_of (fun _ h => h) hS (hF.rd R2)))

/-- The cells that the statement reads. -/
theorem ten {S : Nat → Prop} (F : Far base S X Y) {ua ub : Nat} (h8 : b8 < base) (h9 : b9 < base) (sa : S ua) (sb : S ub) {v8 v9 x0 x1 x2 x3 y0 y1 y2 y3 : Value}
    (h : X.cell? ⟨b8, 3, none⟩ = some v8 ∧ X.cell? ⟨b9, 3, none⟩ = some v9 ∧ X.cell? ⟨ua, 0, none⟩ = some x0 ∧ X.cell? ⟨ua, 1, none⟩ = some x1 ∧ X.cell? ⟨ua, 2, none⟩ = some x2 ∧ X.cell? ⟨ua, 3, none⟩ = some x3 ∧ X.cell? ⟨ub, 0, none⟩ = some y0 ∧ X.cell? ⟨ub, 1, none⟩ = some y1 ∧ X.cell? ⟨ub, 2, none⟩ = some y2 ∧ X.cell? ⟨ub, 3, none⟩ = some y3) :
    Y.cell? ⟨b8, 3, none⟩ = some v8 ∧ Y.cell? ⟨b9, 3, none⟩ = some v9 ∧ Y.cell? ⟨ua, 0, none⟩ = some x0 ∧ Y.cell? ⟨ua, 1, none⟩ = some x1 ∧ Y.cell? ⟨ua, 2, none⟩ = some x2 ∧ Y.cell? ⟨ua, 3, none⟩ = some x3 ∧ Y.cell? ⟨ub, 0, none⟩ = some y0 ∧ Y.cell? ⟨ub, 1, none⟩ = some y1 ∧ Y.cell? ⟨ub, 2, none⟩ = some y2 ∧ Y.cell? ⟨ub, 3, none⟩ = some y3 := by
  obtain ⟨q0, q1, q2, q3, q4, q5, q6, q7, q8, q9⟩ := h
  exact ⟨F.cell q0 (.inl h8), F.cell q1 (.inl h9), F.cell q2 (.inr sa), F.cell q3 (.inr sa), F.cell q4 (.inr sa), F.cell q5 (.inr sa), F.cell q6 (.inr sb), F.cell q7 (.inr sb), F.cell q8 (.inr sb), F.cell q9 (.inr sb)⟩

/-- What else is there is there behind them. -/
theorem Env.far {Z : World} {S : Nat → Prop} (h : Env ti e1 e2 tm W ba at_ k m c s X) (hF : Far (W.heap.size + 5) S X Y) (hba : ba < W.heap.size) (g8 : W.heap.size + 3 ≤ b8) (g9 : W.heap.size + 3 ≤ b9) (hz : Z.heap.size = Y.heap.size) (ho : Z.os = Y.os) (ht : Z.tape = Y.tape) (hu : Z.output = Y.output) (hj : ∀ j, j ≠ b8 → j ≠ b9 → Z.heap[j]? = Y.heap[j]?) : Env ti e1 e2 tm W ba at_ k m c s Z := by
  obtain ⟨h1, h2, h3, h4, h5, h6⟩ := h
  have hs := hF.size
  refine ⟨⟨(ho.trans hF.os).trans h1.os, (ht.trans hF.tape).trans h1.tape, (hu.trans hF.output).trans h1.output, by omega, fun j hj1 hj2 => ?_⟩, by omega, ?_, ?_, ?_, ?_⟩
  · exact (hj j (by omega) (by omega)).trans ((hF.stay j (by omega) (.inl (by omega))).trans (h1.block j hj1 hj2))
  · exact (hj _ (by omega) (by omega)).trans ((hF.stay _ (by omega) (.inl (by omega))).trans h3)
  · exact (hj _ (by omega) (by omega)).trans ((hF.stay _ (by omega) (.inl (by omega))).trans h4)
  · exact (hj _ (by omega) (by omega)).trans ((hF.stay _ (by omega) (.inl (by omega))).trans h5)
  · exact (hj _ (by omega) (by omega)).trans ((hF.stay _ (by omega) (.inl (by omega))).trans h6)
end

end Go.Proofs.Ytainajjklakaeaa.M
