/-
  The walk of the laws' own 'build': the two values that it returns read alike, in new memory, and have at most 400 inner ones and themselves. Nothing that was in memory has turned. Conditions: the items can be read.
-/
import Derived.Test.YtainajjklakaeaaNext
import Derived.Laws.EntriesVeiled
namespace Go.Proofs.Ytainajjklakaeaa.Wn
open Go.ChangeShapes Go.WideShapes Go.ChangeAt Go.RowKit Go.Proofs.Ytainajjklakaeaa.M Go.Proofs.Ytainajjklakaeaa.We

/-- What 'build' gives. -/
def Built (w : World) (e : Ending) (w' : World) : Prop := ∃ (k m : Int) (s : ByteArray) (f : F) (p1 p2 : Option Addr) (c1 c2 : Nat),
  e = .returned (.tuple #[.agg #[.int .i64 k, .int .i64 m, .string s, .slice p1 f.len c1], .agg #[.int .i64 k, .int .i64 m, .string s, .slice p2 f.len c2]]) ∧
  Rd w' (fun g => w.heap.size ≤ g) (.slice p1 f.len c1) f ∧ Rd w' (fun g => w.heap.size ≤ g) (.slice p2 f.len c2) f ∧ (F.cons k m s f .nil).ok ∧ f.nodes ≤ 400 ∧ Below w.heap.size w w'

theorem empty (ba bl bn cap : Nat) (p : Option Addr) (W : World) (ha : W.cell? ⟨ba, 0, none⟩ = some (.int .i64 0)) (hl : W.cell? ⟨bl, 0, none⟩ = some (.slice p 0 cap)) :
    Calls Try.prog 12 #[.int .i64 0, .pointer (some ⟨ba, 0, none⟩), .pointer (some ⟨bl, 0, none⟩), .pointer (some ⟨bn, 0, none⟩)] W fun e w' =>
      e = .returned (.tuple #[.agg #[.int .i64 0, .int .i64 0, .string ⟨#[]⟩, .slice none 0 0], .agg #[.int .i64 0, .int .i64 0, .string ⟨#[]⟩, .slice none 0 0]]) ∧ Below W.heap.size W w' := by
  have lba := World.block_lt_of_cell? W _ ha
  have lbl := World.block_lt_of_cell? W _ hl
  simp only at lba lbl
  go_enter Try.func12, Try.ntmps12
  go_wp2_with fail
  exact bodyPost_ret (v := .tuple #[.agg #[.int .i64 0, .int .i64 0, .string ⟨#[]⟩, .slice none 0 0], .agg #[.int .i64 0, .int .i64 0, .string ⟨#[]⟩, .slice none 0 0]]) (by simp [results, Try.results12, go_sem]) rfl ⟨rfl, ((Below.refl _ _).alloc (Nat.le_refl _) _).alloc (by simp) _⟩

theorem five (w : World) (a b c d e : Obj) : ∀ X, X = ((((w.alloc a).alloc b).alloc c).alloc d).alloc e → X.heap[w.heap.size]? = some a ∧ X.heap[w.heap.size + 1]? = some b ∧ X.heap[w.heap.size + 2]? = some c ∧ X.heap[w.heap.size + 3]? = some d ∧ X.heap[w.heap.size + 4]? = some e ∧ X.heap.size = w.heap.size + 5 ∧ w.grownBy X none := by
  intro X hX
  have y1 := heap_alloc_new w a
  have y2 := heap_alloc_new (w.alloc a) b
  have y3 := heap_alloc_new ((w.alloc a).alloc b) c
  have y4 := heap_alloc_new (((w.alloc a).alloc b).alloc c) d
  have y5 := heap_alloc_new ((((w.alloc a).alloc b).alloc c).alloc d) e
  simp only [World.size_alloc] at y2 y3 y4 y5
  subst hX
  refine ⟨?_, ?_, ?_, ?_, y5, by simp, grown_trans (grown_trans (grown2 w a b) (grown2 _ c d)) (grown1 _ e)⟩
  · rw [Below.heap_alloc _ _ _ (by simp; omega), Below.heap_alloc _ _ _ (by simp; omega), Below.heap_alloc _ _ _ (by simp; omega), Below.heap_alloc _ _ _ (by simp), y1]
  · rw [Below.heap_alloc _ _ _ (by simp only [World.size_alloc]; omega), Below.heap_alloc _ _ _ (by simp only [World.size_alloc]; omega), Below.heap_alloc _ _ _ (by simp), y2]
  · rw [Below.heap_alloc _ _ _ (by simp only [World.size_alloc]; omega), Below.heap_alloc _ _ _ (by simp), y3]
  · rw [Below.heap_alloc _ _ _ (by simp), y4]

set_option maxHeartbeats 1000000 in
theorem build (p : Option Addr) (n cap : Nat) (w : World) (hI : n = 0 ∨ ∃ gl ol, p = some ⟨gl, ol, none⟩ ∧ Items w gl ol n) :
    Calls Try.prog 5 #[.slice p n cap] w fun e w' => Built w e w' := by
  have hmf : ∀ (fn : Fn) (first cap : Array Value) (w : World), (Instr.makeFunc fn first cap).run Try.prog w = .ok (.func fn first cap) w := fun _ _ _ _ => rfl
  have CC : Hid (∀ X, X = ((((w.alloc (.cells #[.slice p n cap] 25)).alloc (.cells #[.int .i64 0, .int .i64 0, .string ⟨#[]⟩, .slice none 0 0] 37)).alloc (.cells #[.int .i64 0, .int .i64 0, .string ⟨#[]⟩, .slice none 0 0] 40)).alloc (.cells #[.int .i64 0] 3)).alloc (.cells #[(.func (.func 12) #[] #[.pointer (some ⟨w.heap.size + 1 + 1 + 1, 0, none⟩), .pointer (some ⟨w.heap.size, 0, none⟩), .pointer (some ⟨w.heap.size + 1 + 1 + 1 + 1, 0, none⟩)])] 58) → Calls Try.prog 12 #[.int .i64 0, .pointer (some ⟨w.heap.size + 1 + 1 + 1, 0, none⟩), .pointer (some ⟨w.heap.size, 0, none⟩), .pointer (some ⟨w.heap.size + 1 + 1 + 1 + 1, 0, none⟩)] X fun e w' => ∃ (k m : Int) (s : ByteArray) (f : F) (p1 p2 : Option Addr) (c1 c2 : Nat),
      e = .returned (.tuple #[.agg #[.int .i64 k, .int .i64 m, .string s, .slice p1 f.len c1], .agg #[.int .i64 k, .int .i64 m, .string s, .slice p2 f.len c2]]) ∧
      Hid (Rd w' (fun g => w.heap.size + 5 ≤ g) (.slice p1 f.len c1) f) ∧ Hid (Rd w' (fun g => w.heap.size + 5 ≤ g) (.slice p2 f.len c2) f) ∧ Hid ((F.cons k m s f .nil).ok) ∧ Hid (f.nodes ≤ 400) ∧ Hid (Below w.heap.size w w') ∧
      Hid (w'.heap[w.heap.size + 1]? = some (.cells #[.int .i64 0, .int .i64 0, .string ⟨#[]⟩, .slice none 0 0] 37 (0, 0))) ∧ Hid (w'.heap[w.heap.size + 2]? = some (.cells #[.int .i64 0, .int .i64 0, .string ⟨#[]⟩, .slice none 0 0] 40 (0, 0)))) := by
    intro X hX
    obtain ⟨x1, x2, x3, x4, x5, x6, x7⟩ := five _ _ _ _ _ _ X hX
    have xb := (below_grown x7)
    rcases hI with h0 | ⟨gl, ol, hp, hIt⟩
    · subst h0
      refine (empty (w.heap.size + 1 + 1 + 1) w.heap.size (w.heap.size + 1 + 1 + 1 + 1) cap p X (by simp [World.cell?, x4]) (by simp [World.cell?, x1])).mono ?_
      rintro e w' ⟨he, hb⟩
      exact ⟨0, 0, ⟨#[]⟩, .nil, none, none, 0, 0, he, rd_nil _ _, rd_nil _ _, ⟨by decide, by decide, by decide, trivial, trivial⟩, Nat.zero_le _, xb.trans (hb.mono (by omega)), (hb.block _ (by omega)).trans x2, (hb.block _ (by omega)).trans x3⟩
    · by_cases h0 : n = 0
      · subst h0
        refine (empty (w.heap.size + 1 + 1 + 1) w.heap.size (w.heap.size + 1 + 1 + 1 + 1) cap p X (by simp [World.cell?, x4]) (by simp [World.cell?, x1])).mono ?_
        rintro e w' ⟨he, hb⟩
        exact ⟨0, 0, ⟨#[]⟩, .nil, none, none, 0, 0, he, rd_nil _ _, rd_nil _ _, ⟨by decide, by decide, by decide, trivial, trivial⟩, Nat.zero_le _, xb.trans (hb.mono (by omega)), (hb.block _ (by omega)).trans x2, (hb.block _ (by omega)).trans x3⟩
      · subst hp
        obtain ⟨_, _, _, _, hc0, _⟩ := hIt 0 (by omega)
        have hgl := World.block_lt_of_cell? w _ hc0
        simp only at hgl
        refine (next (w.heap.size + 1 + 1 + 1) w.heap.size (w.heap.size + 1 + 1 + 1 + 1) gl ol n cap 401 X 0 0 (by omega) (by omega) (by omega) (by omega) x4 (by simp [World.cell?, x1]) (by simp [World.cell?, x5]) (by omega) (by omega) (by omega) (hIt.grown (grown_some x7 (some (w.heap.size + 1 + 1 + 1))) (by omega))).mono ?_
        rintro e w' ⟨k, m, s, f, p1, p2, c1, c2, a, he, r1, r2, ho, hn, _, ha, hba, hg⟩
        refine ⟨k, m, s, f, p1, p2, c1, c2, he, rd_of (fun g h => by omega) (fun _ _ _ h => h) r1, rd_of (fun g h => by omega) (fun _ _ _ h => h) r2, ho, by show f.nodes ≤ 400; omega, ?_, (hg.block _ (by omega) (by simp)).trans x2, (hg.block _ (by omega) (by simp)).trans x3⟩
        exact ⟨hg.os.trans x7.os, hg.tape.trans x7.tape, hg.output.trans x7.output, Nat.le_trans x7.size hg.size, fun j hj => (hg.block j (by omega) (by simp; omega)).trans (x7.block j hj (by simp))⟩
  clear hI
  go_enter Try.func5, Try.ntmps5
  go_wp2_with fail
  refine (CC.out _ rfl).mono ?_
  rintro e w1 ⟨k, m, s, f, p1, p2, c1, c2, rfl, r1, r2, ho, hn, hb, y1, y2⟩
  have q0 : w1.cell? ⟨w.heap.size + 1, 0, none⟩ = some (.int .i64 0) := by simp [World.cell?, y1.out]
  have q1 : w1.cell? ⟨w.heap.size + 1, 1, none⟩ = some (.int .i64 0) := by simp [World.cell?, y1.out]
  have q2 : w1.cell? ⟨w.heap.size + 1, 2, none⟩ = some (.string ⟨#[]⟩) := by simp [World.cell?, y1.out]
  have q3 : w1.cell? ⟨w.heap.size + 1, 3, none⟩ = some (.slice none 0 0) := by simp [World.cell?, y1.out]
  have t0 : w1.cell? ⟨w.heap.size + 1 + 1, 0, none⟩ = some (.int .i64 0) := by simp [World.cell?, y2.out]
  have t1 : w1.cell? ⟨w.heap.size + 1 + 1, 1, none⟩ = some (.int .i64 0) := by simp [World.cell?, y2.out]
  have t2 : w1.cell? ⟨w.heap.size + 1 + 1, 2, none⟩ = some (.string ⟨#[]⟩) := by simp [World.cell?, y2.out]
  have t3 : w1.cell? ⟨w.heap.size + 1 + 1, 3, none⟩ = some (.slice none 0 0) := by simp [World.cell?, y2.out]
  have z1 : ∀ j, w1.frozen? ⟨w.heap.size + 1, j, none⟩ = false := frozen_there y1.out
  have z2 : ∀ j, w1.frozen? ⟨w.heap.size + 1 + 1, j, none⟩ = false := frozen_there y2.out
  go_wp2_with fail
  have ob : ∀ g, w.heap.size + 5 ≤ g → ∀ o, w1.heap[g]? = some o → (put4 (put4 w1 (w.heap.size + 1) 0 (.int .i64 k) (.int .i64 m) (.string s) (.slice p1 f.len c1)) (w.heap.size + 1 + 1) 0 (.int .i64 k) (.int .i64 m) (.string s) (.slice p2 f.len c2)).heap[g]? = some o := fun g h o hh => ((put4_other (by omega)).trans (put4_other (by omega))).trans hh
  exact bodyPost_ret (v := .tuple #[.agg #[.int .i64 k, .int .i64 m, .string s, .slice p1 f.len c1], .agg #[.int .i64 k, .int .i64 m, .string s, .slice p2 f.len c2]]) (by simp [results, Try.results5, go_sem, q0, q1, q2, q3, t0, t1, t2, t3]) rfl
    ⟨k, m, s, f, p1, p2, c1, c2, rfl, rd_of (fun g h => by omega) ob r1.out, rd_of (fun g h => by omega) ob r2.out, ho.out, hn.out, put4_below (put4_below hb.out (by omega) _ _ _ _) (by omega) _ _ _ _⟩

end Go.Proofs.Ytainajjklakaeaa.Wn
