/-
  The walk of the law PackEquals: it returns true. Nothing that was in memory has turned. Conditions: the items can be read.
-/
import Derived.Test.YtdmbpejoekeenaaBuild
import Derived.Test.YtdmbpejoekeenaaWakes
import Derived.Test.YtdmbpejoekeenaaEqualR
namespace Go.Proofs.Ytdmbpejoekeenaa.Wq
open Go.ChangeShapes Go.WideShapes Go.ChangeAt Go.RowKit Go.Proofs.Ytdmbpejoekeenaa.M Go.Proofs.Ytdmbpejoekeenaa.We Go.Proofs.Ytdmbpejoekeenaa.Wn

/-- Items that can be read, or none. -/
def Its (w : World) (p : Option Addr) (n : Nat) : Prop := n = 0 ∨ ∃ gl ol, p = some ⟨gl, ol, none⟩ ∧ Items w gl ol n
theorem Its.below {w w' : World} {p : Option Addr} {n : Nat} (h : Its w p n) (hb : Below w.heap.size w w') : Its w' p n := by
  rcases h with h | ⟨gl, ol, h1, h2⟩
  · exact .inl h
  · exact .inr ⟨gl, ol, h1, h2.grown (grown_some (grown_below hb) (some (gl + 1))) (by omega)⟩
theorem alloc2 (w : World) (a b : Obj) : ∀ X, X = (w.alloc a).alloc b → X.heap[w.heap.size]? = some a ∧ X.heap[w.heap.size + 1]? = some b ∧ X.heap.size = w.heap.size + 2 ∧ Below w.heap.size w X := by
  intro X hX
  have y1 := heap_alloc_new w a
  have y2 := heap_alloc_new (w.alloc a) b
  rw [World.size_alloc] at y2
  subst hX
  exact ⟨by rw [Below.heap_alloc _ _ _ (by simp), y1], y2, by simp, ((Below.refl _ _).alloc (Nat.le_refl _) _).alloc (by simp) _⟩
/-- The four cells of a block. -/
theorem four {w : World} {b : Nat} {x0 x1 x2 x3 : Value} {T : TypeId} (h : w.heap[b]? = some (.cells #[x0, x1, x2, x3] T (0, 0))) : w.cell? ⟨b, 0, none⟩ = some x0 ∧ w.cell? ⟨b, 1, none⟩ = some x1 ∧ w.cell? ⟨b, 2, none⟩ = some x2 ∧ w.cell? ⟨b, 3, none⟩ = some x3 := by
  simp [World.cell?, h]

set_option maxHeartbeats 4000000 in
set_option maxRecDepth 100000 in
theorem equals (p1 : Option Addr) (n1 cap1 : Nat) (p2 : Option Addr) (n2 cap2 : Nat) (w : World) (h1 : Its w p1 n1) (h2 : Its w p2 n2) :
    Calls Try.prog 5 #[.slice p1 n1 cap1, .slice p2 n2 cap2] w fun e w' => e = .returned (.bool true) ∧ Below w.heap.size w w' := by
  have H1 : Hid _ := h1
  have H2 : Hid _ := h2
  clear h1 h2
  go_enter Try.func5, Try.ntmps5
  go_wp2_with fail
  refine (build _ _ _ _ H1.out).mono ?_
  rintro e w1 ⟨k, m, s, f, q1, q2, c1, c2, rfl, r1, r2, ho, hn, b1⟩
  have R1 : Hid _ := r1
  have R2 : Hid _ := r2
  clear r1 r2
  go_wp2_with fail
  obtain ⟨X, hX⟩ : ∃ X, X = (w1.alloc (.cells #[.int .i64 k, .int .i64 m, .string s, .slice q1 f.len c1] 26)).alloc (.cells #[.int .i64 k, .int .i64 m, .string s, .slice q2 f.len c2] 29) := ⟨_, rfl⟩
  rw [← hX]
  obtain ⟨x1, x2, x3, x4⟩ := alloc2 _ _ _ X hX
  have bX : Below w.heap.size w X := b1.trans (x4.mono b1.size)
  clear hX
  refine (build _ _ _ _ (Its.below H2.out bX)).mono ?_
  rintro e w2 ⟨k', m', s', g, t1, t2, d1, d2, rfl, r1, r2, ho', hn', b2⟩
  have R3 : Hid _ := r1
  have R4 : Hid _ := r2
  clear r1 r2
  go_wp2_with fail
  obtain ⟨Y, hY⟩ : ∃ Y, Y = (w2.alloc (.cells #[.int .i64 k', .int .i64 m', .string s', .slice t1 g.len d1] 26)).alloc (.cells #[.int .i64 k', .int .i64 m', .string s', .slice t2 g.len d2] 29) := ⟨_, rfl⟩
  rw [← hY]
  obtain ⟨y1, y2, y3, y4⟩ := alloc2 _ _ _ Y hY
  have bY : Below X.heap.size X Y := b2.trans (y4.mono b2.size)
  have s2 := b2.size
  clear hY
  have E1 := four ((bY.block _ (by omega)).trans x1)
  have E2 := four ((bY.block _ (by omega)).trans x2)
  have E3 := four y1
  have E4 := four y2
  have A1 : Rd Y _ _ f := rd_below (rd_below R1.out x4) bY
  have A2 : Rd Y _ _ f := rd_below (rd_below R2.out x4) bY
  have A3 : Rd Y _ _ g := rd_below R3.out y4
  have A4 : Rd Y _ _ g := rd_below R4.out y4
  have mk : ∀ w', Below Y.heap.size Y w' → (w'.cell? ⟨w1.heap.size, 0, none⟩ = some (.int .i64 k) ∧ w'.cell? ⟨w1.heap.size, 1, none⟩ = some (.int .i64 m) ∧ w'.cell? ⟨w1.heap.size, 2, none⟩ = some (.string s) ∧ w'.cell? ⟨w1.heap.size, 3, none⟩ = some (.slice q1 f.len c1) ∧ w'.cell? ⟨w1.heap.size + 1, 0, none⟩ = some (.int .i64 k) ∧ w'.cell? ⟨w1.heap.size + 1, 1, none⟩ = some (.int .i64 m) ∧ w'.cell? ⟨w1.heap.size + 1, 2, none⟩ = some (.string s) ∧ w'.cell? ⟨w1.heap.size + 1, 3, none⟩ = some (.slice q2 f.len c2) ∧ w'.cell? ⟨w2.heap.size, 0, none⟩ = some (.int .i64 k') ∧ w'.cell? ⟨w2.heap.size, 1, none⟩ = some (.int .i64 m') ∧ w'.cell? ⟨w2.heap.size, 2, none⟩ = some (.string s') ∧ w'.cell? ⟨w2.heap.size, 3, none⟩ = some (.slice t1 g.len d1) ∧ w'.cell? ⟨w2.heap.size + 1, 0, none⟩ = some (.int .i64 k') ∧ w'.cell? ⟨w2.heap.size + 1, 1, none⟩ = some (.int .i64 m') ∧ w'.cell? ⟨w2.heap.size + 1, 2, none⟩ = some (.string s') ∧ w'.cell? ⟨w2.heap.size + 1, 3, none⟩ = some (.slice t2 g.len d2)) := fun w' hb => by
    have hc := (bcell hb).1
    have z : w1.heap.size + 1 < Y.heap.size := by omega
    exact ⟨(hc _ _ (by omega)).trans E1.1, (hc _ _ (by omega)).trans E1.2.1, (hc _ _ (by omega)).trans E1.2.2.1, (hc _ _ (by omega)).trans E1.2.2.2, (hc _ _ (by omega)).trans E2.1, (hc _ _ (by omega)).trans E2.2.1, (hc _ _ (by omega)).trans E2.2.2.1, (hc _ _ (by omega)).trans E2.2.2.2, (hc _ _ (by omega)).trans E3.1, (hc _ _ (by omega)).trans E3.2.1, (hc _ _ (by omega)).trans E3.2.2.1, (hc _ _ (by omega)).trans E3.2.2.2, (hc _ _ (by omega)).trans E4.1, (hc _ _ (by omega)).trans E4.2.1, (hc _ _ (by omega)).trans E4.2.2.1, (hc _ _ (by omega)).trans E4.2.2.2⟩
  obtain ⟨bb, hbb⟩ : ∃ bb, Hid (bb = eq1 k m s k' m' s' (eqF f g)) := ⟨_, rfl⟩
  have CW : Hid (∀ W, Below Y.heap.size Y W → Calls Try.prog 12 #[] W fun e w' => e = .returned (.bool true) ∧ Below Y.heap.size Y w' ∧ (w'.cell? ⟨w1.heap.size, 0, none⟩ = some (.int .i64 k) ∧ w'.cell? ⟨w1.heap.size, 1, none⟩ = some (.int .i64 m) ∧ w'.cell? ⟨w1.heap.size, 2, none⟩ = some (.string s) ∧ w'.cell? ⟨w1.heap.size, 3, none⟩ = some (.slice q1 f.len c1) ∧ w'.cell? ⟨w1.heap.size + 1, 0, none⟩ = some (.int .i64 k) ∧ w'.cell? ⟨w1.heap.size + 1, 1, none⟩ = some (.int .i64 m) ∧ w'.cell? ⟨w1.heap.size + 1, 2, none⟩ = some (.string s) ∧ w'.cell? ⟨w1.heap.size + 1, 3, none⟩ = some (.slice q2 f.len c2) ∧ w'.cell? ⟨w2.heap.size, 0, none⟩ = some (.int .i64 k') ∧ w'.cell? ⟨w2.heap.size, 1, none⟩ = some (.int .i64 m') ∧ w'.cell? ⟨w2.heap.size, 2, none⟩ = some (.string s') ∧ w'.cell? ⟨w2.heap.size, 3, none⟩ = some (.slice t1 g.len d1) ∧ w'.cell? ⟨w2.heap.size + 1, 0, none⟩ = some (.int .i64 k') ∧ w'.cell? ⟨w2.heap.size + 1, 1, none⟩ = some (.int .i64 m') ∧ w'.cell? ⟨w2.heap.size + 1, 2, none⟩ = some (.string s') ∧ w'.cell? ⟨w2.heap.size + 1, 3, none⟩ = some (.slice t2 g.len d2))) := fun W hW =>
    (Wv.wakes W).mono (fun e w' h => ⟨h.1, hW.trans (h.2.mono hW.size), mk _ (hW.trans (h.2.mono hW.size))⟩)
  have CE : Hid (∀ (ka ma : Int) (sa : ByteArray) (la : F) (La : Value) (kb mb : Int) (sb : ByteArray) (lb : F) (Lb : Value) (A B : Nat → Prop), Rd Y A La la → Rd Y B Lb lb → ∀ W, Below Y.heap.size Y W → Calls Try.prog 16 #[.agg #[.int .i64 ka, .int .i64 ma, .string sa, La], .agg #[.int .i64 kb, .int .i64 mb, .string sb, Lb]] W fun e w' => e = .returned (.bool (eq1 ka ma sa kb mb sb (eqF la lb))) ∧ Below Y.heap.size Y w' ∧ (w'.cell? ⟨w1.heap.size, 0, none⟩ = some (.int .i64 k) ∧ w'.cell? ⟨w1.heap.size, 1, none⟩ = some (.int .i64 m) ∧ w'.cell? ⟨w1.heap.size, 2, none⟩ = some (.string s) ∧ w'.cell? ⟨w1.heap.size, 3, none⟩ = some (.slice q1 f.len c1) ∧ w'.cell? ⟨w1.heap.size + 1, 0, none⟩ = some (.int .i64 k) ∧ w'.cell? ⟨w1.heap.size + 1, 1, none⟩ = some (.int .i64 m) ∧ w'.cell? ⟨w1.heap.size + 1, 2, none⟩ = some (.string s) ∧ w'.cell? ⟨w1.heap.size + 1, 3, none⟩ = some (.slice q2 f.len c2) ∧ w'.cell? ⟨w2.heap.size, 0, none⟩ = some (.int .i64 k') ∧ w'.cell? ⟨w2.heap.size, 1, none⟩ = some (.int .i64 m') ∧ w'.cell? ⟨w2.heap.size, 2, none⟩ = some (.string s') ∧ w'.cell? ⟨w2.heap.size, 3, none⟩ = some (.slice t1 g.len d1) ∧ w'.cell? ⟨w2.heap.size + 1, 0, none⟩ = some (.int .i64 k') ∧ w'.cell? ⟨w2.heap.size + 1, 1, none⟩ = some (.int .i64 m') ∧ w'.cell? ⟨w2.heap.size + 1, 2, none⟩ = some (.string s') ∧ w'.cell? ⟨w2.heap.size + 1, 3, none⟩ = some (.slice t2 g.len d2))) := fun ka ma sa la La kb mb sb lb Lb A B hA hB W hW =>
    (equal ka ma sa la La kb mb sb lb Lb W A B (rd_below hA hW) (rd_below hB hW)).mono (fun e w' h => ⟨h.1, hW.trans (h.2.mono hW.size), mk _ (hW.trans (h.2.mono hW.size))⟩)
  have haa : eq1 k m s k m s (eqF f f) = true := by rw [eqF_refl]; simp [eq1]
  have hab : eq1 k m s k' m' s' (eqF f g) = bb := hbb.out.symm
  have hba : eq1 k' m' s' k m s (eqF g f) = bb := by rw [hbb.out, eqF_comm, eq1_comm]
  have CR : Hid (∀ W, Below Y.heap.size Y W → Calls Try.prog 17 #[.agg #[.int .i64 k, .int .i64 m, .string s, .slice q2 f.len c2], .agg #[.int .i64 k', .int .i64 m', .string s', .slice t2 g.len d2]] W fun e w' => e = .returned (.bool bb) ∧ Below Y.heap.size Y w' ∧ (w'.cell? ⟨w1.heap.size, 0, none⟩ = some (.int .i64 k) ∧ w'.cell? ⟨w1.heap.size, 1, none⟩ = some (.int .i64 m) ∧ w'.cell? ⟨w1.heap.size, 2, none⟩ = some (.string s) ∧ w'.cell? ⟨w1.heap.size, 3, none⟩ = some (.slice q1 f.len c1) ∧ w'.cell? ⟨w1.heap.size + 1, 0, none⟩ = some (.int .i64 k) ∧ w'.cell? ⟨w1.heap.size + 1, 1, none⟩ = some (.int .i64 m) ∧ w'.cell? ⟨w1.heap.size + 1, 2, none⟩ = some (.string s) ∧ w'.cell? ⟨w1.heap.size + 1, 3, none⟩ = some (.slice q2 f.len c2) ∧ w'.cell? ⟨w2.heap.size, 0, none⟩ = some (.int .i64 k') ∧ w'.cell? ⟨w2.heap.size, 1, none⟩ = some (.int .i64 m') ∧ w'.cell? ⟨w2.heap.size, 2, none⟩ = some (.string s') ∧ w'.cell? ⟨w2.heap.size, 3, none⟩ = some (.slice t1 g.len d1) ∧ w'.cell? ⟨w2.heap.size + 1, 0, none⟩ = some (.int .i64 k') ∧ w'.cell? ⟨w2.heap.size + 1, 1, none⟩ = some (.int .i64 m') ∧ w'.cell? ⟨w2.heap.size + 1, 2, none⟩ = some (.string s') ∧ w'.cell? ⟨w2.heap.size + 1, 3, none⟩ = some (.slice t2 g.len d2))) := fun W hW =>
    (ref (f.nodes + 1) k m s f _ k' m' s' g _ W _ _ (Nat.lt_succ_self _) (rd_below A2 hW) (rd_below A4 hW)).mono (fun e w' h => ⟨hbb.out ▸ h.1, hW.trans (h.2.mono hW.size), mk _ (hW.trans (h.2.mono hW.size))⟩)
  have hB : Below Y.heap.size Y Y.drew := (Below.refl _ _).drew
  have hS := mk _ hB
  have bW : Below w.heap.size w Y := bX.trans (bY.mono bX.size)
  have sW := bW.size
  have KW : Hid _ := bW
  clear mk A2 A4 R1 R2 R3 R4 E1 E2 E3 E4 x1 x2 x3 x4 y1 y2 y3 y4 b1 b2 bX bY ho ho' hn hn' s2 hbb H1 H2 bW
  go_region_held3 (fun w' => w'.cell? ⟨w1.heap.size, 0, none⟩ = some (.int .i64 k) ∧ w'.cell? ⟨w1.heap.size, 1, none⟩ = some (.int .i64 m) ∧ w'.cell? ⟨w1.heap.size, 2, none⟩ = some (.string s) ∧ w'.cell? ⟨w1.heap.size, 3, none⟩ = some (.slice q1 f.len c1) ∧ w'.cell? ⟨w1.heap.size + 1, 0, none⟩ = some (.int .i64 k) ∧ w'.cell? ⟨w1.heap.size + 1, 1, none⟩ = some (.int .i64 m) ∧ w'.cell? ⟨w1.heap.size + 1, 2, none⟩ = some (.string s) ∧ w'.cell? ⟨w1.heap.size + 1, 3, none⟩ = some (.slice q2 f.len c2) ∧ w'.cell? ⟨w2.heap.size, 0, none⟩ = some (.int .i64 k') ∧ w'.cell? ⟨w2.heap.size, 1, none⟩ = some (.int .i64 m') ∧ w'.cell? ⟨w2.heap.size, 2, none⟩ = some (.string s') ∧ w'.cell? ⟨w2.heap.size, 3, none⟩ = some (.slice t1 g.len d1) ∧ w'.cell? ⟨w2.heap.size + 1, 0, none⟩ = some (.int .i64 k') ∧ w'.cell? ⟨w2.heap.size + 1, 1, none⟩ = some (.int .i64 m') ∧ w'.cell? ⟨w2.heap.size + 1, 2, none⟩ = some (.string s') ∧ w'.cell? ⟨w2.heap.size + 1, 3, none⟩ = some (.slice t2 g.len d2))
    (first | exact hS | go_keep)
    (first
      | (go_at_call 12; refine (CW.out _ hB).mono ?_; rintro e wa ⟨rfl, hB, hS⟩)
      | (go_at_call 17; refine (CR.out _ hB).mono ?_; rintro e wa ⟨rfl, hB, hS⟩)
      | (go_at_call 16; refine (CE.out _ _ _ _ _ _ _ _ _ _ _ _ (by assumption) (by assumption) _ hB).mono ?_; rintro e wa ⟨rfl, hB, hS⟩))
  go_wp2_with fail
  go_ret
  exact ⟨rfl, KW.out.trans (hB.mono sW)⟩

end Go.Proofs.Ytdmbpejoekeenaa.Wq
