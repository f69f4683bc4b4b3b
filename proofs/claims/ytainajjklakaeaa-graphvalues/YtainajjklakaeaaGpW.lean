/-
  The walk of the laws' own 'wakes': it returns true, and nothing that was in memory has turned.
-/
import Derived.Test.YtainajjklakaeaaGpC
import Derived.Laws.EntriesVeiled
namespace Go.Proofs.Ytainajjklakaeaa.Wgp
open Go.ChangeShapes Go.WideShapes Go.ChangeAt Go.RowKit Go.Proofs.Ytainajjklakaeaa.M Go.Proofs.Ytainajjklakaeaa.Wg

def tA : ByteArray := ⟨#[97]⟩
def tB : ByteArray := ⟨#[98]⟩
def tC : ByteArray := ⟨#[99]⟩
def tF : ByteArray := ⟨#[102]⟩
def nW (s : ByteArray) (ds : List ByteArray) : Nd := ⟨s, ds, 1, 1, -1, ⟨#[]⟩⟩
def lW (ds : List ByteArray) : List Nd := [nW tA ds, nW tB [tA], nW tC [tA, tB]]
theorem chk_w1 : chk tF (lW []) = (0, 0) := by decide +kernel
theorem chk_w2 : chk tF (lW [tC]) = (0, 33) := by decide +kernel
theorem mrow_w1 : mrow (lW []) 1 = 1 := by decide +kernel
theorem mrow_w2 : mrow (lW []) 2 = 3 := by decide +kernel
theorem ok_w {ds : List ByteArray} (h : ∀ s ∈ ds, s.size ≤ 140737488355328) (hl : ds.length ≤ 400) : ∀ x ∈ lW ds, NdOk x := by
  have k : ∀ s ∈ [tA, tB], s.size ≤ 140737488355328 := fun s hs => by
    simp only [List.mem_cons, List.not_mem_nil, or_false] at hs
    rcases hs with rfl | rfl <;> decide
  intro x hx
  simp only [lW, List.mem_cons, List.not_mem_nil, or_false] at hx
  rcases hx with rfl | rfl | rfl
  · exact ⟨(by decide : tA.size ≤ 140737488355328), (by decide : (⟨#[]⟩ : ByteArray).size ≤ 140737488355328), h, hl, ⟨(by decide : (-9223372036854775808 : Int) ≤ 1), (by decide : (1 : Int) < 9223372036854775808)⟩, ⟨(by decide : (-9223372036854775808 : Int) ≤ 1), (by decide : (1 : Int) < 9223372036854775808)⟩, ⟨(by decide : (-9223372036854775808 : Int) ≤ -1), (by decide : (-1 : Int) < 9223372036854775808)⟩⟩
  · exact ⟨by decide, by decide, fun s hs => k s (by simp [nW] at hs; simp [hs]), by decide, ⟨by decide, by decide⟩, ⟨by decide, by decide⟩, ⟨by decide, by decide⟩⟩
  · exact ⟨by decide, by decide, fun s hs => k s hs, by decide, ⟨by decide, by decide⟩, ⟨by decide, by decide⟩, ⟨by decide, by decide⟩⟩

/-- The three nodes, as they lie. -/
theorem three {w : World} {B B1 B2 c0 : Nat} {d0 : Option Addr} {ds : List ByteArray} {T T1 T2 : TypeId}
    (h3 : w.heap[B]? = some (.cells #[.string tA, .slice d0 ds.length c0, .int .i64 1, .int .i64 1, .int .i64 (-1), .string ⟨#[]⟩, .string tB, .slice (some ⟨B1, 0, none⟩) 1 1, .int .i64 1, .int .i64 1, .int .i64 (-1), .string ⟨#[]⟩, .string tC, .slice (some ⟨B2, 0, none⟩) 2 2, .int .i64 1, .int .i64 1, .int .i64 (-1), .string ⟨#[]⟩] T (0, 0)))
    (h1 : w.heap[B1]? = some (.cells #[.string tA] T1 (0, 0))) (h2 : w.heap[B2]? = some (.cells #[.string tA, .string tB] T2 (0, 0))) (hd : Dp w (nW tA ds) d0 c0) : Ns w (some ⟨B, 0, none⟩) (lW ds) := by
  have key : ∀ k v, #[Value.string tA, .slice d0 ds.length c0, .int .i64 1, .int .i64 1, .int .i64 (-1), .string ⟨#[]⟩, .string tB, .slice (some ⟨B1, 0, none⟩) 1 1, .int .i64 1, .int .i64 1, .int .i64 (-1), .string ⟨#[]⟩, .string tC, .slice (some ⟨B2, 0, none⟩) 2 2, .int .i64 1, .int .i64 1, .int .i64 (-1), .string ⟨#[]⟩][k]? = some v → w.cell? ⟨B, k, none⟩ = some v := fun k v hv => by simp [World.cell?, h3, hv]
  refine .inr ⟨B, rfl, lt_of_heap h3, fun i x hx => ?_⟩
  match i, hx with
  | 0, hx =>
    simp only [lW, List.getElem?_cons_zero, Option.some.injEq] at hx
    subst hx
    exact ⟨d0, c0, ⟨key 0 _ rfl, key 1 _ rfl, key 2 _ rfl, key 3 _ rfl, key 4 _ rfl, key 5 _ rfl⟩, hd⟩
  | 1, hx =>
    simp only [lW, List.getElem?_cons_zero, List.getElem?_cons_succ, Option.some.injEq] at hx
    subst hx
    refine ⟨some ⟨B1, 0, none⟩, 1, ⟨key 6 _ rfl, key 7 _ rfl, key 8 _ rfl, key 9 _ rfl, key 10 _ rfl, key 11 _ rfl⟩, by decide, by decide, .inr ⟨B1, rfl, lt_of_heap h1, fun j s hs => ?_⟩⟩
    match j, hs with
    | 0, hs => simp [nW] at hs; subst hs; simp [World.cell?, h1]
    | j + 1, hs => simp [nW] at hs
  | 2, hx =>
    simp only [lW, List.getElem?_cons_zero, List.getElem?_cons_succ, Option.some.injEq] at hx
    subst hx
    refine ⟨some ⟨B2, 0, none⟩, 2, ⟨key 12 _ rfl, key 13 _ rfl, key 14 _ rfl, key 15 _ rfl, key 16 _ rfl, key 17 _ rfl⟩, by decide, by decide, .inr ⟨B2, rfl, lt_of_heap h2, fun j s hs => ?_⟩⟩
    match j, hs with
    | 0, hs => simp [nW] at hs; subst hs; simp [World.cell?, h2]
    | 1, hs => simp [nW] at hs; subst hs; simp [World.cell?, h2]
    | j + 2, hs => simp [nW] at hs
  | i + 3, hx => simp [lW] at hx

set_option maxRecDepth 100000 in
theorem wakes1 (s : ByteArray) (a : Option Addr) (n c : Nat) (w : World) :
    Calls Try.prog 17 #[.string s, .slice a n c] w fun e w' => e = .returned (.agg #[.string s, .slice a n c, .int .i64 1, .int .i64 1, .int .i64 (-1), .string ⟨#[]⟩]) ∧ Below w.heap.size w w' := by
  go_enter Try.func17, Try.ntmps17
  go_wp2_with fail
  exact bodyPost_ret (v := .agg #[.string s, .slice a n c, .int .i64 1, .int .i64 1, .int .i64 (-1), .string ⟨#[]⟩]) (by simp [results, Try.results17, go_sem]) rfl ⟨rfl, al w _⟩

set_option maxRecDepth 100000 in
set_option maxHeartbeats 6400000 in
theorem wakes (w : World) : Calls Try.prog 8 #[] w fun e w' => e = .returned (.bool true) ∧ Below w.heap.size w w' := by
  have C := hid wakes1
  have e1 : ckE tF (lW []) = .returned (.tuple #[.int .i64 0, .int .i64 0]) := by unfold ckE; rw [chk_w1]
  have e2 : ckE tF (lW [tC]) = .returned (.tuple #[.int .i64 0, .int .i64 33]) := by unfold ckE; rw [chk_w2]
  have CK1 := hid fun (W : World) (a : Option Addr) (h : Ns W a (lW [])) => check (cap := 3) tF (by decide) h (by simp [lW]) (by simp [lW]) (ok_w (by simp) (by simp))
  have CK2 := hid fun (W : World) (a : Option Addr) (h : Ns W a (lW [tC])) => check (cap := 3) tF (by decide) h (by simp [lW]) (by simp [lW]) (ok_w (by intro s hs; simp at hs; subst hs; decide) (by simp))
  rw [e1] at CK1
  rw [e2] at CK2
  have CM := hid fun (W : World) (a : Option Addr) (h : Ns W a (lW [])) => masks (cap := 3) tF h (by simp [lW]) (ok_w (by simp) (by simp))
  rw [show (lW []).length = 3 from rfl] at CM
  clear e1 e2
  go_enter Try.func8, Try.ntmps8
  go_wp2_with fail
  refine (C.out _ _ _ _ _).mono ?_
  rintro e w1 ⟨rfl, b1⟩
  go_wp2_with fail
  refine (C.out _ _ _ _ _).mono ?_
  rintro e w2 ⟨rfl, b2⟩
  go_wp2_with fail
  refine (C.out _ _ _ _ _).mono ?_
  rintro e w3 ⟨rfl, b3⟩
  have s1 : w1.heap.size < w2.heap.size := by have := b2.size; simp at this; omega
  have s2 : w2.heap.size < w3.heap.size := by have := b3.size; simp at this; omega
  have q1 : w3.heap[w1.heap.size]? = some (.cells #[.string ⟨#[97]⟩] 9 (0, 0)) := (b3.block _ (by simp; omega)).trans ((Below.heap_alloc _ _ _ s1).trans ((b2.block _ (by simp)).trans (heap_alloc_new w1 _)))
  have q2 : w3.heap[w2.heap.size]? = some (.cells #[.string ⟨#[97]⟩, .string ⟨#[98]⟩] 9 (0, 0)) := (b3.block _ (by simp)).trans (heap_alloc_new w2 _)
  have z1 := b1.size
  have B3 : Below w.heap.size w w3 := b1.trans ((((Below.refl _ _).alloc z1 _).trans (b2.mono (by simp; omega))).trans (((Below.refl _ _).alloc (by omega) _).trans (b3.mono (by simp; omega))))
  clear b1 b2 b3 C
  go_wp2_with fail
  obtain ⟨X, hX⟩ : ∃ X, X = (w3.alloc (.cells #[.string ⟨#[97]⟩, .slice none 0 0, .int .i64 1, .int .i64 1, .int .i64 (-1), .string ⟨#[]⟩, .string ⟨#[98]⟩, .slice (some ⟨w1.heap.size, 0, none⟩) 1 1, .int .i64 1, .int .i64 1, .int .i64 (-1), .string ⟨#[]⟩, .string ⟨#[99]⟩, .slice (some ⟨w2.heap.size, 0, none⟩) 2 2, .int .i64 1, .int .i64 1, .int .i64 (-1), .string ⟨#[]⟩] 56)).alloc (.cells #[.string ⟨#[102]⟩, .slice (some ⟨w3.heap.size, 0, none⟩) 3 3] 28) := ⟨_, rfl⟩
  rw [← hX]
  have zX : X.heap.size = w3.heap.size + 2 := by rw [hX]; simp
  have BX : Below w.heap.size w X := by rw [hX]; exact (B3.alloc B3.size _).alloc (by have := B3.size; simp; omega) _
  have x1 : X.heap[w1.heap.size]? = some (.cells #[.string ⟨#[97]⟩] 9 (0, 0)) := by rw [hX, Below.heap_alloc _ _ _ (by simp; omega), Below.heap_alloc _ _ _ (by omega)]; exact q1
  have x2 : X.heap[w2.heap.size]? = some (.cells #[.string ⟨#[97]⟩, .string ⟨#[98]⟩] 9 (0, 0)) := by rw [hX, Below.heap_alloc _ _ _ (by simp; omega), Below.heap_alloc _ _ _ (by omega)]; exact q2
  have x3 : X.heap[w3.heap.size]? = some (.cells #[.string ⟨#[97]⟩, .slice none 0 0, .int .i64 1, .int .i64 1, .int .i64 (-1), .string ⟨#[]⟩, .string ⟨#[98]⟩, .slice (some ⟨w1.heap.size, 0, none⟩) 1 1, .int .i64 1, .int .i64 1, .int .i64 (-1), .string ⟨#[]⟩, .string ⟨#[99]⟩, .slice (some ⟨w2.heap.size, 0, none⟩) 2 2, .int .i64 1, .int .i64 1, .int .i64 (-1), .string ⟨#[]⟩] 56 (0, 0)) := by rw [hX, Below.heap_alloc _ _ _ (by simp)]; exact heap_alloc_new w3 _
  have x4 : X.heap[w3.heap.size + 1]? = some (.cells #[.string ⟨#[102]⟩, .slice (some ⟨w3.heap.size, 0, none⟩) 3 3] 28 (0, 0)) := by
    have := heap_alloc_new (w3.alloc (.cells #[.string ⟨#[97]⟩, .slice none 0 0, .int .i64 1, .int .i64 1, .int .i64 (-1), .string ⟨#[]⟩, .string ⟨#[98]⟩, .slice (some ⟨w1.heap.size, 0, none⟩) 1 1, .int .i64 1, .int .i64 1, .int .i64 (-1), .string ⟨#[]⟩, .string ⟨#[99]⟩, .slice (some ⟨w2.heap.size, 0, none⟩) 2 2, .int .i64 1, .int .i64 1, .int .i64 (-1), .string ⟨#[]⟩] 56)) (.cells #[.string ⟨#[102]⟩, .slice (some ⟨w3.heap.size, 0, none⟩) 3 3] 28)
    rw [World.size_alloc] at this
    rw [hX]; exact this
  clear hX q1 q2
  have N1 : Ns X (some ⟨w3.heap.size, 0, none⟩) (lW []) := three (d0 := none) (c0 := 0) x3 x1 x2 ⟨by decide, by decide, .inl rfl⟩
  have K1 := hid (CK1.out X _ N1)
  have KM := hid fun (W : World) (b : Below X.heap.size X W) => CM.out W _ (N1.below b)
  have X1 := hid x1
  have X2 := hid x2
  have X3 := hid x3
  have X4 := hid x4
  clear CK1 CM N1 x1 x2 x3 x4
  refine K1.out.mono ?_
  rintro e w4 ⟨rfl, b4⟩
  have y4 := (b4.block _ (by omega)).trans X4.out
  have c0 : w4.cell? ⟨w3.heap.size + 1, 0, none⟩ = some (.string ⟨#[102]⟩) := by simp [World.cell?, y4]
  have c1 : w4.cell? ⟨w3.heap.size + 1, 1, none⟩ = some (.slice (some ⟨w3.heap.size, 0, none⟩) 3 3) := by simp [World.cell?, y4]
  have M1 := hid (KM.out w4 b4)
  clear K1 KM y4
  go_wp2_with fail
  refine M1.out.mono ?_
  rintro e w5 ⟨rfl, hrow, hz5, b5⟩
  have s4 := b4.size
  have s5 := b5.size
  have b45 := hid (b4.trans (b5.mono s4))
  have r1 := hrow.cell (i := 1) (by decide)
  have r2 := hrow.cell (i := 2) (by decide)
  rw [mrow_w1] at r1
  rw [mrow_w2] at r2
  have y1 := hid ((b45.out.block _ (by omega)).trans X1.out)
  have y2 := hid ((b45.out.block _ (by omega)).trans X2.out)
  have y3 := hid ((b45.out.block _ (by omega)).trans X3.out)
  have y4 := hid ((b45.out.block _ (by omega)).trans X4.out)
  have B5 := hid (BX.trans (b45.out.mono (by have := BX.size; omega)))
  have c0 : w5.cell? ⟨w3.heap.size + 1, 0, none⟩ = some (.string ⟨#[102]⟩) := by simp [World.cell?, y4.out]
  have c1 : w5.cell? ⟨w3.heap.size + 1, 1, none⟩ = some (.slice (some ⟨w3.heap.size, 0, none⟩) 3 3) := by simp [World.cell?, y4.out]
  have c2 : w5.cell? ⟨w3.heap.size, 1, none⟩ = some (.slice none 0 0) := by simp [World.cell?, y3.out]
  have f2 := frozen_there y3.out 1
  have lw3 : w3.heap.size < w5.heap.size := by omega
  have lw31 : w3.heap.size + 1 < w5.heap.size := by omega
  have lm : w4.heap.size + 1 < w5.heap.size := hz5
  clear M1 b4 b5 hrow X1 X2 X3 X4
  go_wp2_with fail
  obtain ⟨Y, hY⟩ : ∃ Y, Y = (w5.setCell ⟨w3.heap.size, 1, none⟩ (.slice (some ⟨w5.heap.size, 0, none⟩) 1 1)).alloc (.cells #[.string ⟨#[99]⟩] 9) := ⟨_, rfl⟩
  rw [← hY]
  have zs : (w5.setCell ⟨w3.heap.size, 1, none⟩ (.slice (some ⟨w5.heap.size, 0, none⟩) 1 1)).heap.size = w5.heap.size := by simp [World.setCell]
  have zY : Y.heap.size = w5.heap.size + 1 := by rw [hY, World.size_alloc, zs]
  have BY : Below w.heap.size w Y := by rw [hY]; exact (B5.out.setCell (p := ⟨w3.heap.size, 1, none⟩) B3.size _).alloc (by rw [zs]; exact B5.out.size) _
  have hoth : ∀ j, j < w5.heap.size → j ≠ w3.heap.size → Y.heap[j]? = w5.heap[j]? := fun j h1 h2 => by rw [hY, Below.heap_alloc _ _ _ (by rw [zs]; exact h1), Below.heap_setCell _ _ _ _ h2]
  have v1 := (hoth _ (by omega) (by omega)).trans y1.out
  have v2 := (hoth _ (by omega) (by omega)).trans y2.out
  have v4 := (hoth _ (by omega) (by omega)).trans y4.out
  have v3 : Y.heap[w3.heap.size]? = some (.cells #[.string ⟨#[97]⟩, .slice (some ⟨w5.heap.size, 0, none⟩) 1 1, .int .i64 1, .int .i64 1, .int .i64 (-1), .string ⟨#[]⟩, .string ⟨#[98]⟩, .slice (some ⟨w1.heap.size, 0, none⟩) 1 1, .int .i64 1, .int .i64 1, .int .i64 (-1), .string ⟨#[]⟩, .string ⟨#[99]⟩, .slice (some ⟨w2.heap.size, 0, none⟩) 2 2, .int .i64 1, .int .i64 1, .int .i64 (-1), .string ⟨#[]⟩] 56 (0, 0)) := by
    rw [hY, Below.heap_alloc _ _ _ (by rw [zs]; exact lw3), heap_set1 y3.out 1 _]
    simp
  have v5 : Y.heap[w5.heap.size]? = some (.cells #[.string ⟨#[99]⟩] 9 (0, 0)) := by
    have := heap_alloc_new (w5.setCell ⟨w3.heap.size, 1, none⟩ (.slice (some ⟨w5.heap.size, 0, none⟩) 1 1)) (.cells #[.string ⟨#[99]⟩] 9)
    rw [zs] at this
    rw [hY]; exact this
  have NY : Ns Y (some ⟨w3.heap.size, 0, none⟩) (lW [tC]) := three (d0 := some ⟨w5.heap.size, 0, none⟩) (c0 := 1) v3 v1 v2 ⟨by decide, by decide, .inr ⟨w5.heap.size, rfl, by omega, fun j s hs => by
    match j, hs with
    | 0, hs => simp [nW, tC] at hs; subst hs; simp [World.cell?, v5]
    | j + 1, hs => simp [nW] at hs⟩⟩
  have K2 := hid (CK2.out Y _ NY)
  have r1' := hid (show Y.cell? ⟨w4.heap.size + 1, 1, none⟩ = some (.int .u32 ((1 : Nat) : Int)) from (World.cell?_of_block (a := ⟨w4.heap.size + 1, 1, none⟩) (hoth (w4.heap.size + 1) lm (show w4.heap.size + 1 ≠ w3.heap.size by omega))).trans r1)
  have r2' := hid (show Y.cell? ⟨w4.heap.size + 1, 2, none⟩ = some (.int .u32 ((3 : Nat) : Int)) from (World.cell?_of_block (a := ⟨w4.heap.size + 1, 2, none⟩) (hoth (w4.heap.size + 1) lm (show w4.heap.size + 1 ≠ w3.heap.size by omega))).trans r2)
  have lY : w4.heap.size + 1 < Y.heap.size := by omega
  have hBY := hid BY
  clear CK2 NY v1 v2 v3 v4 v5 hoth hY r1 r2 c0 c1 c2 f2 y1 y2 y3 y4 BY zs B5
  refine K2.out.mono ?_
  rintro e w6 ⟨rfl, b6⟩
  have r1 := (b6.cell (p := ⟨w4.heap.size + 1, 1, none⟩) lY).trans r1'.out
  have r2 := (b6.cell (p := ⟨w4.heap.size + 1, 2, none⟩) lY).trans r2'.out
  have B6 := hid (hBY.out.trans (b6.mono hBY.out.size))
  clear K2 b6 r1' r2' hBY
  go_wp2_with fail
  go_ret
  exact ⟨rfl, B6.out⟩

end Go.Proofs.Ytainajjklakaeaa.Wgp
