/-
  The drawn regions of the laws NodeFinishes, NodeExpires, over any frame: whatever order they come in, they leave what the calls return in the variables' blocks. Conditions: the law's arguments lie in their blocks.
-/
import Derived.Test.YtjpglfnmapncmaaNdK
import Derived.Deep.RegionHeld3
namespace Go.Proofs.Ytjpglfnmapncmaa.Wnd
open Go.ChangeShapes Go.WideShapes Go.ChangeAt Go.RowKit Go.Proofs.Ytjpglfnmapncmaa.M Go.Proofs.Ytjpglfnmapncmaa.Wnv

set_option linter.unusedSimpArgs false in
set_option maxRecDepth 100000 in
set_option maxHeartbeats 6400000 in
theorem r4F {W0 : World} {SB XB : Nat} {p t u a n l y z : Int} {ok : Bool} {tr : Int} {a0 a1 a4 a5 a7 a8 a9 a10 a11 a12 a13 a14 a15 a16 a17 a18 a19 a20 a21 a22 a23 a24 a25 a26 a27 a28 a29 a30 a31 a32 a33 a34 a35 a36 a37 a38 a39 a40 a41 a42 a43 a44 a45 a46 a47 a48 a49 a50 a51 a52 a53 a54 a55 a56 : Value} {w0 : World} {Q : Exit → Act → World → Prop} (K0 : Kq W0 w0 SB XB ⟨p, t, u, a⟩ ⟨n, l, y, z, ok⟩)
    (HQ0 : ∀ (A : Nat) (wF : World), Kq W0 wF SB XB ⟨p, t, u, a⟩ ⟨n, l, y, z, ok⟩ → Cel wF A (fi ⟨p, t, u, a⟩ n tr z ok).p (fi ⟨p, t, u, a⟩ n tr z ok).t (fi ⟨p, t, u, a⟩ n tr z ok).u (fi ⟨p, t, u, a⟩ n tr z ok).a → W0.heap.size ≤ A → Q .normal { tmps := #[a0, a1, .pointer (some ⟨SB, 0, none⟩), .pointer (some ⟨XB, 0, none⟩), a4, a5, .int .i64 tr, .pointer (some ⟨A, 0, none⟩), .int .i64 (fiE ⟨p, t, u, a⟩ n tr), a9, a10, a11, a12, a13, a14, a15, a16, a17, a18, a19, a20, .tuple #[.agg #[.int .i64 (fi ⟨p, t, u, a⟩ n tr z ok).p, .int .i64 (fi ⟨p, t, u, a⟩ n tr z ok).t, .int .i64 (fi ⟨p, t, u, a⟩ n tr z ok).u, .int .i64 (fi ⟨p, t, u, a⟩ n tr z ok).a], .int .i64 (fiE ⟨p, t, u, a⟩ n tr)], .agg #[.int .i64 p, .int .i64 t, .int .i64 u, .int .i64 a], .agg #[.int .i64 p, .int .i64 t, .int .i64 u, .int .i64 a], .pointer (some ⟨XB, 0, none⟩), .int .i64 n, .int .i64 tr, .pointer (some ⟨XB, 3, none⟩), .int .i64 z, .pointer (some ⟨XB, 4, none⟩), .bool ok, .tuple #[.agg #[.int .i64 (fi ⟨p, t, u, a⟩ n tr z ok).p, .int .i64 (fi ⟨p, t, u, a⟩ n tr z ok).t, .int .i64 (fi ⟨p, t, u, a⟩ n tr z ok).u, .int .i64 (fi ⟨p, t, u, a⟩ n tr z ok).a], .int .i64 (fiE ⟨p, t, u, a⟩ n tr)], .agg #[.int .i64 (fi ⟨p, t, u, a⟩ n tr z ok).p, .int .i64 (fi ⟨p, t, u, a⟩ n tr z ok).t, .int .i64 (fi ⟨p, t, u, a⟩ n tr z ok).u, .int .i64 (fi ⟨p, t, u, a⟩ n tr z ok).a], .int .i64 (fiE ⟨p, t, u, a⟩ n tr), a34, a35, a36, a37, a38, a39, a40, a41, a42, a43, a44, a45, a46, a47, a48, a49, a50, a51, a52, a53, a54, a55, a56], defers := [] } wF) :
    Code.wp Try.prog (Code.region 4 #[{ dst := some 22, op := Op.load 23 (Operand.tmp 2), type := 23, pos := "law.go:67", after := #[], guard := none }, { dst := some 23, op := Op.call { callee := Callee.value (Operand.func 8), args := #[Operand.tmp 22], argTypes := #[23] }, type := 28, pos := "law.go:67", after := #[{ on := 0, ground := Ground.data }], guard := none }, { dst := some 24, op := Op.fieldAddr 25 (Operand.tmp 3) 0, type := 0, pos := "law.go:67", after := #[], guard := none }, { dst := some 25, op := Op.load 2 (Operand.tmp 24), type := 2, pos := "law.go:67", after := #[{ on := 2, ground := Ground.data }], guard := none }, { dst := some 26, op := Op.move (Operand.tmp 6), type := 3, pos := "law.go:67", after := #[], guard := none }, { dst := some 27, op := Op.fieldAddr 25 (Operand.tmp 3) 3, type := 0, pos := "law.go:67", after := #[], guard := none }, { dst := some 28, op := Op.load 3 (Operand.tmp 27), type := 3, pos := "law.go:67", after := #[{ on := 5, ground := Ground.data }], guard := none }, { dst := some 29, op := Op.fieldAddr 25 (Operand.tmp 3) 4, type := 0, pos := "law.go:67", after := #[], guard := none }, { dst := some 30, op := Op.load 4 (Operand.tmp 29), type := 4, pos := "law.go:67", after := #[{ on := 7, ground := Ground.data }], guard := none }, { dst := some 31, op := Op.call { callee := Callee.value (Operand.func 21), args := #[Operand.tmp 23, Operand.tmp 25, Operand.tmp 26, Operand.tmp 28, Operand.tmp 30], argTypes := #[28, 2, 3, 3, 4] }, type := 32, pos := "law.go:67", after := #[{ on := 1, ground := Ground.data }, { on := 3, ground := Ground.data }, { on := 4, ground := Ground.data }, { on := 6, ground := Ground.data }, { on := 8, ground := Ground.data }, { on := 1, ground := Ground.chain }], guard := none }, { dst := some 21, op := Op.move (Operand.tmp 31), type := 32, pos := "law.go:67", after := #[{ on := 9, ground := Ground.data }], guard := none }, { dst := some 32, op := Op.extract (Operand.tmp 21) 0, type := 28, pos := "law.go:67", after := #[{ on := 10, ground := Ground.data }], guard := none }, { dst := some 33, op := Op.extract (Operand.tmp 21) 1, type := 31, pos := "law.go:67", after := #[{ on := 10, ground := Ground.data }, { on := 14, ground := Ground.gcOnly Departure.lateStores }], guard := none }, { dst := some 7, op := Op.alloc 28, type := 0, pos := "law.go:67", after := #[], guard := none }, { dst := none, op := Op.store 28 (Operand.tmp 7) (Operand.tmp 32), type := 0, pos := "law.go:67", after := #[{ on := 13, ground := Ground.data }, { on := 11, ground := Ground.data }, { on := 9, ground := Ground.chain }, { on := 0, ground := Ground.phase }, { on := 1, ground := Ground.phase }, { on := 2, ground := Ground.phase }, { on := 3, ground := Ground.phase }, { on := 4, ground := Ground.phase }, { on := 5, ground := Ground.phase }, { on := 6, ground := Ground.phase }, { on := 7, ground := Ground.phase }, { on := 8, ground := Ground.phase }, { on := 9, ground := Ground.phase }, { on := 10, ground := Ground.phase }, { on := 11, ground := Ground.phase }, { on := 12, ground := Ground.textOnly Departure.lateStores }, { on := 13, ground := Ground.phase }], guard := none }, { dst := some 8, op := Op.assign (Operand.tmp 33), type := 31, pos := "law.go:67", after := #[{ on := 12, ground := Ground.data }, { on := 14, ground := Ground.chain }, { on := 0, ground := Ground.phase }, { on := 1, ground := Ground.phase }, { on := 2, ground := Ground.phase }, { on := 3, ground := Ground.phase }, { on := 4, ground := Ground.phase }, { on := 5, ground := Ground.phase }, { on := 6, ground := Ground.phase }, { on := 7, ground := Ground.phase }, { on := 8, ground := Ground.phase }, { on := 9, ground := Ground.phase }, { on := 10, ground := Ground.phase }, { on := 11, ground := Ground.phase }, { on := 12, ground := Ground.phase }, { on := 13, ground := Ground.phase }, { on := 14, ground := Ground.phase }], guard := none }] true) Q { tmps := #[a0, a1, .pointer (some ⟨SB, 0, none⟩), .pointer (some ⟨XB, 0, none⟩), a4, a5, .int .i64 tr, a7, a8, a9, a10, a11, a12, a13, a14, a15, a16, a17, a18, a19, a20, a21, a22, a23, a24, a25, a26, a27, a28, a29, a30, a31, a32, a33, a34, a35, a36, a37, a38, a39, a40, a41, a42, a43, a44, a45, a46, a47, a48, a49, a50, a51, a52, a53, a54, a55, a56], defers := [] } w0 := by
  have HQ := hid HQ0
  have Kd := Kq.drew K0
  clear HQ0 K0
  refine wp_region_noPanic ?_
  refine wp_region_held_drew (S := fun W => Kq W0 W SB XB ⟨p, t, u, a⟩ ⟨n, l, y, z, ok⟩) (by kernel_rfl) Kd (fun hH => ?_)
  generalize w0.drew = wd at *
  refine wpAnyH_take (i := 0) (oi := { dst := some 22, op := Op.load 23 (Operand.tmp 2), type := 23, pos := "law.go:67", after := #[], guard := none }) (v := .agg #[.int .i64 p, .int .i64 t, .int .i64 u, .int .i64 a]) rfl (by kernel_rfl) (by kernel_rfl) (by kernel_rfl) (fun _ _ _ h => h) (Or.inl ⟨by rfl, by (intro w hSw; have hK2 : Kq W0 w SB XB ⟨p, t, u, a⟩ ⟨n, l, y, z, ok⟩ := hSw; obtain ⟨s0, s1, s2, s3, sf, sl⟩ := Cel.cells hK2.s; obtain ⟨x0, x1, x2, x3, x4, xl⟩ := Cex.cells hK2.x; clear hK2 sf sl xl; clear hSw; go_simp)⟩) hH ?_
  simp only [Act.put, List.setIfInBounds_toArray, List.set_cons_zero, List.set_cons_succ]
  refine wpAnyH_take (i := 2) (oi := { dst := some 24, op := Op.fieldAddr 25 (Operand.tmp 3) 0, type := 0, pos := "law.go:67", after := #[], guard := none }) (v := .pointer (some ⟨XB, 0, none⟩)) rfl (by kernel_rfl) (by kernel_rfl) (by kernel_rfl) (fun _ _ _ h => h) (Or.inl ⟨by rfl, by (intro w hSw; clear hSw; go_simp)⟩) hH ?_
  simp only [Act.put, List.setIfInBounds_toArray, List.set_cons_zero, List.set_cons_succ]
  refine wpAnyH_take (i := 3) (oi := { dst := some 25, op := Op.load 2 (Operand.tmp 24), type := 2, pos := "law.go:67", after := #[{ on := 2, ground := Ground.data }], guard := none }) (v := .int .i64 n) rfl (by kernel_rfl) (by kernel_rfl) (by kernel_rfl) (fun _ _ _ h => h) (Or.inl ⟨by rfl, by (intro w hSw; have hK2 : Kq W0 w SB XB ⟨p, t, u, a⟩ ⟨n, l, y, z, ok⟩ := hSw; obtain ⟨s0, s1, s2, s3, sf, sl⟩ := Cel.cells hK2.s; obtain ⟨x0, x1, x2, x3, x4, xl⟩ := Cex.cells hK2.x; clear hK2 sf sl xl; clear hSw; go_simp)⟩) hH ?_
  simp only [Act.put, List.setIfInBounds_toArray, List.set_cons_zero, List.set_cons_succ]
  refine wpAnyH_take (i := 4) (oi := { dst := some 26, op := Op.move (Operand.tmp 6), type := 3, pos := "law.go:67", after := #[], guard := none }) (v := .int .i64 tr) rfl (by kernel_rfl) (by kernel_rfl) (by kernel_rfl) (fun _ _ _ h => h) (Or.inl ⟨by rfl, by (intro w hSw; clear hSw; go_simp)⟩) hH ?_
  simp only [Act.put, List.setIfInBounds_toArray, List.set_cons_zero, List.set_cons_succ]
  refine wpAnyH_take (i := 5) (oi := { dst := some 27, op := Op.fieldAddr 25 (Operand.tmp 3) 3, type := 0, pos := "law.go:67", after := #[], guard := none }) (v := .pointer (some ⟨XB, 3, none⟩)) rfl (by kernel_rfl) (by kernel_rfl) (by kernel_rfl) (fun _ _ _ h => h) (Or.inl ⟨by rfl, by (intro w hSw; clear hSw; go_simp)⟩) hH ?_
  simp only [Act.put, List.setIfInBounds_toArray, List.set_cons_zero, List.set_cons_succ]
  refine wpAnyH_take (i := 6) (oi := { dst := some 28, op := Op.load 3 (Operand.tmp 27), type := 3, pos := "law.go:67", after := #[{ on := 5, ground := Ground.data }], guard := none }) (v := .int .i64 z) rfl (by kernel_rfl) (by kernel_rfl) (by kernel_rfl) (fun _ _ _ h => h) (Or.inl ⟨by rfl, by (intro w hSw; have hK2 : Kq W0 w SB XB ⟨p, t, u, a⟩ ⟨n, l, y, z, ok⟩ := hSw; obtain ⟨s0, s1, s2, s3, sf, sl⟩ := Cel.cells hK2.s; obtain ⟨x0, x1, x2, x3, x4, xl⟩ := Cex.cells hK2.x; clear hK2 sf sl xl; clear hSw; go_simp)⟩) hH ?_
  simp only [Act.put, List.setIfInBounds_toArray, List.set_cons_zero, List.set_cons_succ]
  refine wpAnyH_take (i := 7) (oi := { dst := some 29, op := Op.fieldAddr 25 (Operand.tmp 3) 4, type := 0, pos := "law.go:67", after := #[], guard := none }) (v := .pointer (some ⟨XB, 4, none⟩)) rfl (by kernel_rfl) (by kernel_rfl) (by kernel_rfl) (fun _ _ _ h => h) (Or.inl ⟨by rfl, by (intro w hSw; clear hSw; go_simp)⟩) hH ?_
  simp only [Act.put, List.setIfInBounds_toArray, List.set_cons_zero, List.set_cons_succ]
  refine wpAnyH_take (i := 8) (oi := { dst := some 30, op := Op.load 4 (Operand.tmp 29), type := 4, pos := "law.go:67", after := #[{ on := 7, ground := Ground.data }], guard := none }) (v := .bool ok) rfl (by kernel_rfl) (by kernel_rfl) (by kernel_rfl) (fun _ _ _ h => h) (Or.inl ⟨by rfl, by (intro w hSw; have hK2 : Kq W0 w SB XB ⟨p, t, u, a⟩ ⟨n, l, y, z, ok⟩ := hSw; obtain ⟨s0, s1, s2, s3, sf, sl⟩ := Cel.cells hK2.s; obtain ⟨x0, x1, x2, x3, x4, xl⟩ := Cex.cells hK2.x; clear hK2 sf sl xl; clear hSw; go_simp)⟩) hH ?_
  simp only [Act.put, List.setIfInBounds_toArray, List.set_cons_zero, List.set_cons_succ]
  refine wpAnyH_ready (rs := [1, 13]) (by kernel_rfl) (by simp) ?_
  refine AllReadyH.cons (o := { dst := some 23, op := Op.call { callee := Callee.value (Operand.func 8), args := #[Operand.tmp 22], argTypes := #[23] }, type := 28, pos := "law.go:67", after := #[{ on := 0, ground := Ground.data }], guard := none }) rfl (fun K hK => ?_) (AllReadyH.cons (o := { dst := some 7, op := Op.alloc 28, type := 0, pos := "law.go:67", after := #[], guard := none }) rfl (fun K hK => ?_) AllReadyH.nil)
  · go_simp
    refine (made p t u a _).mono ?_
    rintro e w1 ⟨rfl, b1⟩
    have K1 := Kq.call Kd b1
    clear b1
    go_wp2_with fail
    refine hK.out _ _ K1 (fun hH1 => ?_)
    clear hK K
    refine wpAnyH_ready (rs := [9, 13]) (by kernel_rfl) (by simp) ?_
    refine AllReadyH.cons (o := { dst := some 31, op := Op.call { callee := Callee.value (Operand.func 21), args := #[Operand.tmp 23, Operand.tmp 25, Operand.tmp 26, Operand.tmp 28, Operand.tmp 30], argTypes := #[28, 2, 3, 3, 4] }, type := 32, pos := "law.go:67", after := #[{ on := 1, ground := Ground.data }, { on := 3, ground := Ground.data }, { on := 4, ground := Ground.data }, { on := 6, ground := Ground.data }, { on := 8, ground := Ground.data }, { on := 1, ground := Ground.chain }], guard := none }) rfl (fun K hK => ?_) (AllReadyH.cons (o := { dst := some 7, op := Op.alloc 28, type := 0, pos := "law.go:67", after := #[], guard := none }) rfl (fun K hK => ?_) AllReadyH.nil)
    · go_simp
      refine (finish p t u a n tr z ok _).mono ?_
      rintro e w2 ⟨rfl, b2⟩
      have K2 := Kq.call K1 b2
      clear b2
      go_wp2_with fail
      refine hK.out _ _ K2 (fun hH2 => ?_)
      clear hK K
      refine wpAnyH_take (i := 10) (oi := { dst := some 21, op := Op.move (Operand.tmp 31), type := 32, pos := "law.go:67", after := #[{ on := 9, ground := Ground.data }], guard := none }) (v := .tuple #[.agg #[.int .i64 (fi ⟨p, t, u, a⟩ n tr z ok).p, .int .i64 (fi ⟨p, t, u, a⟩ n tr z ok).t, .int .i64 (fi ⟨p, t, u, a⟩ n tr z ok).u, .int .i64 (fi ⟨p, t, u, a⟩ n tr z ok).a], .int .i64 (fiE ⟨p, t, u, a⟩ n tr)]) rfl (by kernel_rfl) (by kernel_rfl) (by kernel_rfl) (fun _ _ _ h => h) (Or.inl ⟨by rfl, by (intro w hSw; clear hSw; go_simp)⟩) hH2 ?_
      simp only [Act.put, List.setIfInBounds_toArray, List.set_cons_zero, List.set_cons_succ]
      refine wpAnyH_take (i := 11) (oi := { dst := some 32, op := Op.extract (Operand.tmp 21) 0, type := 28, pos := "law.go:67", after := #[{ on := 10, ground := Ground.data }], guard := none }) (v := .agg #[.int .i64 (fi ⟨p, t, u, a⟩ n tr z ok).p, .int .i64 (fi ⟨p, t, u, a⟩ n tr z ok).t, .int .i64 (fi ⟨p, t, u, a⟩ n tr z ok).u, .int .i64 (fi ⟨p, t, u, a⟩ n tr z ok).a]) rfl (by kernel_rfl) (by kernel_rfl) (by kernel_rfl) (fun _ _ _ h => h) (Or.inl ⟨by rfl, by (intro w hSw; clear hSw; go_simp)⟩) hH2 ?_
      simp only [Act.put, List.setIfInBounds_toArray, List.set_cons_zero, List.set_cons_succ]
      refine wpAnyH_take (i := 12) (oi := { dst := some 33, op := Op.extract (Operand.tmp 21) 1, type := 31, pos := "law.go:67", after := #[{ on := 10, ground := Ground.data }, { on := 14, ground := Ground.gcOnly Departure.lateStores }], guard := none }) (v := .int .i64 (fiE ⟨p, t, u, a⟩ n tr)) rfl (by kernel_rfl) (by kernel_rfl) (by kernel_rfl) (fun _ _ _ h => h) (Or.inl ⟨by rfl, by (intro w hSw; clear hSw; go_simp)⟩) hH2 ?_
      simp only [Act.put, List.setIfInBounds_toArray, List.set_cons_zero, List.set_cons_succ]
      refine wpAnyH_ready (rs := [13]) (by kernel_rfl) (by simp) ?_
      refine AllReadyH.cons (o := { dst := some 7, op := Op.alloc 28, type := 0, pos := "law.go:67", after := #[], guard := none }) rfl (fun K hK => ?_) AllReadyH.nil
      go_simp
      have K3 := Kq.al K2 (.cells #[.int .i64 0, .int .i64 0, .int .i64 0, .int .i64 0] 28)
      have hsA := Nat.ne_of_gt (Cel.lt K2.s)
      have hxA := Nat.ne_of_gt (Cex.lt K2.x)
      have hlA := K2.b.size
      have CA3 := Cel.new w2 0 0 0 0 28
      refine hK.out _ _ K3 (fun hH3 => ?_)
      clear hK K
      generalize w2.alloc (.cells #[.int .i64 0, .int .i64 0, .int .i64 0, .int .i64 0] 28) = w3 at *
      generalize w2.heap.size = A at *
      refine wpAnyH_ready (rs := [14]) (by kernel_rfl) (by simp) ?_
      refine AllReadyH.cons (o := { dst := none, op := Op.store 28 (Operand.tmp 7) (Operand.tmp 32), type := 0, pos := "law.go:67", after := #[{ on := 13, ground := Ground.data }, { on := 11, ground := Ground.data }, { on := 9, ground := Ground.chain }, { on := 0, ground := Ground.phase }, { on := 1, ground := Ground.phase }, { on := 2, ground := Ground.phase }, { on := 3, ground := Ground.phase }, { on := 4, ground := Ground.phase }, { on := 5, ground := Ground.phase }, { on := 6, ground := Ground.phase }, { on := 7, ground := Ground.phase }, { on := 8, ground := Ground.phase }, { on := 9, ground := Ground.phase }, { on := 10, ground := Ground.phase }, { on := 11, ground := Ground.phase }, { on := 12, ground := Ground.textOnly Departure.lateStores }, { on := 13, ground := Ground.phase }], guard := none }) rfl (fun K hK => ?_) AllReadyH.nil
      obtain ⟨z0, z1, z2, z3, zf, zl⟩ := Cel.cells CA3
      go_simp
      clear z0 z1 z2 z3 zf zl
      have K4 := Kq.put K3 hsA hxA hlA ((fi ⟨p, t, u, a⟩ n tr z ok).p) ((fi ⟨p, t, u, a⟩ n tr z ok).t) ((fi ⟨p, t, u, a⟩ n tr z ok).u) ((fi ⟨p, t, u, a⟩ n tr z ok).a)
      have CA4 := Cel.put CA3 ((fi ⟨p, t, u, a⟩ n tr z ok).p) ((fi ⟨p, t, u, a⟩ n tr z ok).t) ((fi ⟨p, t, u, a⟩ n tr z ok).u) ((fi ⟨p, t, u, a⟩ n tr z ok).a)
      refine hK.out _ _ K4 (fun hH4 => ?_)
      clear hK K
      unfold putN at K4 CA4
      generalize (((w3.setCell ⟨A, 0, none⟩ (.int .i64 ((fi ⟨p, t, u, a⟩ n tr z ok).p))).setCell ⟨A, 1, none⟩ (.int .i64 ((fi ⟨p, t, u, a⟩ n tr z ok).t))).setCell ⟨A, 2, none⟩ (.int .i64 ((fi ⟨p, t, u, a⟩ n tr z ok).u))).setCell ⟨A, 3, none⟩ (.int .i64 ((fi ⟨p, t, u, a⟩ n tr z ok).a)) = w4 at *
      refine wpAnyH_take (i := 15) (oi := { dst := some 8, op := Op.assign (Operand.tmp 33), type := 31, pos := "law.go:67", after := #[{ on := 12, ground := Ground.data }, { on := 14, ground := Ground.chain }, { on := 0, ground := Ground.phase }, { on := 1, ground := Ground.phase }, { on := 2, ground := Ground.phase }, { on := 3, ground := Ground.phase }, { on := 4, ground := Ground.phase }, { on := 5, ground := Ground.phase }, { on := 6, ground := Ground.phase }, { on := 7, ground := Ground.phase }, { on := 8, ground := Ground.phase }, { on := 9, ground := Ground.phase }, { on := 10, ground := Ground.phase }, { on := 11, ground := Ground.phase }, { on := 12, ground := Ground.phase }, { on := 13, ground := Ground.phase }, { on := 14, ground := Ground.phase }], guard := none }) (v := .int .i64 (fiE ⟨p, t, u, a⟩ n tr)) rfl (by kernel_rfl) (by kernel_rfl) (by kernel_rfl) (fun _ _ _ h => h) (Or.inl ⟨by rfl, by (intro w hSw; clear hSw; go_simp)⟩) hH4 ?_
      simp only [Act.put, List.setIfInBounds_toArray, List.set_cons_zero, List.set_cons_succ]
      refine wpAnyH_done (by kernel_rfl) ?_ _
      refine NoPanic.normal ?_
      exact HQ.out _ _ K4 CA4 hlA
    · go_simp
      have K5 := Kq.al K1 (.cells #[.int .i64 0, .int .i64 0, .int .i64 0, .int .i64 0] 28)
      have hsA := Nat.ne_of_gt (Cel.lt K1.s)
      have hxA := Nat.ne_of_gt (Cex.lt K1.x)
      have hlA := K1.b.size
      have CA5 := Cel.new w1 0 0 0 0 28
      refine hK.out _ _ K5 (fun hH5 => ?_)
      clear hK K
      generalize w1.alloc (.cells #[.int .i64 0, .int .i64 0, .int .i64 0, .int .i64 0] 28) = w5 at *
      generalize w1.heap.size = A at *
      refine wpAnyH_ready (rs := [9]) (by kernel_rfl) (by simp) ?_
      refine AllReadyH.cons (o := { dst := some 31, op := Op.call { callee := Callee.value (Operand.func 21), args := #[Operand.tmp 23, Operand.tmp 25, Operand.tmp 26, Operand.tmp 28, Operand.tmp 30], argTypes := #[28, 2, 3, 3, 4] }, type := 32, pos := "law.go:67", after := #[{ on := 1, ground := Ground.data }, { on := 3, ground := Ground.data }, { on := 4, ground := Ground.data }, { on := 6, ground := Ground.data }, { on := 8, ground := Ground.data }, { on := 1, ground := Ground.chain }], guard := none }) rfl (fun K hK => ?_) AllReadyH.nil
      go_simp
      refine (finish p t u a n tr z ok _).mono ?_
      rintro e w6 ⟨rfl, b6⟩
      have K6 := Kq.call K5 b6
      have CA6 := Cel.call CA5 b6
      clear b6
      go_wp2_with fail
      refine hK.out _ _ K6 (fun hH6 => ?_)
      clear hK K
      refine wpAnyH_take (i := 10) (oi := { dst := some 21, op := Op.move (Operand.tmp 31), type := 32, pos := "law.go:67", after := #[{ on := 9, ground := Ground.data }], guard := none }) (v := .tuple #[.agg #[.int .i64 (fi ⟨p, t, u, a⟩ n tr z ok).p, .int .i64 (fi ⟨p, t, u, a⟩ n tr z ok).t, .int .i64 (fi ⟨p, t, u, a⟩ n tr z ok).u, .int .i64 (fi ⟨p, t, u, a⟩ n tr z ok).a], .int .i64 (fiE ⟨p, t, u, a⟩ n tr)]) rfl (by kernel_rfl) (by kernel_rfl) (by kernel_rfl) (fun _ _ _ h => h) (Or.inl ⟨by rfl, by (intro w hSw; clear hSw; go_simp)⟩) hH6 ?_
      simp only [Act.put, List.setIfInBounds_toArray, List.set_cons_zero, List.set_cons_succ]
      refine wpAnyH_take (i := 11) (oi := { dst := some 32, op := Op.extract (Operand.tmp 21) 0, type := 28, pos := "law.go:67", after := #[{ on := 10, ground := Ground.data }], guard := none }) (v := .agg #[.int .i64 (fi ⟨p, t, u, a⟩ n tr z ok).p, .int .i64 (fi ⟨p, t, u, a⟩ n tr z ok).t, .int .i64 (fi ⟨p, t, u, a⟩ n tr z ok).u, .int .i64 (fi ⟨p, t, u, a⟩ n tr z ok).a]) rfl (by kernel_rfl) (by kernel_rfl) (by kernel_rfl) (fun _ _ _ h => h) (Or.inl ⟨by rfl, by (intro w hSw; clear hSw; go_simp)⟩) hH6 ?_
      simp only [Act.put, List.setIfInBounds_toArray, List.set_cons_zero, List.set_cons_succ]
      refine wpAnyH_take (i := 12) (oi := { dst := some 33, op := Op.extract (Operand.tmp 21) 1, type := 31, pos := "law.go:67", after := #[{ on := 10, ground := Ground.data }, { on := 14, ground := Ground.gcOnly Departure.lateStores }], guard := none }) (v := .int .i64 (fiE ⟨p, t, u, a⟩ n tr)) rfl (by kernel_rfl) (by kernel_rfl) (by kernel_rfl) (fun _ _ _ h => h) (Or.inl ⟨by rfl, by (intro w hSw; clear hSw; go_simp)⟩) hH6 ?_
      simp only [Act.put, List.setIfInBounds_toArray, List.set_cons_zero, List.set_cons_succ]
      refine wpAnyH_ready (rs := [14]) (by kernel_rfl) (by simp) ?_
      refine AllReadyH.cons (o := { dst := none, op := Op.store 28 (Operand.tmp 7) (Operand.tmp 32), type := 0, pos := "law.go:67", after := #[{ on := 13, ground := Ground.data }, { on := 11, ground := Ground.data }, { on := 9, ground := Ground.chain }, { on := 0, ground := Ground.phase }, { on := 1, ground := Ground.phase }, { on := 2, ground := Ground.phase }, { on := 3, ground := Ground.phase }, { on := 4, ground := Ground.phase }, { on := 5, ground := Ground.phase }, { on := 6, ground := Ground.phase }, { on := 7, ground := Ground.phase }, { on := 8, ground := Ground.phase }, { on := 9, ground := Ground.phase }, { on := 10, ground := Ground.phase }, { on := 11, ground := Ground.phase }, { on := 12, ground := Ground.textOnly Departure.lateStores }, { on := 13, ground := Ground.phase }], guard := none }) rfl (fun K hK => ?_) AllReadyH.nil
      obtain ⟨z0, z1, z2, z3, zf, zl⟩ := Cel.cells CA6
      go_simp
      clear z0 z1 z2 z3 zf zl
      have K7 := Kq.put K6 hsA hxA hlA ((fi ⟨p, t, u, a⟩ n tr z ok).p) ((fi ⟨p, t, u, a⟩ n tr z ok).t) ((fi ⟨p, t, u, a⟩ n tr z ok).u) ((fi ⟨p, t, u, a⟩ n tr z ok).a)
      have CA7 := Cel.put CA6 ((fi ⟨p, t, u, a⟩ n tr z ok).p) ((fi ⟨p, t, u, a⟩ n tr z ok).t) ((fi ⟨p, t, u, a⟩ n tr z ok).u) ((fi ⟨p, t, u, a⟩ n tr z ok).a)
      refine hK.out _ _ K7 (fun hH7 => ?_)
      clear hK K
      unfold putN at K7 CA7
      generalize (((w6.setCell ⟨A, 0, none⟩ (.int .i64 ((fi ⟨p, t, u, a⟩ n tr z ok).p))).setCell ⟨A, 1, none⟩ (.int .i64 ((fi ⟨p, t, u, a⟩ n tr z ok).t))).setCell ⟨A, 2, none⟩ (.int .i64 ((fi ⟨p, t, u, a⟩ n tr z ok).u))).setCell ⟨A, 3, none⟩ (.int .i64 ((fi ⟨p, t, u, a⟩ n tr z ok).a)) = w7 at *
      refine wpAnyH_take (i := 15) (oi := { dst := some 8, op := Op.assign (Operand.tmp 33), type := 31, pos := "law.go:67", after := #[{ on := 12, ground := Ground.data }, { on := 14, ground := Ground.chain }, { on := 0, ground := Ground.phase }, { on := 1, ground := Ground.phase }, { on := 2, ground := Ground.phase }, { on := 3, ground := Ground.phase }, { on := 4, ground := Ground.phase }, { on := 5, ground := Ground.phase }, { on := 6, ground := Ground.phase }, { on := 7, ground := Ground.phase }, { on := 8, ground := Ground.phase }, { on := 9, ground := Ground.phase }, { on := 10, ground := Ground.phase }, { on := 11, ground := Ground.phase }, { on := 12, ground := Ground.phase }, { on := 13, ground := Ground.phase }, { on := 14, ground := Ground.phase }], guard := none }) (v := .int .i64 (fiE ⟨p, t, u, a⟩ n tr)) rfl (by kernel_rfl) (by kernel_rfl) (by kernel_rfl) (fun _ _ _ h => h) (Or.inl ⟨by rfl, by (intro w hSw; clear hSw; go_simp)⟩) hH7 ?_
      simp only [Act.put, List.setIfInBounds_toArray, List.set_cons_zero, List.set_cons_succ]
      refine wpAnyH_done (by kernel_rfl) ?_ _
      refine NoPanic.normal ?_
      exact HQ.out _ _ K7 CA7 hlA
  · go_simp
    have K8 := Kq.al Kd (.cells #[.int .i64 0, .int .i64 0, .int .i64 0, .int .i64 0] 28)
    have hsA := Nat.ne_of_gt (Cel.lt Kd.s)
    have hxA := Nat.ne_of_gt (Cex.lt Kd.x)
    have hlA := Kd.b.size
    have CA8 := Cel.new wd 0 0 0 0 28
    refine hK.out _ _ K8 (fun hH8 => ?_)
    clear hK K
    generalize wd.alloc (.cells #[.int .i64 0, .int .i64 0, .int .i64 0, .int .i64 0] 28) = w8 at *
    generalize wd.heap.size = A at *
    refine wpAnyH_ready (rs := [1]) (by kernel_rfl) (by simp) ?_
    refine AllReadyH.cons (o := { dst := some 23, op := Op.call { callee := Callee.value (Operand.func 8), args := #[Operand.tmp 22], argTypes := #[23] }, type := 28, pos := "law.go:67", after := #[{ on := 0, ground := Ground.data }], guard := none }) rfl (fun K hK => ?_) AllReadyH.nil
    go_simp
    refine (made p t u a _).mono ?_
    rintro e w9 ⟨rfl, b9⟩
    have K9 := Kq.call K8 b9
    have CA9 := Cel.call CA8 b9
    clear b9
    go_wp2_with fail
    refine hK.out _ _ K9 (fun hH9 => ?_)
    clear hK K
    refine wpAnyH_ready (rs := [9]) (by kernel_rfl) (by simp) ?_
    refine AllReadyH.cons (o := { dst := some 31, op := Op.call { callee := Callee.value (Operand.func 21), args := #[Operand.tmp 23, Operand.tmp 25, Operand.tmp 26, Operand.tmp 28, Operand.tmp 30], argTypes := #[28, 2, 3, 3, 4] }, type := 32, pos := "law.go:67", after := #[{ on := 1, ground := Ground.data }, { on := 3, ground := Ground.data }, { on := 4, ground := Ground.data }, { on := 6, ground := Ground.data }, { on := 8, ground := Ground.data }, { on := 1, ground := Ground.chain }], guard := none }) rfl (fun K hK => ?_) AllReadyH.nil
    go_simp
    refine (finish p t u a n tr z ok _).mono ?_
    rintro e w10 ⟨rfl, b10⟩
    have K10 := Kq.call K9 b10
    have CA10 := Cel.call CA9 b10
    clear b10
    go_wp2_with fail
    refine hK.out _ _ K10 (fun hH10 => ?_)
    clear hK K
    refine wpAnyH_take (i := 10) (oi := { dst := some 21, op := Op.move (Operand.tmp 31), type := 32, pos := "law.go:67", after := #[{ on := 9, ground := Ground.data }], guard := none }) (v := .tuple #[.agg #[.int .i64 (fi ⟨p, t, u, a⟩ n tr z ok).p, .int .i64 (fi ⟨p, t, u, a⟩ n tr z ok).t, .int .i64 (fi ⟨p, t, u, a⟩ n tr z ok).u, .int .i64 (fi ⟨p, t, u, a⟩ n tr z ok).a], .int .i64 (fiE ⟨p, t, u, a⟩ n tr)]) rfl (by kernel_rfl) (by kernel_rfl) (by kernel_rfl) (fun _ _ _ h => h) (Or.inl ⟨by rfl, by (intro w hSw; clear hSw; go_simp)⟩) hH10 ?_
    simp only [Act.put, List.setIfInBounds_toArray, List.set_cons_zero, List.set_cons_succ]
    refine wpAnyH_take (i := 11) (oi := { dst := some 32, op := Op.extract (Operand.tmp 21) 0, type := 28, pos := "law.go:67", after := #[{ on := 10, ground := Ground.data }], guard := none }) (v := .agg #[.int .i64 (fi ⟨p, t, u, a⟩ n tr z ok).p, .int .i64 (fi ⟨p, t, u, a⟩ n tr z ok).t, .int .i64 (fi ⟨p, t, u, a⟩ n tr z ok).u, .int .i64 (fi ⟨p, t, u, a⟩ n tr z ok).a]) rfl (by kernel_rfl) (by kernel_rfl) (by kernel_rfl) (fun _ _ _ h => h) (Or.inl ⟨by rfl, by (intro w hSw; clear hSw; go_simp)⟩) hH10 ?_
    simp only [Act.put, List.setIfInBounds_toArray, List.set_cons_zero, List.set_cons_succ]
    refine wpAnyH_take (i := 12) (oi := { dst := some 33, op := Op.extract (Operand.tmp 21) 1, type := 31, pos := "law.go:67", after := #[{ on := 10, ground := Ground.data }, { on := 14, ground := Ground.gcOnly Departure.lateStores }], guard := none }) (v := .int .i64 (fiE ⟨p, t, u, a⟩ n tr)) rfl (by kernel_rfl) (by kernel_rfl) (by kernel_rfl) (fun _ _ _ h => h) (Or.inl ⟨by rfl, by (intro w hSw; clear hSw; go_simp)⟩) hH10 ?_
    simp only [Act.put, List.setIfInBounds_toArray, List.set_cons_zero, List.set_cons_succ]
    refine wpAnyH_ready (rs := [14]) (by kernel_rfl) (by simp) ?_
    refine AllReadyH.cons (o := { dst := none, op := Op.store 28 (Operand.tmp 7) (Operand.tmp 32), type := 0, pos := "law.go:67", after := #[{ on := 13, ground := Ground.data }, { on := 11, ground := Ground.data }, { on := 9, ground := Ground.chain }, { on := 0, ground := Ground.phase }, { on := 1, ground := Ground.phase }, { on := 2, ground := Ground.phase }, { on := 3, ground := Ground.phase }, { on := 4, ground := Ground.phase }, { on := 5, ground := Ground.phase }, { on := 6, ground := Ground.phase }, { on := 7, ground := Ground.phase }, { on := 8, ground := Ground.phase }, { on := 9, ground := Ground.phase }, { on := 10, ground := Ground.phase }, { on := 11, ground := Ground.phase }, { on := 12, ground := Ground.textOnly Departure.lateStores }, { on := 13, ground := Ground.phase }], guard := none }) rfl (fun K hK => ?_) AllReadyH.nil
    obtain ⟨z0, z1, z2, z3, zf, zl⟩ := Cel.cells CA10
    go_simp
    clear z0 z1 z2 z3 zf zl
    have K11 := Kq.put K10 hsA hxA hlA ((fi ⟨p, t, u, a⟩ n tr z ok).p) ((fi ⟨p, t, u, a⟩ n tr z ok).t) ((fi ⟨p, t, u, a⟩ n tr z ok).u) ((fi ⟨p, t, u, a⟩ n tr z ok).a)
    have CA11 := Cel.put CA10 ((fi ⟨p, t, u, a⟩ n tr z ok).p) ((fi ⟨p, t, u, a⟩ n tr z ok).t) ((fi ⟨p, t, u, a⟩ n tr z ok).u) ((fi ⟨p, t, u, a⟩ n tr z ok).a)
    refine hK.out _ _ K11 (fun hH11 => ?_)
    clear hK K
    unfold putN at K11 CA11
    generalize (((w10.setCell ⟨A, 0, none⟩ (.int .i64 ((fi ⟨p, t, u, a⟩ n tr z ok).p))).setCell ⟨A, 1, none⟩ (.int .i64 ((fi ⟨p, t, u, a⟩ n tr z ok).t))).setCell ⟨A, 2, none⟩ (.int .i64 ((fi ⟨p, t, u, a⟩ n tr z ok).u))).setCell ⟨A, 3, none⟩ (.int .i64 ((fi ⟨p, t, u, a⟩ n tr z ok).a)) = w11 at *
    refine wpAnyH_take (i := 15) (oi := { dst := some 8, op := Op.assign (Operand.tmp 33), type := 31, pos := "law.go:67", after := #[{ on := 12, ground := Ground.data }, { on := 14, ground := Ground.chain }, { on := 0, ground := Ground.phase }, { on := 1, ground := Ground.phase }, { on := 2, ground := Ground.phase }, { on := 3, ground := Ground.phase }, { on := 4, ground := Ground.phase }, { on := 5, ground := Ground.phase }, { on := 6, ground := Ground.phase }, { on := 7, ground := Ground.phase }, { on := 8, ground := Ground.phase }, { on := 9, ground := Ground.phase }, { on := 10, ground := Ground.phase }, { on := 11, ground := Ground.phase }, { on := 12, ground := Ground.phase }, { on := 13, ground := Ground.phase }, { on := 14, ground := Ground.phase }], guard := none }) (v := .int .i64 (fiE ⟨p, t, u, a⟩ n tr)) rfl (by kernel_rfl) (by kernel_rfl) (by kernel_rfl) (fun _ _ _ h => h) (Or.inl ⟨by rfl, by (intro w hSw; clear hSw; go_simp)⟩) hH11 ?_
    simp only [Act.put, List.setIfInBounds_toArray, List.set_cons_zero, List.set_cons_succ]
    refine wpAnyH_done (by kernel_rfl) ?_ _
    refine NoPanic.normal ?_
    exact HQ.out _ _ K11 CA11 hlA

set_option linter.unusedSimpArgs false in
set_option maxRecDepth 100000 in
set_option maxHeartbeats 6400000 in
theorem r4E {W0 : World} {SB XB : Nat} {p t u a n l y z : Int} {ok : Bool} {nw : Int} {a0 a1 a4 a5 a7 a8 a9 a10 a11 a12 a13 a14 a15 a16 a17 a18 a19 a20 a21 a22 a23 a24 a25 a26 a27 a28 a29 a30 a31 a32 a33 a34 a35 a36 a37 a38 a39 a40 a41 a42 a43 a44 a45 a46 a47 a48 : Value} {w0 : World} {Q : Exit → Act → World → Prop} (K0 : Kq W0 w0 SB XB ⟨p, t, u, a⟩ ⟨n, l, y, z, ok⟩)
    (HQ0 : ∀ (A : Nat) (wF : World), Kq W0 wF SB XB ⟨p, t, u, a⟩ ⟨n, l, y, z, ok⟩ → Cel wF A (ex ⟨p, t, u, a⟩ nw z).p (ex ⟨p, t, u, a⟩ nw z).t (ex ⟨p, t, u, a⟩ nw z).u (ex ⟨p, t, u, a⟩ nw z).a → W0.heap.size ≤ A → Q .normal { tmps := #[a0, a1, .pointer (some ⟨SB, 0, none⟩), .pointer (some ⟨XB, 0, none⟩), a4, a5, .int .i64 nw, .pointer (some ⟨A, 0, none⟩), .bool (exB ⟨p, t, u, a⟩ nw), a9, a10, a11, a12, a13, a14, a15, a16, a17, a18, a19, a20, .tuple #[.agg #[.int .i64 (ex ⟨p, t, u, a⟩ nw z).p, .int .i64 (ex ⟨p, t, u, a⟩ nw z).t, .int .i64 (ex ⟨p, t, u, a⟩ nw z).u, .int .i64 (ex ⟨p, t, u, a⟩ nw z).a], .bool (exB ⟨p, t, u, a⟩ nw)], .agg #[.int .i64 p, .int .i64 t, .int .i64 u, .int .i64 a], .agg #[.int .i64 p, .int .i64 t, .int .i64 u, .int .i64 a], .int .i64 nw, .pointer (some ⟨XB, 3, none⟩), .int .i64 z, .tuple #[.agg #[.int .i64 (ex ⟨p, t, u, a⟩ nw z).p, .int .i64 (ex ⟨p, t, u, a⟩ nw z).t, .int .i64 (ex ⟨p, t, u, a⟩ nw z).u, .int .i64 (ex ⟨p, t, u, a⟩ nw z).a], .bool (exB ⟨p, t, u, a⟩ nw)], .agg #[.int .i64 (ex ⟨p, t, u, a⟩ nw z).p, .int .i64 (ex ⟨p, t, u, a⟩ nw z).t, .int .i64 (ex ⟨p, t, u, a⟩ nw z).u, .int .i64 (ex ⟨p, t, u, a⟩ nw z).a], .bool (exB ⟨p, t, u, a⟩ nw), a30, a31, a32, a33, a34, a35, a36, a37, a38, a39, a40, a41, a42, a43, a44, a45, a46, a47, a48], defers := [] } wF) :
    Code.wp Try.prog (Code.region 4 #[{ dst := some 22, op := Op.load 23 (Operand.tmp 2), type := 23, pos := "law.go:79", after := #[], guard := none }, { dst := some 23, op := Op.call { callee := Callee.value (Operand.func 8), args := #[Operand.tmp 22], argTypes := #[23] }, type := 28, pos := "law.go:79", after := #[{ on := 0, ground := Ground.data }], guard := none }, { dst := some 24, op := Op.move (Operand.tmp 6), type := 2, pos := "law.go:79", after := #[], guard := none }, { dst := some 25, op := Op.fieldAddr 25 (Operand.tmp 3) 3, type := 0, pos := "law.go:79", after := #[], guard := none }, { dst := some 26, op := Op.load 3 (Operand.tmp 25), type := 3, pos := "law.go:79", after := #[{ on := 3, ground := Ground.data }], guard := none }, { dst := some 27, op := Op.call { callee := Callee.value (Operand.func 23), args := #[Operand.tmp 23, Operand.tmp 24, Operand.tmp 26], argTypes := #[28, 2, 3] }, type := 50, pos := "law.go:79", after := #[{ on := 1, ground := Ground.data }, { on := 2, ground := Ground.data }, { on := 4, ground := Ground.data }, { on := 1, ground := Ground.chain }], guard := none }, { dst := some 21, op := Op.move (Operand.tmp 27), type := 50, pos := "law.go:79", after := #[{ on := 5, ground := Ground.data }], guard := none }, { dst := some 28, op := Op.extract (Operand.tmp 21) 0, type := 28, pos := "law.go:79", after := #[{ on := 6, ground := Ground.data }], guard := none }, { dst := some 29, op := Op.extract (Operand.tmp 21) 1, type := 4, pos := "law.go:79", after := #[{ on := 6, ground := Ground.data }, { on := 10, ground := Ground.gcOnly Departure.lateStores }], guard := none }, { dst := some 7, op := Op.alloc 28, type := 0, pos := "law.go:79", after := #[], guard := none }, { dst := none, op := Op.store 28 (Operand.tmp 7) (Operand.tmp 28), type := 0, pos := "law.go:79", after := #[{ on := 9, ground := Ground.data }, { on := 7, ground := Ground.data }, { on := 5, ground := Ground.chain }, { on := 0, ground := Ground.phase }, { on := 1, ground := Ground.phase }, { on := 2, ground := Ground.phase }, { on := 3, ground := Ground.phase }, { on := 4, ground := Ground.phase }, { on := 5, ground := Ground.phase }, { on := 6, ground := Ground.phase }, { on := 7, ground := Ground.phase }, { on := 8, ground := Ground.textOnly Departure.lateStores }, { on := 9, ground := Ground.phase }], guard := none }, { dst := some 8, op := Op.assign (Operand.tmp 29), type := 4, pos := "law.go:79", after := #[{ on := 8, ground := Ground.data }, { on := 10, ground := Ground.chain }, { on := 0, ground := Ground.phase }, { on := 1, ground := Ground.phase }, { on := 2, ground := Ground.phase }, { on := 3, ground := Ground.phase }, { on := 4, ground := Ground.phase }, { on := 5, ground := Ground.phase }, { on := 6, ground := Ground.phase }, { on := 7, ground := Ground.phase }, { on := 8, ground := Ground.phase }, { on := 9, ground := Ground.phase }, { on := 10, ground := Ground.phase }], guard := none }] true) Q { tmps := #[a0, a1, .pointer (some ⟨SB, 0, none⟩), .pointer (some ⟨XB, 0, none⟩), a4, a5, .int .i64 nw, a7, a8, a9, a10, a11, a12, a13, a14, a15, a16, a17, a18, a19, a20, a21, a22, a23, a24, a25, a26, a27, a28, a29, a30, a31, a32, a33, a34, a35, a36, a37, a38, a39, a40, a41, a42, a43, a44, a45, a46, a47, a48], defers := [] } w0 := by
  have HQ := hid HQ0
  have Kd := Kq.drew K0
  clear HQ0 K0
  refine wp_region_noPanic ?_
  refine wp_region_held_drew (S := fun W => Kq W0 W SB XB ⟨p, t, u, a⟩ ⟨n, l, y, z, ok⟩) (by kernel_rfl) Kd (fun hH => ?_)
  generalize w0.drew = wd at *
  refine wpAnyH_take (i := 0) (oi := { dst := some 22, op := Op.load 23 (Operand.tmp 2), type := 23, pos := "law.go:79", after := #[], guard := none }) (v := .agg #[.int .i64 p, .int .i64 t, .int .i64 u, .int .i64 a]) rfl (by kernel_rfl) (by kernel_rfl) (by kernel_rfl) (fun _ _ _ h => h) (Or.inl ⟨by rfl, by (intro w hSw; have hK2 : Kq W0 w SB XB ⟨p, t, u, a⟩ ⟨n, l, y, z, ok⟩ := hSw; obtain ⟨s0, s1, s2, s3, sf, sl⟩ := Cel.cells hK2.s; obtain ⟨x0, x1, x2, x3, x4, xl⟩ := Cex.cells hK2.x; clear hK2 sf sl xl; clear hSw; go_simp)⟩) hH ?_
  simp only [Act.put, List.setIfInBounds_toArray, List.set_cons_zero, List.set_cons_succ]
  refine wpAnyH_take (i := 2) (oi := { dst := some 24, op := Op.move (Operand.tmp 6), type := 2, pos := "law.go:79", after := #[], guard := none }) (v := .int .i64 nw) rfl (by kernel_rfl) (by kernel_rfl) (by kernel_rfl) (fun _ _ _ h => h) (Or.inl ⟨by rfl, by (intro w hSw; clear hSw; go_simp)⟩) hH ?_
  simp only [Act.put, List.setIfInBounds_toArray, List.set_cons_zero, List.set_cons_succ]
  refine wpAnyH_take (i := 3) (oi := { dst := some 25, op := Op.fieldAddr 25 (Operand.tmp 3) 3, type := 0, pos := "law.go:79", after := #[], guard := none }) (v := .pointer (some ⟨XB, 3, none⟩)) rfl (by kernel_rfl) (by kernel_rfl) (by kernel_rfl) (fun _ _ _ h => h) (Or.inl ⟨by rfl, by (intro w hSw; clear hSw; go_simp)⟩) hH ?_
  simp only [Act.put, List.setIfInBounds_toArray, List.set_cons_zero, List.set_cons_succ]
  refine wpAnyH_take (i := 4) (oi := { dst := some 26, op := Op.load 3 (Operand.tmp 25), type := 3, pos := "law.go:79", after := #[{ on := 3, ground := Ground.data }], guard := none }) (v := .int .i64 z) rfl (by kernel_rfl) (by kernel_rfl) (by kernel_rfl) (fun _ _ _ h => h) (Or.inl ⟨by rfl, by (intro w hSw; have hK2 : Kq W0 w SB XB ⟨p, t, u, a⟩ ⟨n, l, y, z, ok⟩ := hSw; obtain ⟨s0, s1, s2, s3, sf, sl⟩ := Cel.cells hK2.s; obtain ⟨x0, x1, x2, x3, x4, xl⟩ := Cex.cells hK2.x; clear hK2 sf sl xl; clear hSw; go_simp)⟩) hH ?_
  simp only [Act.put, List.setIfInBounds_toArray, List.set_cons_zero, List.set_cons_succ]
  refine wpAnyH_ready (rs := [1, 9]) (by kernel_rfl) (by simp) ?_
  refine AllReadyH.cons (o := { dst := some 23, op := Op.call { callee := Callee.value (Operand.func 8), args := #[Operand.tmp 22], argTypes := #[23] }, type := 28, pos := "law.go:79", after := #[{ on := 0, ground := Ground.data }], guard := none }) rfl (fun K hK => ?_) (AllReadyH.cons (o := { dst := some 7, op := Op.alloc 28, type := 0, pos := "law.go:79", after := #[], guard := none }) rfl (fun K hK => ?_) AllReadyH.nil)
  · go_simp
    refine (made p t u a _).mono ?_
    rintro e w1 ⟨rfl, b1⟩
    have K1 := Kq.call Kd b1
    clear b1
    go_wp2_with fail
    refine hK.out _ _ K1 (fun hH1 => ?_)
    clear hK K
    refine wpAnyH_ready (rs := [5, 9]) (by kernel_rfl) (by simp) ?_
    refine AllReadyH.cons (o := { dst := some 27, op := Op.call { callee := Callee.value (Operand.func 23), args := #[Operand.tmp 23, Operand.tmp 24, Operand.tmp 26], argTypes := #[28, 2, 3] }, type := 50, pos := "law.go:79", after := #[{ on := 1, ground := Ground.data }, { on := 2, ground := Ground.data }, { on := 4, ground := Ground.data }, { on := 1, ground := Ground.chain }], guard := none }) rfl (fun K hK => ?_) (AllReadyH.cons (o := { dst := some 7, op := Op.alloc 28, type := 0, pos := "law.go:79", after := #[], guard := none }) rfl (fun K hK => ?_) AllReadyH.nil)
    · go_simp
      refine (expire p t u a nw z _).mono ?_
      rintro e w2 ⟨rfl, b2⟩
      have K2 := Kq.call K1 b2
      clear b2
      go_wp2_with fail
      refine hK.out _ _ K2 (fun hH2 => ?_)
      clear hK K
      refine wpAnyH_take (i := 6) (oi := { dst := some 21, op := Op.move (Operand.tmp 27), type := 50, pos := "law.go:79", after := #[{ on := 5, ground := Ground.data }], guard := none }) (v := .tuple #[.agg #[.int .i64 (ex ⟨p, t, u, a⟩ nw z).p, .int .i64 (ex ⟨p, t, u, a⟩ nw z).t, .int .i64 (ex ⟨p, t, u, a⟩ nw z).u, .int .i64 (ex ⟨p, t, u, a⟩ nw z).a], .bool (exB ⟨p, t, u, a⟩ nw)]) rfl (by kernel_rfl) (by kernel_rfl) (by kernel_rfl) (fun _ _ _ h => h) (Or.inl ⟨by rfl, by (intro w hSw; clear hSw; go_simp)⟩) hH2 ?_
      simp only [Act.put, List.setIfInBounds_toArray, List.set_cons_zero, List.set_cons_succ]
      refine wpAnyH_take (i := 7) (oi := { dst := some 28, op := Op.extract (Operand.tmp 21) 0, type := 28, pos := "law.go:79", after := #[{ on := 6, ground := Ground.data }], guard := none }) (v := .agg #[.int .i64 (ex ⟨p, t, u, a⟩ nw z).p, .int .i64 (ex ⟨p, t, u, a⟩ nw z).t, .int .i64 (ex ⟨p, t, u, a⟩ nw z).u, .int .i64 (ex ⟨p, t, u, a⟩ nw z).a]) rfl (by kernel_rfl) (by kernel_rfl) (by kernel_rfl) (fun _ _ _ h => h) (Or.inl ⟨by rfl, by (intro w hSw; clear hSw; go_simp)⟩) hH2 ?_
      simp only [Act.put, List.setIfInBounds_toArray, List.set_cons_zero, List.set_cons_succ]
      refine wpAnyH_take (i := 8) (oi := { dst := some 29, op := Op.extract (Operand.tmp 21) 1, type := 4, pos := "law.go:79", after := #[{ on := 6, ground := Ground.data }, { on := 10, ground := Ground.gcOnly Departure.lateStores }], guard := none }) (v := .bool (exB ⟨p, t, u, a⟩ nw)) rfl (by kernel_rfl) (by kernel_rfl) (by kernel_rfl) (fun _ _ _ h => h) (Or.inl ⟨by rfl, by (intro w hSw; clear hSw; go_simp)⟩) hH2 ?_
      simp only [Act.put, List.setIfInBounds_toArray, List.set_cons_zero, List.set_cons_succ]
      refine wpAnyH_ready (rs := [9]) (by kernel_rfl) (by simp) ?_
      refine AllReadyH.cons (o := { dst := some 7, op := Op.alloc 28, type := 0, pos := "law.go:79", after := #[], guard := none }) rfl (fun K hK => ?_) AllReadyH.nil
      go_simp
      have K3 := Kq.al K2 (.cells #[.int .i64 0, .int .i64 0, .int .i64 0, .int .i64 0] 28)
      have hsA := Nat.ne_of_gt (Cel.lt K2.s)
      have hxA := Nat.ne_of_gt (Cex.lt K2.x)
      have hlA := K2.b.size
      have CA3 := Cel.new w2 0 0 0 0 28
      refine hK.out _ _ K3 (fun hH3 => ?_)
      clear hK K
      generalize w2.alloc (.cells #[.int .i64 0, .int .i64 0, .int .i64 0, .int .i64 0] 28) = w3 at *
      generalize w2.heap.size = A at *
      refine wpAnyH_ready (rs := [10]) (by kernel_rfl) (by simp) ?_
      refine AllReadyH.cons (o := { dst := none, op := Op.store 28 (Operand.tmp 7) (Operand.tmp 28), type := 0, pos := "law.go:79", after := #[{ on := 9, ground := Ground.data }, { on := 7, ground := Ground.data }, { on := 5, ground := Ground.chain }, { on := 0, ground := Ground.phase }, { on := 1, ground := Ground.phase }, { on := 2, ground := Ground.phase }, { on := 3, ground := Ground.phase }, { on := 4, ground := Ground.phase }, { on := 5, ground := Ground.phase }, { on := 6, ground := Ground.phase }, { on := 7, ground := Ground.phase }, { on := 8, ground := Ground.textOnly Departure.lateStores }, { on := 9, ground := Ground.phase }], guard := none }) rfl (fun K hK => ?_) AllReadyH.nil
      obtain ⟨z0, z1, z2, z3, zf, zl⟩ := Cel.cells CA3
      go_simp
      clear z0 z1 z2 z3 zf zl
      have K4 := Kq.put K3 hsA hxA hlA ((ex ⟨p, t, u, a⟩ nw z).p) ((ex ⟨p, t, u, a⟩ nw z).t) ((ex ⟨p, t, u, a⟩ nw z).u) ((ex ⟨p, t, u, a⟩ nw z).a)
      have CA4 := Cel.put CA3 ((ex ⟨p, t, u, a⟩ nw z).p) ((ex ⟨p, t, u, a⟩ nw z).t) ((ex ⟨p, t, u, a⟩ nw z).u) ((ex ⟨p, t, u, a⟩ nw z).a)
      refine hK.out _ _ K4 (fun hH4 => ?_)
      clear hK K
      unfold putN at K4 CA4
      generalize (((w3.setCell ⟨A, 0, none⟩ (.int .i64 ((ex ⟨p, t, u, a⟩ nw z).p))).setCell ⟨A, 1, none⟩ (.int .i64 ((ex ⟨p, t, u, a⟩ nw z).t))).setCell ⟨A, 2, none⟩ (.int .i64 ((ex ⟨p, t, u, a⟩ nw z).u))).setCell ⟨A, 3, none⟩ (.int .i64 ((ex ⟨p, t, u, a⟩ nw z).a)) = w4 at *
      refine wpAnyH_take (i := 11) (oi := { dst := some 8, op := Op.assign (Operand.tmp 29), type := 4, pos := "law.go:79", after := #[{ on := 8, ground := Ground.data }, { on := 10, ground := Ground.chain }, { on := 0, ground := Ground.phase }, { on := 1, ground := Ground.phase }, { on := 2, ground := Ground.phase }, { on := 3, ground := Ground.phase }, { on := 4, ground := Ground.phase }, { on := 5, ground := Ground.phase }, { on := 6, ground := Ground.phase }, { on := 7, ground := Ground.phase }, { on := 8, ground := Ground.phase }, { on := 9, ground := Ground.phase }, { on := 10, ground := Ground.phase }], guard := none }) (v := .bool (exB ⟨p, t, u, a⟩ nw)) rfl (by kernel_rfl) (by kernel_rfl) (by kernel_rfl) (fun _ _ _ h => h) (Or.inl ⟨by rfl, by (intro w hSw; clear hSw; go_simp)⟩) hH4 ?_
      simp only [Act.put, List.setIfInBounds_toArray, List.set_cons_zero, List.set_cons_succ]
      refine wpAnyH_done (by kernel_rfl) ?_ _
      refine NoPanic.normal ?_
      exact HQ.out _ _ K4 CA4 hlA
    · go_simp
      have K5 := Kq.al K1 (.cells #[.int .i64 0, .int .i64 0, .int .i64 0, .int .i64 0] 28)
      have hsA := Nat.ne_of_gt (Cel.lt K1.s)
      have hxA := Nat.ne_of_gt (Cex.lt K1.x)
      have hlA := K1.b.size
      have CA5 := Cel.new w1 0 0 0 0 28
      refine hK.out _ _ K5 (fun hH5 => ?_)
      clear hK K
      generalize w1.alloc (.cells #[.int .i64 0, .int .i64 0, .int .i64 0, .int .i64 0] 28) = w5 at *
      generalize w1.heap.size = A at *
      refine wpAnyH_ready (rs := [5]) (by kernel_rfl) (by simp) ?_
      refine AllReadyH.cons (o := { dst := some 27, op := Op.call { callee := Callee.value (Operand.func 23), args := #[Operand.tmp 23, Operand.tmp 24, Operand.tmp 26], argTypes := #[28, 2, 3] }, type := 50, pos := "law.go:79", after := #[{ on := 1, ground := Ground.data }, { on := 2, ground := Ground.data }, { on := 4, ground := Ground.data }, { on := 1, ground := Ground.chain }], guard := none }) rfl (fun K hK => ?_) AllReadyH.nil
      go_simp
      refine (expire p t u a nw z _).mono ?_
      rintro e w6 ⟨rfl, b6⟩
      have K6 := Kq.call K5 b6
      have CA6 := Cel.call CA5 b6
      clear b6
      go_wp2_with fail
      refine hK.out _ _ K6 (fun hH6 => ?_)
      clear hK K
      refine wpAnyH_take (i := 6) (oi := { dst := some 21, op := Op.move (Operand.tmp 27), type := 50, pos := "law.go:79", after := #[{ on := 5, ground := Ground.data }], guard := none }) (v := .tuple #[.agg #[.int .i64 (ex ⟨p, t, u, a⟩ nw z).p, .int .i64 (ex ⟨p, t, u, a⟩ nw z).t, .int .i64 (ex ⟨p, t, u, a⟩ nw z).u, .int .i64 (ex ⟨p, t, u, a⟩ nw z).a], .bool (exB ⟨p, t, u, a⟩ nw)]) rfl (by kernel_rfl) (by kernel_rfl) (by kernel_rfl) (fun _ _ _ h => h) (Or.inl ⟨by rfl, by (intro w hSw; clear hSw; go_simp)⟩) hH6 ?_
      simp only [Act.put, List.setIfInBounds_toArray, List.set_cons_zero, List.set_cons_succ]
      refine wpAnyH_take (i := 7) (oi := { dst := some 28, op := Op.extract (Operand.tmp 21) 0, type := 28, pos := "law.go:79", after := #[{ on := 6, ground := Ground.data }], guard := none }) (v := .agg #[.int .i64 (ex ⟨p, t, u, a⟩ nw z).p, .int .i64 (ex ⟨p, t, u, a⟩ nw z).t, .int .i64 (ex ⟨p, t, u, a⟩ nw z).u, .int .i64 (ex ⟨p, t, u, a⟩ nw z).a]) rfl (by kernel_rfl) (by kernel_rfl) (by kernel_rfl) (fun _ _ _ h => h) (Or.inl ⟨by rfl, by (intro w hSw; clear hSw; go_simp)⟩) hH6 ?_
      simp only [Act.put, List.setIfInBounds_toArray, List.set_cons_zero, List.set_cons_succ]
      refine wpAnyH_take (i := 8) (oi := { dst := some 29, op := Op.extract (Operand.tmp 21) 1, type := 4, pos := "law.go:79", after := #[{ on := 6, ground := Ground.data }, { on := 10, ground := Ground.gcOnly Departure.lateStores }], guard := none }) (v := .bool (exB ⟨p, t, u, a⟩ nw)) rfl (by kernel_rfl) (by kernel_rfl) (by kernel_rfl) (fun _ _ _ h => h) (Or.inl ⟨by rfl, by (intro w hSw; clear hSw; go_simp)⟩) hH6 ?_
      simp only [Act.put, List.setIfInBounds_toArray, List.set_cons_zero, List.set_cons_succ]
      refine wpAnyH_ready (rs := [10]) (by kernel_rfl) (by simp) ?_
      refine AllReadyH.cons (o := { dst := none, op := Op.store 28 (Operand.tmp 7) (Operand.tmp 28), type := 0, pos := "law.go:79", after := #[{ on := 9, ground := Ground.data }, { on := 7, ground := Ground.data }, { on := 5, ground := Ground.chain }, { on := 0, ground := Ground.phase }, { on := 1, ground := Ground.phase }, { on := 2, ground := Ground.phase }, { on := 3, ground := Ground.phase }, { on := 4, ground := Ground.phase }, { on := 5, ground := Ground.phase }, { on := 6, ground := Ground.phase }, { on := 7, ground := Ground.phase }, { on := 8, ground := Ground.textOnly Departure.lateStores }, { on := 9, ground := Ground.phase }], guard := none }) rfl (fun K hK => ?_) AllReadyH.nil
      obtain ⟨z0, z1, z2, z3, zf, zl⟩ := Cel.cells CA6
      go_simp
      clear z0 z1 z2 z3 zf zl
      have K7 := Kq.put K6 hsA hxA hlA ((ex ⟨p, t, u, a⟩ nw z).p) ((ex ⟨p, t, u, a⟩ nw z).t) ((ex ⟨p, t, u, a⟩ nw z).u) ((ex ⟨p, t, u, a⟩ nw z).a)
      have CA7 := Cel.put CA6 ((ex ⟨p, t, u, a⟩ nw z).p) ((ex ⟨p, t, u, a⟩ nw z).t) ((ex ⟨p, t, u, a⟩ nw z).u) ((ex ⟨p, t, u, a⟩ nw z).a)
      refine hK.out _ _ K7 (fun hH7 => ?_)
      clear hK K
      unfold putN at K7 CA7
      generalize (((w6.setCell ⟨A, 0, none⟩ (.int .i64 ((ex ⟨p, t, u, a⟩ nw z).p))).setCell ⟨A, 1, none⟩ (.int .i64 ((ex ⟨p, t, u, a⟩ nw z).t))).setCell ⟨A, 2, none⟩ (.int .i64 ((ex ⟨p, t, u, a⟩ nw z).u))).setCell ⟨A, 3, none⟩ (.int .i64 ((ex ⟨p, t, u, a⟩ nw z).a)) = w7 at *
      refine wpAnyH_take (i := 11) (oi := { dst := some 8, op := Op.assign (Operand.tmp 29), type := 4, pos := "law.go:79", after := #[{ on := 8, ground := Ground.data }, { on := 10, ground := Ground.chain }, { on := 0, ground := Ground.phase }, { on := 1, ground := Ground.phase }, { on := 2, ground := Ground.phase }, { on := 3, ground := Ground.phase }, { on := 4, ground := Ground.phase }, { on := 5, ground := Ground.phase }, { on := 6, ground := Ground.phase }, { on := 7, ground := Ground.phase }, { on := 8, ground := Ground.phase }, { on := 9, ground := Ground.phase }, { on := 10, ground := Ground.phase }], guard := none }) (v := .bool (exB ⟨p, t, u, a⟩ nw)) rfl (by kernel_rfl) (by kernel_rfl) (by kernel_rfl) (fun _ _ _ h => h) (Or.inl ⟨by rfl, by (intro w hSw; clear hSw; go_simp)⟩) hH7 ?_
      simp only [Act.put, List.setIfInBounds_toArray, List.set_cons_zero, List.set_cons_succ]
      refine wpAnyH_done (by kernel_rfl) ?_ _
      refine NoPanic.normal ?_
      exact HQ.out _ _ K7 CA7 hlA
  · go_simp
    have K8 := Kq.al Kd (.cells #[.int .i64 0, .int .i64 0, .int .i64 0, .int .i64 0] 28)
    have hsA := Nat.ne_of_gt (Cel.lt Kd.s)
    have hxA := Nat.ne_of_gt (Cex.lt Kd.x)
    have hlA := Kd.b.size
    have CA8 := Cel.new wd 0 0 0 0 28
    refine hK.out _ _ K8 (fun hH8 => ?_)
    clear hK K
    generalize wd.alloc (.cells #[.int .i64 0, .int .i64 0, .int .i64 0, .int .i64 0] 28) = w8 at *
    generalize wd.heap.size = A at *
    refine wpAnyH_ready (rs := [1]) (by kernel_rfl) (by simp) ?_
    refine AllReadyH.cons (o := { dst := some 23, op := Op.call { callee := Callee.value (Operand.func 8), args := #[Operand.tmp 22], argTypes := #[23] }, type := 28, pos := "law.go:79", after := #[{ on := 0, ground := Ground.data }], guard := none }) rfl (fun K hK => ?_) AllReadyH.nil
    go_simp
    refine (made p t u a _).mono ?_
    rintro e w9 ⟨rfl, b9⟩
    have K9 := Kq.call K8 b9
    have CA9 := Cel.call CA8 b9
    clear b9
    go_wp2_with fail
    refine hK.out _ _ K9 (fun hH9 => ?_)
    clear hK K
    refine wpAnyH_ready (rs := [5]) (by kernel_rfl) (by simp) ?_
    refine AllReadyH.cons (o := { dst := some 27, op := Op.call { callee := Callee.value (Operand.func 23), args := #[Operand.tmp 23, Operand.tmp 24, Operand.tmp 26], argTypes := #[28, 2, 3] }, type := 50, pos := "law.go:79", after := #[{ on := 1, ground := Ground.data }, { on := 2, ground := Ground.data }, { on := 4, ground := Ground.data }, { on := 1, ground := Ground.chain }], guard := none }) rfl (fun K hK => ?_) AllReadyH.nil
    go_simp
    refine (expire p t u a nw z _).mono ?_
    rintro e w10 ⟨rfl, b10⟩
    have K10 := Kq.call K9 b10
    have CA10 := Cel.call CA9 b10
    clear b10
    go_wp2_with fail
    refine hK.out _ _ K10 (fun hH10 => ?_)
    clear hK K
    refine wpAnyH_take (i := 6) (oi := { dst := some 21, op := Op.move (Operand.tmp 27), type := 50, pos := "law.go:79", after := #[{ on := 5, ground := Ground.data }], guard := none }) (v := .tuple #[.agg #[.int .i64 (ex ⟨p, t, u, a⟩ nw z).p, .int .i64 (ex ⟨p, t, u, a⟩ nw z).t, .int .i64 (ex ⟨p, t, u, a⟩ nw z).u, .int .i64 (ex ⟨p, t, u, a⟩ nw z).a], .bool (exB ⟨p, t, u, a⟩ nw)]) rfl (by kernel_rfl) (by kernel_rfl) (by kernel_rfl) (fun _ _ _ h => h) (Or.inl ⟨by rfl, by (intro w hSw; clear hSw; go_simp)⟩) hH10 ?_
    simp only [Act.put, List.setIfInBounds_toArray, List.set_cons_zero, List.set_cons_succ]
    refine wpAnyH_take (i := 7) (oi := { dst := some 28, op := Op.extract (Operand.tmp 21) 0, type := 28, pos := "law.go:79", after := #[{ on := 6, ground := Ground.data }], guard := none }) (v := .agg #[.int .i64 (ex ⟨p, t, u, a⟩ nw z).p, .int .i64 (ex ⟨p, t, u, a⟩ nw z).t, .int .i64 (ex ⟨p, t, u, a⟩ nw z).u, .int .i64 (ex ⟨p, t, u, a⟩ nw z).a]) rfl (by kernel_rfl) (by kernel_rfl) (by kernel_rfl) (fun _ _ _ h => h) (Or.inl ⟨by rfl, by (intro w hSw; clear hSw; go_simp)⟩) hH10 ?_
    simp only [Act.put, List.setIfInBounds_toArray, List.set_cons_zero, List.set_cons_succ]
    refine wpAnyH_take (i := 8) (oi := { dst := some 29, op := Op.extract (Operand.tmp 21) 1, type := 4, pos := "law.go:79", after := #[{ on := 6, ground := Ground.data }, { on := 10, ground := Ground.gcOnly Departure.lateStores }], guard := none }) (v := .bool (exB ⟨p, t, u, a⟩ nw)) rfl (by kernel_rfl) (by kernel_rfl) (by kernel_rfl) (fun _ _ _ h => h) (Or.inl ⟨by rfl, by (intro w hSw; clear hSw; go_simp)⟩) hH10 ?_
    simp only [Act.put, List.setIfInBounds_toArray, List.set_cons_zero, List.set_cons_succ]
    refine wpAnyH_ready (rs := [10]) (by kernel_rfl) (by simp) ?_
    refine AllReadyH.cons (o := { dst := none, op := Op.store 28 (Operand.tmp 7) (Operand.tmp 28), type := 0, pos := "law.go:79", after := #[{ on := 9, ground := Ground.data }, { on := 7, ground := Ground.data }, { on := 5, ground := Ground.chain }, { on := 0, ground := Ground.phase }, { on := 1, ground := Ground.phase }, { on := 2, ground := Ground.phase }, { on := 3, ground := Ground.phase }, { on := 4, ground := Ground.phase }, { on := 5, ground := Ground.phase }, { on := 6, ground := Ground.phase }, { on := 7, ground := Ground.phase }, { on := 8, ground := Ground.textOnly Departure.lateStores }, { on := 9, ground := Ground.phase }], guard := none }) rfl (fun K hK => ?_) AllReadyH.nil
    obtain ⟨z0, z1, z2, z3, zf, zl⟩ := Cel.cells CA10
    go_simp
    clear z0 z1 z2 z3 zf zl
    have K11 := Kq.put K10 hsA hxA hlA ((ex ⟨p, t, u, a⟩ nw z).p) ((ex ⟨p, t, u, a⟩ nw z).t) ((ex ⟨p, t, u, a⟩ nw z).u) ((ex ⟨p, t, u, a⟩ nw z).a)
    have CA11 := Cel.put CA10 ((ex ⟨p, t, u, a⟩ nw z).p) ((ex ⟨p, t, u, a⟩ nw z).t) ((ex ⟨p, t, u, a⟩ nw z).u) ((ex ⟨p, t, u, a⟩ nw z).a)
    refine hK.out _ _ K11 (fun hH11 => ?_)
    clear hK K
    unfold putN at K11 CA11
    generalize (((w10.setCell ⟨A, 0, none⟩ (.int .i64 ((ex ⟨p, t, u, a⟩ nw z).p))).setCell ⟨A, 1, none⟩ (.int .i64 ((ex ⟨p, t, u, a⟩ nw z).t))).setCell ⟨A, 2, none⟩ (.int .i64 ((ex ⟨p, t, u, a⟩ nw z).u))).setCell ⟨A, 3, none⟩ (.int .i64 ((ex ⟨p, t, u, a⟩ nw z).a)) = w11 at *
    refine wpAnyH_take (i := 11) (oi := { dst := some 8, op := Op.assign (Operand.tmp 29), type := 4, pos := "law.go:79", after := #[{ on := 8, ground := Ground.data }, { on := 10, ground := Ground.chain }, { on := 0, ground := Ground.phase }, { on := 1, ground := Ground.phase }, { on := 2, ground := Ground.phase }, { on := 3, ground := Ground.phase }, { on := 4, ground := Ground.phase }, { on := 5, ground := Ground.phase }, { on := 6, ground := Ground.phase }, { on := 7, ground := Ground.phase }, { on := 8, ground := Ground.phase }, { on := 9, ground := Ground.phase }, { on := 10, ground := Ground.phase }], guard := none }) (v := .bool (exB ⟨p, t, u, a⟩ nw)) rfl (by kernel_rfl) (by kernel_rfl) (by kernel_rfl) (fun _ _ _ h => h) (Or.inl ⟨by rfl, by (intro w hSw; clear hSw; go_simp)⟩) hH11 ?_
    simp only [Act.put, List.setIfInBounds_toArray, List.set_cons_zero, List.set_cons_succ]
    refine wpAnyH_done (by kernel_rfl) ?_ _
    refine NoPanic.normal ?_
    exact HQ.out _ _ K11 CA11 hlA

end Go.Proofs.Ytjpglfnmapncmaa.Wnd
