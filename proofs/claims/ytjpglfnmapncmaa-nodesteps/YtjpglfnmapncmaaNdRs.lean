/-
  The drawn regions of the laws NodeSteps, over any frame: whatever order they come in, they leave what the calls return in the variables' blocks. Conditions: the law's arguments lie in their blocks.
-/
import Derived.Test.YtjpglfnmapncmaaNdK
import Derived.Deep.RegionHeld3
namespace Go.Proofs.Ytjpglfnmapncmaa.Wnd
open Go.ChangeShapes Go.WideShapes Go.ChangeAt Go.RowKit Go.Proofs.Ytjpglfnmapncmaa.M Go.Proofs.Ytjpglfnmapncmaa.Wnv

/-- The program's state and the document's, and what a step made of each, in their blocks. -/
structure Kv (W w : World) (A B C D : Nat) (s d : NS) : Prop where
  a : Cel w A s.p s.t s.u s.a
  b : Cel w B s.p s.t s.u s.a
  c : Cel w C d.p d.t d.u d.a
  d : Cel w D d.p d.t d.u d.a
  w : Below W.heap.size W w
theorem Kv.call {W w w' : World} {A B C D : Nat} {s d : NS} (h : Kv W w A B C D s d) (b : Below w.heap.size w w') : Kv W w' A B C D s d := ⟨h.a.call b, h.b.call b, h.c.call b, h.d.call b, h.w.trans (b.mono h.w.size)⟩
theorem Kv.drew {W w : World} {A B C D : Nat} {s d : NS} (h : Kv W w A B C D s d) : Kv W w.drew A B C D s d := ⟨h.a, h.b, h.c, h.d, h.w.drew⟩

set_option linter.unusedSimpArgs false in
set_option maxRecDepth 100000 in
set_option maxHeartbeats 6400000 in
theorem r1S {W0 : World} {SB XB : Nat} {p t u a n l y z : Int} {ok : Bool} {a0 a1 a4 a5 a6 a7 a8 a9 a10 a11 a12 a13 a14 a15 a16 a17 a18 a19 a20 a21 a22 a23 a24 a25 a26 a27 a28 a29 a30 a31 a32 a33 a34 a35 a36 a37 a38 a39 a40 a41 a42 a43 a44 a45 a46 a47 a48 a49 a50 a51 a52 a53 a54 a55 a56 a57 a58 a59 a60 a61 a62 a63 a64 a65 a66 a67 a68 a69 a70 a71 a72 a73 a74 a75 a76 a77 a78 a79 a80 a81 a82 a83 a84 a85 a86 a87 a88 a89 a90 a91 a92 a93 a94 a95 a96 a97 a98 a99 a100 a101 a102 a103 a104 a105 a106 a107 a108 a109 a110 a111 a112 a113 a114 a115 a116 a117 a118 a119 a120 a121 a122 a123 a124 a125 a126 a127 a128 a129 a130 a131 : Value} {w0 : World} {Q : Exit → Act → World → Prop} (K0 : Kq W0 w0 SB XB ⟨p, t, u, a⟩ ⟨n, l, y, z, ok⟩)
    (HQ0 : ∀ (A B : Nat) (wF : World), Kq W0 wF SB XB ⟨p, t, u, a⟩ ⟨n, l, y, z, ok⟩ → Cel wF A p t u a → Cel wF B p t u a → Q .normal { tmps := #[a0, a1, .pointer (some ⟨SB, 0, none⟩), .pointer (some ⟨XB, 0, none⟩), a4, .pointer (some ⟨A, 0, none⟩), .pointer (some ⟨B, 0, none⟩), a7, a8, a9, a10, .agg #[.int .i64 p, .int .i64 t, .int .i64 u, .int .i64 a], .agg #[.int .i64 p, .int .i64 t, .int .i64 u, .int .i64 a], .agg #[.int .i64 p, .int .i64 t, .int .i64 u, .int .i64 a], a14, a15, a16, a17, a18, a19, a20, a21, a22, a23, a24, a25, a26, a27, a28, a29, a30, a31, a32, a33, a34, a35, a36, a37, a38, a39, a40, a41, a42, a43, a44, a45, a46, a47, a48, a49, a50, a51, a52, a53, a54, a55, a56, a57, a58, a59, a60, a61, a62, a63, a64, a65, a66, a67, a68, a69, a70, a71, a72, a73, a74, a75, a76, a77, a78, a79, a80, a81, a82, a83, a84, a85, a86, a87, a88, a89, a90, a91, a92, a93, a94, a95, a96, a97, a98, a99, a100, a101, a102, a103, a104, a105, a106, a107, a108, a109, a110, a111, a112, a113, a114, a115, a116, a117, a118, a119, a120, a121, a122, a123, a124, a125, a126, a127, a128, a129, a130, a131], defers := [] } wF) :
    Code.wp Try.prog (Code.region 1 #[{ dst := some 11, op := Op.load 23 (Operand.tmp 2), type := 23, pos := "law.go:43", after := #[], guard := none }, { dst := some 12, op := Op.call { callee := Callee.value (Operand.func 8), args := #[Operand.tmp 11], argTypes := #[23] }, type := 28, pos := "law.go:43", after := #[{ on := 0, ground := Ground.data }], guard := none }, { dst := some 13, op := Op.load 23 (Operand.tmp 2), type := 23, pos := "law.go:43", after := #[{ on := 5, ground := Ground.gcOnly Departure.lateStores }], guard := none }, { dst := some 5, op := Op.alloc 28, type := 0, pos := "law.go:43", after := #[], guard := none }, { dst := some 6, op := Op.alloc 30, type := 0, pos := "law.go:43", after := #[], guard := none }, { dst := none, op := Op.store 28 (Operand.tmp 5) (Operand.tmp 12), type := 0, pos := "law.go:43", after := #[{ on := 3, ground := Ground.data }, { on := 1, ground := Ground.data }, { on := 1, ground := Ground.chain }, { on := 0, ground := Ground.phase }, { on := 1, ground := Ground.phase }, { on := 2, ground := Ground.textOnly Departure.lateStores }, { on := 3, ground := Ground.phase }, { on := 4, ground := Ground.phase }], guard := none }, { dst := none, op := Op.store 30 (Operand.tmp 6) (Operand.tmp 13), type := 0, pos := "law.go:43", after := #[{ on := 4, ground := Ground.data }, { on := 2, ground := Ground.data }, { on := 5, ground := Ground.chain }, { on := 0, ground := Ground.phase }, { on := 1, ground := Ground.phase }, { on := 2, ground := Ground.phase }, { on := 3, ground := Ground.phase }, { on := 4, ground := Ground.phase }, { on := 5, ground := Ground.phase }], guard := none }] true) Q { tmps := #[a0, a1, .pointer (some ⟨SB, 0, none⟩), .pointer (some ⟨XB, 0, none⟩), a4, a5, a6, a7, a8, a9, a10, a11, a12, a13, a14, a15, a16, a17, a18, a19, a20, a21, a22, a23, a24, a25, a26, a27, a28, a29, a30, a31, a32, a33, a34, a35, a36, a37, a38, a39, a40, a41, a42, a43, a44, a45, a46, a47, a48, a49, a50, a51, a52, a53, a54, a55, a56, a57, a58, a59, a60, a61, a62, a63, a64, a65, a66, a67, a68, a69, a70, a71, a72, a73, a74, a75, a76, a77, a78, a79, a80, a81, a82, a83, a84, a85, a86, a87, a88, a89, a90, a91, a92, a93, a94, a95, a96, a97, a98, a99, a100, a101, a102, a103, a104, a105, a106, a107, a108, a109, a110, a111, a112, a113, a114, a115, a116, a117, a118, a119, a120, a121, a122, a123, a124, a125, a126, a127, a128, a129, a130, a131], defers := [] } w0 := by
  have HQ := hid HQ0
  have Kd := Kq.drew K0
  clear HQ0 K0
  refine wp_region_noPanic ?_
  refine wp_region_held_drew (S := fun W => Kq W0 W SB XB ⟨p, t, u, a⟩ ⟨n, l, y, z, ok⟩) (by kernel_rfl) Kd (fun hH => ?_)
  generalize w0.drew = wd at *
  refine wpAnyH_take (i := 0) (oi := { dst := some 11, op := Op.load 23 (Operand.tmp 2), type := 23, pos := "law.go:43", after := #[], guard := none }) (v := .agg #[.int .i64 p, .int .i64 t, .int .i64 u, .int .i64 a]) rfl (by kernel_rfl) (by kernel_rfl) (by kernel_rfl) (fun _ _ _ h => h) (Or.inl ⟨by rfl, by (intro w hSw; have hK2 : Kq W0 w SB XB ⟨p, t, u, a⟩ ⟨n, l, y, z, ok⟩ := hSw; obtain ⟨s0, s1, s2, s3, sf, sl⟩ := Cel.cells hK2.s; obtain ⟨x0, x1, x2, x3, x4, xl⟩ := Cex.cells hK2.x; clear hK2 sf sl xl; clear hSw; go_simp)⟩) hH ?_
  simp only [Act.put, List.setIfInBounds_toArray, List.set_cons_zero, List.set_cons_succ]
  refine wpAnyH_take (i := 2) (oi := { dst := some 13, op := Op.load 23 (Operand.tmp 2), type := 23, pos := "law.go:43", after := #[{ on := 5, ground := Ground.gcOnly Departure.lateStores }], guard := none }) (v := .agg #[.int .i64 p, .int .i64 t, .int .i64 u, .int .i64 a]) rfl (by kernel_rfl) (by kernel_rfl) (by kernel_rfl) (fun _ _ _ h => h) (Or.inl ⟨by rfl, by (intro w hSw; have hK2 : Kq W0 w SB XB ⟨p, t, u, a⟩ ⟨n, l, y, z, ok⟩ := hSw; obtain ⟨s0, s1, s2, s3, sf, sl⟩ := Cel.cells hK2.s; obtain ⟨x0, x1, x2, x3, x4, xl⟩ := Cex.cells hK2.x; clear hK2 sf sl xl; clear hSw; go_simp)⟩) hH ?_
  simp only [Act.put, List.setIfInBounds_toArray, List.set_cons_zero, List.set_cons_succ]
  refine wpAnyH_ready (rs := [1, 3, 4]) (by kernel_rfl) (by simp) ?_
  refine AllReadyH.cons (o := { dst := some 12, op := Op.call { callee := Callee.value (Operand.func 8), args := #[Operand.tmp 11], argTypes := #[23] }, type := 28, pos := "law.go:43", after := #[{ on := 0, ground := Ground.data }], guard := none }) rfl (fun K hK => ?_) (AllReadyH.cons (o := { dst := some 5, op := Op.alloc 28, type := 0, pos := "law.go:43", after := #[], guard := none }) rfl (fun K hK => ?_) (AllReadyH.cons (o := { dst := some 6, op := Op.alloc 30, type := 0, pos := "law.go:43", after := #[], guard := none }) rfl (fun K hK => ?_) AllReadyH.nil))
  · go_simp
    refine (made p t u a _).mono ?_
    rintro e w1 ⟨rfl, b1⟩
    have K1 := Kq.call Kd b1
    clear b1
    go_wp2_with fail
    refine hK.out _ _ K1 (fun hH1 => ?_)
    clear hK K
    refine wpAnyH_ready (rs := [3, 4]) (by kernel_rfl) (by simp) ?_
    refine AllReadyH.cons (o := { dst := some 5, op := Op.alloc 28, type := 0, pos := "law.go:43", after := #[], guard := none }) rfl (fun K hK => ?_) (AllReadyH.cons (o := { dst := some 6, op := Op.alloc 30, type := 0, pos := "law.go:43", after := #[], guard := none }) rfl (fun K hK => ?_) AllReadyH.nil)
    · go_simp
      have K2 := Kq.al K1 (.cells #[.int .i64 0, .int .i64 0, .int .i64 0, .int .i64 0] 28)
      have hsA := Nat.ne_of_gt (Cel.lt K1.s)
      have hxA := Nat.ne_of_gt (Cex.lt K1.x)
      have hlA := K1.b.size
      have CA2 := Cel.new w1 0 0 0 0 28
      refine hK.out _ _ K2 (fun hH2 => ?_)
      clear hK K
      generalize w1.alloc (.cells #[.int .i64 0, .int .i64 0, .int .i64 0, .int .i64 0] 28) = w2 at *
      generalize w1.heap.size = A at *
      refine wpAnyH_ready (rs := [4]) (by kernel_rfl) (by simp) ?_
      refine AllReadyH.cons (o := { dst := some 6, op := Op.alloc 30, type := 0, pos := "law.go:43", after := #[], guard := none }) rfl (fun K hK => ?_) AllReadyH.nil
      go_simp
      have K3 := Kq.al K2 (.cells #[.int .i64 0, .int .i64 0, .int .i64 0, .int .i64 0] 30)
      have hsB := Nat.ne_of_gt (Cel.lt K2.s)
      have hxB := Nat.ne_of_gt (Cex.lt K2.x)
      have hlB := K2.b.size
      have hdB := Nat.ne_of_gt (Cel.lt CA2)
      have CA3 := Cel.al CA2 (.cells #[.int .i64 0, .int .i64 0, .int .i64 0, .int .i64 0] 30)
      have CB3 := Cel.new w2 0 0 0 0 30
      refine hK.out _ _ K3 (fun hH3 => ?_)
      clear hK K
      generalize w2.alloc (.cells #[.int .i64 0, .int .i64 0, .int .i64 0, .int .i64 0] 30) = w3 at *
      generalize w2.heap.size = B at *
      refine wpAnyH_ready (rs := [5]) (by kernel_rfl) (by simp) ?_
      refine AllReadyH.cons (o := { dst := none, op := Op.store 28 (Operand.tmp 5) (Operand.tmp 12), type := 0, pos := "law.go:43", after := #[{ on := 3, ground := Ground.data }, { on := 1, ground := Ground.data }, { on := 1, ground := Ground.chain }, { on := 0, ground := Ground.phase }, { on := 1, ground := Ground.phase }, { on := 2, ground := Ground.textOnly Departure.lateStores }, { on := 3, ground := Ground.phase }, { on := 4, ground := Ground.phase }], guard := none }) rfl (fun K hK => ?_) AllReadyH.nil
      obtain ⟨z0, z1, z2, z3, zf, zl⟩ := Cel.cells CA3
      go_simp
      clear z0 z1 z2 z3 zf zl
      have K4 := Kq.put K3 hsA hxA hlA (p) (t) (u) (a)
      have CA4 := Cel.put CA3 (p) (t) (u) (a)
      have CB4 := Cel.away CB3 (Ne.symm hdB) (p) (t) (u) (a)
      refine hK.out _ _ K4 (fun hH4 => ?_)
      clear hK K
      unfold putN at K4 CA4 CB4
      generalize (((w3.setCell ⟨A, 0, none⟩ (.int .i64 p)).setCell ⟨A, 1, none⟩ (.int .i64 t)).setCell ⟨A, 2, none⟩ (.int .i64 u)).setCell ⟨A, 3, none⟩ (.int .i64 a) = w4 at *
      refine wpAnyH_ready (rs := [6]) (by kernel_rfl) (by simp) ?_
      refine AllReadyH.cons (o := { dst := none, op := Op.store 30 (Operand.tmp 6) (Operand.tmp 13), type := 0, pos := "law.go:43", after := #[{ on := 4, ground := Ground.data }, { on := 2, ground := Ground.data }, { on := 5, ground := Ground.chain }, { on := 0, ground := Ground.phase }, { on := 1, ground := Ground.phase }, { on := 2, ground := Ground.phase }, { on := 3, ground := Ground.phase }, { on := 4, ground := Ground.phase }, { on := 5, ground := Ground.phase }], guard := none }) rfl (fun K hK => ?_) AllReadyH.nil
      obtain ⟨z0, z1, z2, z3, zf, zl⟩ := Cel.cells CB4
      go_simp
      clear z0 z1 z2 z3 zf zl
      have K5 := Kq.put K4 hsB hxB hlB (p) (t) (u) (a)
      have CB5 := Cel.put CB4 (p) (t) (u) (a)
      have CA5 := Cel.away CA4 hdB (p) (t) (u) (a)
      refine hK.out _ _ K5 (fun hH5 => ?_)
      clear hK K
      unfold putN at K5 CB5 CA5
      generalize (((w4.setCell ⟨B, 0, none⟩ (.int .i64 p)).setCell ⟨B, 1, none⟩ (.int .i64 t)).setCell ⟨B, 2, none⟩ (.int .i64 u)).setCell ⟨B, 3, none⟩ (.int .i64 a) = w5 at *
      refine wpAnyH_done (by kernel_rfl) ?_ _
      refine NoPanic.normal ?_
      exact HQ.out _ _ _ K5 CA5 CB5
    · go_simp
      have K6 := Kq.al K1 (.cells #[.int .i64 0, .int .i64 0, .int .i64 0, .int .i64 0] 30)
      have hsB := Nat.ne_of_gt (Cel.lt K1.s)
      have hxB := Nat.ne_of_gt (Cex.lt K1.x)
      have hlB := K1.b.size
      have CB6 := Cel.new w1 0 0 0 0 30
      refine hK.out _ _ K6 (fun hH6 => ?_)
      clear hK K
      generalize w1.alloc (.cells #[.int .i64 0, .int .i64 0, .int .i64 0, .int .i64 0] 30) = w6 at *
      generalize w1.heap.size = B at *
      refine wpAnyH_ready (rs := [3]) (by kernel_rfl) (by simp) ?_
      refine AllReadyH.cons (o := { dst := some 5, op := Op.alloc 28, type := 0, pos := "law.go:43", after := #[], guard := none }) rfl (fun K hK => ?_) AllReadyH.nil
      go_simp
      have K7 := Kq.al K6 (.cells #[.int .i64 0, .int .i64 0, .int .i64 0, .int .i64 0] 28)
      have hsA := Nat.ne_of_gt (Cel.lt K6.s)
      have hxA := Nat.ne_of_gt (Cex.lt K6.x)
      have hlA := K6.b.size
      have hdA := Nat.ne_of_gt (Cel.lt CB6)
      have CB7 := Cel.al CB6 (.cells #[.int .i64 0, .int .i64 0, .int .i64 0, .int .i64 0] 28)
      have CA7 := Cel.new w6 0 0 0 0 28
      refine hK.out _ _ K7 (fun hH7 => ?_)
      clear hK K
      generalize w6.alloc (.cells #[.int .i64 0, .int .i64 0, .int .i64 0, .int .i64 0] 28) = w7 at *
      generalize w6.heap.size = A at *
      refine wpAnyH_ready (rs := [5]) (by kernel_rfl) (by simp) ?_
      refine AllReadyH.cons (o := { dst := none, op := Op.store 28 (Operand.tmp 5) (Operand.tmp 12), type := 0, pos := "law.go:43", after := #[{ on := 3, ground := Ground.data }, { on := 1, ground := Ground.data }, { on := 1, ground := Ground.chain }, { on := 0, ground := Ground.phase }, { on := 1, ground := Ground.phase }, { on := 2, ground := Ground.textOnly Departure.lateStores }, { on := 3, ground := Ground.phase }, { on := 4, ground := Ground.phase }], guard := none }) rfl (fun K hK => ?_) AllReadyH.nil
      obtain ⟨z0, z1, z2, z3, zf, zl⟩ := Cel.cells CA7
      go_simp
      clear z0 z1 z2 z3 zf zl
      have K8 := Kq.put K7 hsA hxA hlA (p) (t) (u) (a)
      have CA8 := Cel.put CA7 (p) (t) (u) (a)
      have CB8 := Cel.away CB7 hdA (p) (t) (u) (a)
      refine hK.out _ _ K8 (fun hH8 => ?_)
      clear hK K
      unfold putN at K8 CA8 CB8
      generalize (((w7.setCell ⟨A, 0, none⟩ (.int .i64 p)).setCell ⟨A, 1, none⟩ (.int .i64 t)).setCell ⟨A, 2, none⟩ (.int .i64 u)).setCell ⟨A, 3, none⟩ (.int .i64 a) = w8 at *
      refine wpAnyH_ready (rs := [6]) (by kernel_rfl) (by simp) ?_
      refine AllReadyH.cons (o := { dst := none, op := Op.store 30 (Operand.tmp 6) (Operand.tmp 13), type := 0, pos := "law.go:43", after := #[{ on := 4, ground := Ground.data }, { on := 2, ground := Ground.data }, { on := 5, ground := Ground.chain }, { on := 0, ground := Ground.phase }, { on := 1, ground := Ground.phase }, { on := 2, ground := Ground.phase }, { on := 3, ground := Ground.phase }, { on := 4, ground := Ground.phase }, { on := 5, ground := Ground.phase }], guard := none }) rfl (fun K hK => ?_) AllReadyH.nil
      obtain ⟨z0, z1, z2, z3, zf, zl⟩ := Cel.cells CB8
      go_simp
      clear z0 z1 z2 z3 zf zl
      have K9 := Kq.put K8 hsB hxB hlB (p) (t) (u) (a)
      have CB9 := Cel.put CB8 (p) (t) (u) (a)
      have CA9 := Cel.away CA8 (Ne.symm hdA) (p) (t) (u) (a)
      refine hK.out _ _ K9 (fun hH9 => ?_)
      clear hK K
      unfold putN at K9 CB9 CA9
      generalize (((w8.setCell ⟨B, 0, none⟩ (.int .i64 p)).setCell ⟨B, 1, none⟩ (.int .i64 t)).setCell ⟨B, 2, none⟩ (.int .i64 u)).setCell ⟨B, 3, none⟩ (.int .i64 a) = w9 at *
      refine wpAnyH_done (by kernel_rfl) ?_ _
      refine NoPanic.normal ?_
      exact HQ.out _ _ _ K9 CA9 CB9
  · go_simp
    have K10 := Kq.al Kd (.cells #[.int .i64 0, .int .i64 0, .int .i64 0, .int .i64 0] 28)
    have hsA := Nat.ne_of_gt (Cel.lt Kd.s)
    have hxA := Nat.ne_of_gt (Cex.lt Kd.x)
    have hlA := Kd.b.size
    have CA10 := Cel.new wd 0 0 0 0 28
    refine hK.out _ _ K10 (fun hH10 => ?_)
    clear hK K
    generalize wd.alloc (.cells #[.int .i64 0, .int .i64 0, .int .i64 0, .int .i64 0] 28) = w10 at *
    generalize wd.heap.size = A at *
    refine wpAnyH_ready (rs := [1, 4]) (by kernel_rfl) (by simp) ?_
    refine AllReadyH.cons (o := { dst := some 12, op := Op.call { callee := Callee.value (Operand.func 8), args := #[Operand.tmp 11], argTypes := #[23] }, type := 28, pos := "law.go:43", after := #[{ on := 0, ground := Ground.data }], guard := none }) rfl (fun K hK => ?_) (AllReadyH.cons (o := { dst := some 6, op := Op.alloc 30, type := 0, pos := "law.go:43", after := #[], guard := none }) rfl (fun K hK => ?_) AllReadyH.nil)
    · go_simp
      refine (made p t u a _).mono ?_
      rintro e w11 ⟨rfl, b11⟩
      have K11 := Kq.call K10 b11
      have CA11 := Cel.call CA10 b11
      clear b11
      go_wp2_with fail
      refine hK.out _ _ K11 (fun hH11 => ?_)
      clear hK K
      refine wpAnyH_ready (rs := [4]) (by kernel_rfl) (by simp) ?_
      refine AllReadyH.cons (o := { dst := some 6, op := Op.alloc 30, type := 0, pos := "law.go:43", after := #[], guard := none }) rfl (fun K hK => ?_) AllReadyH.nil
      go_simp
      have K12 := Kq.al K11 (.cells #[.int .i64 0, .int .i64 0, .int .i64 0, .int .i64 0] 30)
      have hsB := Nat.ne_of_gt (Cel.lt K11.s)
      have hxB := Nat.ne_of_gt (Cex.lt K11.x)
      have hlB := K11.b.size
      have hdB := Nat.ne_of_gt (Cel.lt CA11)
      have CA12 := Cel.al CA11 (.cells #[.int .i64 0, .int .i64 0, .int .i64 0, .int .i64 0] 30)
      have CB12 := Cel.new w11 0 0 0 0 30
      refine hK.out _ _ K12 (fun hH12 => ?_)
      clear hK K
      generalize w11.alloc (.cells #[.int .i64 0, .int .i64 0, .int .i64 0, .int .i64 0] 30) = w12 at *
      generalize w11.heap.size = B at *
      refine wpAnyH_ready (rs := [5]) (by kernel_rfl) (by simp) ?_
      refine AllReadyH.cons (o := { dst := none, op := Op.store 28 (Operand.tmp 5) (Operand.tmp 12), type := 0, pos := "law.go:43", after := #[{ on := 3, ground := Ground.data }, { on := 1, ground := Ground.data }, { on := 1, ground := Ground.chain }, { on := 0, ground := Ground.phase }, { on := 1, ground := Ground.phase }, { on := 2, ground := Ground.textOnly Departure.lateStores }, { on := 3, ground := Ground.phase }, { on := 4, ground := Ground.phase }], guard := none }) rfl (fun K hK => ?_) AllReadyH.nil
      obtain ⟨z0, z1, z2, z3, zf, zl⟩ := Cel.cells CA12
      go_simp
      clear z0 z1 z2 z3 zf zl
      have K13 := Kq.put K12 hsA hxA hlA (p) (t) (u) (a)
      have CA13 := Cel.put CA12 (p) (t) (u) (a)
      have CB13 := Cel.away CB12 (Ne.symm hdB) (p) (t) (u) (a)
      refine hK.out _ _ K13 (fun hH13 => ?_)
      clear hK K
      unfold putN at K13 CA13 CB13
      generalize (((w12.setCell ⟨A, 0, none⟩ (.int .i64 p)).setCell ⟨A, 1, none⟩ (.int .i64 t)).setCell ⟨A, 2, none⟩ (.int .i64 u)).setCell ⟨A, 3, none⟩ (.int .i64 a) = w13 at *
      refine wpAnyH_ready (rs := [6]) (by kernel_rfl) (by simp) ?_
      refine AllReadyH.cons (o := { dst := none, op := Op.store 30 (Operand.tmp 6) (Operand.tmp 13), type := 0, pos := "law.go:43", after := #[{ on := 4, ground := Ground.data }, { on := 2, ground := Ground.data }, { on := 5, ground := Ground.chain }, { on := 0, ground := Ground.phase }, { on := 1, ground := Ground.phase }, { on := 2, ground := Ground.phase }, { on := 3, ground := Ground.phase }, { on := 4, ground := Ground.phase }, { on := 5, ground := Ground.phase }], guard := none }) rfl (fun K hK => ?_) AllReadyH.nil
      obtain ⟨z0, z1, z2, z3, zf, zl⟩ := Cel.cells CB13
      go_simp
      clear z0 z1 z2 z3 zf zl
      have K14 := Kq.put K13 hsB hxB hlB (p) (t) (u) (a)
      have CB14 := Cel.put CB13 (p) (t) (u) (a)
      have CA14 := Cel.away CA13 hdB (p) (t) (u) (a)
      refine hK.out _ _ K14 (fun hH14 => ?_)
      clear hK K
      unfold putN at K14 CB14 CA14
      generalize (((w13.setCell ⟨B, 0, none⟩ (.int .i64 p)).setCell ⟨B, 1, none⟩ (.int .i64 t)).setCell ⟨B, 2, none⟩ (.int .i64 u)).setCell ⟨B, 3, none⟩ (.int .i64 a) = w14 at *
      refine wpAnyH_done (by kernel_rfl) ?_ _
      refine NoPanic.normal ?_
      exact HQ.out _ _ _ K14 CA14 CB14
    · go_simp
      have K15 := Kq.al K10 (.cells #[.int .i64 0, .int .i64 0, .int .i64 0, .int .i64 0] 30)
      have hsB := Nat.ne_of_gt (Cel.lt K10.s)
      have hxB := Nat.ne_of_gt (Cex.lt K10.x)
      have hlB := K10.b.size
      have hdB := Nat.ne_of_gt (Cel.lt CA10)
      have CA15 := Cel.al CA10 (.cells #[.int .i64 0, .int .i64 0, .int .i64 0, .int .i64 0] 30)
      have CB15 := Cel.new w10 0 0 0 0 30
      refine hK.out _ _ K15 (fun hH15 => ?_)
      clear hK K
      generalize w10.alloc (.cells #[.int .i64 0, .int .i64 0, .int .i64 0, .int .i64 0] 30) = w15 at *
      generalize w10.heap.size = B at *
      refine wpAnyH_ready (rs := [1]) (by kernel_rfl) (by simp) ?_
      refine AllReadyH.cons (o := { dst := some 12, op := Op.call { callee := Callee.value (Operand.func 8), args := #[Operand.tmp 11], argTypes := #[23] }, type := 28, pos := "law.go:43", after := #[{ on := 0, ground := Ground.data }], guard := none }) rfl (fun K hK => ?_) AllReadyH.nil
      go_simp
      refine (made p t u a _).mono ?_
      rintro e w16 ⟨rfl, b16⟩
      have K16 := Kq.call K15 b16
      have CA16 := Cel.call CA15 b16
      have CB16 := Cel.call CB15 b16
      clear b16
      go_wp2_with fail
      refine hK.out _ _ K16 (fun hH16 => ?_)
      clear hK K
      refine wpAnyH_ready (rs := [5]) (by kernel_rfl) (by simp) ?_
      refine AllReadyH.cons (o := { dst := none, op := Op.store 28 (Operand.tmp 5) (Operand.tmp 12), type := 0, pos := "law.go:43", after := #[{ on := 3, ground := Ground.data }, { on := 1, ground := Ground.data }, { on := 1, ground := Ground.chain }, { on := 0, ground := Ground.phase }, { on := 1, ground := Ground.phase }, { on := 2, ground := Ground.textOnly Departure.lateStores }, { on := 3, ground := Ground.phase }, { on := 4, ground := Ground.phase }], guard := none }) rfl (fun K hK => ?_) AllReadyH.nil
      obtain ⟨z0, z1, z2, z3, zf, zl⟩ := Cel.cells CA16
      go_simp
      clear z0 z1 z2 z3 zf zl
      have K17 := Kq.put K16 hsA hxA hlA (p) (t) (u) (a)
      have CA17 := Cel.put CA16 (p) (t) (u) (a)
      have CB17 := Cel.away CB16 (Ne.symm hdB) (p) (t) (u) (a)
      refine hK.out _ _ K17 (fun hH17 => ?_)
      clear hK K
      unfold putN at K17 CA17 CB17
      generalize (((w16.setCell ⟨A, 0, none⟩ (.int .i64 p)).setCell ⟨A, 1, none⟩ (.int .i64 t)).setCell ⟨A, 2, none⟩ (.int .i64 u)).setCell ⟨A, 3, none⟩ (.int .i64 a) = w17 at *
      refine wpAnyH_ready (rs := [6]) (by kernel_rfl) (by simp) ?_
      refine AllReadyH.cons (o := { dst := none, op := Op.store 30 (Operand.tmp 6) (Operand.tmp 13), type := 0, pos := "law.go:43", after := #[{ on := 4, ground := Ground.data }, { on := 2, ground := Ground.data }, { on := 5, ground := Ground.chain }, { on := 0, ground := Ground.phase }, { on := 1, ground := Ground.phase }, { on := 2, ground := Ground.phase }, { on := 3, ground := Ground.phase }, { on := 4, ground := Ground.phase }, { on := 5, ground := Ground.phase }], guard := none }) rfl (fun K hK => ?_) AllReadyH.nil
      obtain ⟨z0, z1, z2, z3, zf, zl⟩ := Cel.cells CB17
      go_simp
      clear z0 z1 z2 z3 zf zl
      have K18 := Kq.put K17 hsB hxB hlB (p) (t) (u) (a)
      have CB18 := Cel.put CB17 (p) (t) (u) (a)
      have CA18 := Cel.away CA17 hdB (p) (t) (u) (a)
      refine hK.out _ _ K18 (fun hH18 => ?_)
      clear hK K
      unfold putN at K18 CB18 CA18
      generalize (((w17.setCell ⟨B, 0, none⟩ (.int .i64 p)).setCell ⟨B, 1, none⟩ (.int .i64 t)).setCell ⟨B, 2, none⟩ (.int .i64 u)).setCell ⟨B, 3, none⟩ (.int .i64 a) = w18 at *
      refine wpAnyH_done (by kernel_rfl) ?_ _
      refine NoPanic.normal ?_
      exact HQ.out _ _ _ K18 CA18 CB18
  · go_simp
    have K19 := Kq.al Kd (.cells #[.int .i64 0, .int .i64 0, .int .i64 0, .int .i64 0] 30)
    have hsB := Nat.ne_of_gt (Cel.lt Kd.s)
    have hxB := Nat.ne_of_gt (Cex.lt Kd.x)
    have hlB := Kd.b.size
    have CB19 := Cel.new wd 0 0 0 0 30
    refine hK.out _ _ K19 (fun hH19 => ?_)
    clear hK K
    generalize wd.alloc (.cells #[.int .i64 0, .int .i64 0, .int .i64 0, .int .i64 0] 30) = w19 at *
    generalize wd.heap.size = B at *
    refine wpAnyH_ready (rs := [1, 3]) (by kernel_rfl) (by simp) ?_
    refine AllReadyH.cons (o := { dst := some 12, op := Op.call { callee := Callee.value (Operand.func 8), args := #[Operand.tmp 11], argTypes := #[23] }, type := 28, pos := "law.go:43", after := #[{ on := 0, ground := Ground.data }], guard := none }) rfl (fun K hK => ?_) (AllReadyH.cons (o := { dst := some 5, op := Op.alloc 28, type := 0, pos := "law.go:43", after := #[], guard := none }) rfl (fun K hK => ?_) AllReadyH.nil)
    · go_simp
      refine (made p t u a _).mono ?_
      rintro e w20 ⟨rfl, b20⟩
      have K20 := Kq.call K19 b20
      have CB20 := Cel.call CB19 b20
      clear b20
      go_wp2_with fail
      refine hK.out _ _ K20 (fun hH20 => ?_)
      clear hK K
      refine wpAnyH_ready (rs := [3]) (by kernel_rfl) (by simp) ?_
      refine AllReadyH.cons (o := { dst := some 5, op := Op.alloc 28, type := 0, pos := "law.go:43", after := #[], guard := none }) rfl (fun K hK => ?_) AllReadyH.nil
      go_simp
      have K21 := Kq.al K20 (.cells #[.int .i64 0, .int .i64 0, .int .i64 0, .int .i64 0] 28)
      have hsA := Nat.ne_of_gt (Cel.lt K20.s)
      have hxA := Nat.ne_of_gt (Cex.lt K20.x)
      have hlA := K20.b.size
      have hdA := Nat.ne_of_gt (Cel.lt CB20)
      have CB21 := Cel.al CB20 (.cells #[.int .i64 0, .int .i64 0, .int .i64 0, .int .i64 0] 28)
      have CA21 := Cel.new w20 0 0 0 0 28
      refine hK.out _ _ K21 (fun hH21 => ?_)
      clear hK K
      generalize w20.alloc (.cells #[.int .i64 0, .int .i64 0, .int .i64 0, .int .i64 0] 28) = w21 at *
      generalize w20.heap.size = A at *
      refine wpAnyH_ready (rs := [5]) (by kernel_rfl) (by simp) ?_
      refine AllReadyH.cons (o := { dst := none, op := Op.store 28 (Operand.tmp 5) (Operand.tmp 12), type := 0, pos := "law.go:43", after := #[{ on := 3, ground := Ground.data }, { on := 1, ground := Ground.data }, { on := 1, ground := Ground.chain }, { on := 0, ground := Ground.phase }, { on := 1, ground := Ground.phase }, { on := 2, ground := Ground.textOnly Departure.lateStores }, { on := 3, ground := Ground.phase }, { on := 4, ground := Ground.phase }], guard := none }) rfl (fun K hK => ?_) AllReadyH.nil
      obtain ⟨z0, z1, z2, z3, zf, zl⟩ := Cel.cells CA21
      go_simp
      clear z0 z1 z2 z3 zf zl
      have K22 := Kq.put K21 hsA hxA hlA (p) (t) (u) (a)
      have CA22 := Cel.put CA21 (p) (t) (u) (a)
      have CB22 := Cel.away CB21 hdA (p) (t) (u) (a)
      refine hK.out _ _ K22 (fun hH22 => ?_)
      clear hK K
      unfold putN at K22 CA22 CB22
      generalize (((w21.setCell ⟨A, 0, none⟩ (.int .i64 p)).setCell ⟨A, 1, none⟩ (.int .i64 t)).setCell ⟨A, 2, none⟩ (.int .i64 u)).setCell ⟨A, 3, none⟩ (.int .i64 a) = w22 at *
      refine wpAnyH_ready (rs := [6]) (by kernel_rfl) (by simp) ?_
      refine AllReadyH.cons (o := { dst := none, op := Op.store 30 (Operand.tmp 6) (Operand.tmp 13), type := 0, pos := "law.go:43", after := #[{ on := 4, ground := Ground.data }, { on := 2, ground := Ground.data }, { on := 5, ground := Ground.chain }, { on := 0, ground := Ground.phase }, { on := 1, ground := Ground.phase }, { on := 2, ground := Ground.phase }, { on := 3, ground := Ground.phase }, { on := 4, ground := Ground.phase }, { on := 5, ground := Ground.phase }], guard := none }) rfl (fun K hK => ?_) AllReadyH.nil
      obtain ⟨z0, z1, z2, z3, zf, zl⟩ := Cel.cells CB22
      go_simp
      clear z0 z1 z2 z3 zf zl
      have K23 := Kq.put K22 hsB hxB hlB (p) (t) (u) (a)
      have CB23 := Cel.put CB22 (p) (t) (u) (a)
      have CA23 := Cel.away CA22 (Ne.symm hdA) (p) (t) (u) (a)
      refine hK.out _ _ K23 (fun hH23 => ?_)
      clear hK K
      unfold putN at K23 CB23 CA23
      generalize (((w22.setCell ⟨B, 0, none⟩ (.int .i64 p)).setCell ⟨B, 1, none⟩ (.int .i64 t)).setCell ⟨B, 2, none⟩ (.int .i64 u)).setCell ⟨B, 3, none⟩ (.int .i64 a) = w23 at *
      refine wpAnyH_done (by kernel_rfl) ?_ _
      refine NoPanic.normal ?_
      exact HQ.out _ _ _ K23 CA23 CB23
    · go_simp
      have K24 := Kq.al K19 (.cells #[.int .i64 0, .int .i64 0, .int .i64 0, .int .i64 0] 28)
      have hsA := Nat.ne_of_gt (Cel.lt K19.s)
      have hxA := Nat.ne_of_gt (Cex.lt K19.x)
      have hlA := K19.b.size
      have hdA := Nat.ne_of_gt (Cel.lt CB19)
      have CB24 := Cel.al CB19 (.cells #[.int .i64 0, .int .i64 0, .int .i64 0, .int .i64 0] 28)
      have CA24 := Cel.new w19 0 0 0 0 28
      refine hK.out _ _ K24 (fun hH24 => ?_)
      clear hK K
      generalize w19.alloc (.cells #[.int .i64 0, .int .i64 0, .int .i64 0, .int .i64 0] 28) = w24 at *
      generalize w19.heap.size = A at *
      refine wpAnyH_ready (rs := [1]) (by kernel_rfl) (by simp) ?_
      refine AllReadyH.cons (o := { dst := some 12, op := Op.call { callee := Callee.value (Operand.func 8), args := #[Operand.tmp 11], argTypes := #[23] }, type := 28, pos := "law.go:43", after := #[{ on := 0, ground := Ground.data }], guard := none }) rfl (fun K hK => ?_) AllReadyH.nil
      go_simp
      refine (made p t u a _).mono ?_
      rintro e w25 ⟨rfl, b25⟩
      have K25 := Kq.call K24 b25
      have CB25 := Cel.call CB24 b25
      have CA25 := Cel.call CA24 b25
      clear b25
      go_wp2_with fail
      refine hK.out _ _ K25 (fun hH25 => ?_)
      clear hK K
      refine wpAnyH_ready (rs := [5]) (by kernel_rfl) (by simp) ?_
      refine AllReadyH.cons (o := { dst := none, op := Op.store 28 (Operand.tmp 5) (Operand.tmp 12), type := 0, pos := "law.go:43", after := #[{ on := 3, ground := Ground.data }, { on := 1, ground := Ground.data }, { on := 1, ground := Ground.chain }, { on := 0, ground := Ground.phase }, { on := 1, ground := Ground.phase }, { on := 2, ground := Ground.textOnly Departure.lateStores }, { on := 3, ground := Ground.phase }, { on := 4, ground := Ground.phase }], guard := none }) rfl (fun K hK => ?_) AllReadyH.nil
      obtain ⟨z0, z1, z2, z3, zf, zl⟩ := Cel.cells CA25
      go_simp
      clear z0 z1 z2 z3 zf zl
      have K26 := Kq.put K25 hsA hxA hlA (p) (t) (u) (a)
      have CA26 := Cel.put CA25 (p) (t) (u) (a)
      have CB26 := Cel.away CB25 hdA (p) (t) (u) (a)
      refine hK.out _ _ K26 (fun hH26 => ?_)
      clear hK K
      unfold putN at K26 CA26 CB26
      generalize (((w25.setCell ⟨A, 0, none⟩ (.int .i64 p)).setCell ⟨A, 1, none⟩ (.int .i64 t)).setCell ⟨A, 2, none⟩ (.int .i64 u)).setCell ⟨A, 3, none⟩ (.int .i64 a) = w26 at *
      refine wpAnyH_ready (rs := [6]) (by kernel_rfl) (by simp) ?_
      refine AllReadyH.cons (o := { dst := none, op := Op.store 30 (Operand.tmp 6) (Operand.tmp 13), type := 0, pos := "law.go:43", after := #[{ on := 4, ground := Ground.data }, { on := 2, ground := Ground.data }, { on := 5, ground := Ground.chain }, { on := 0, ground := Ground.phase }, { on := 1, ground := Ground.phase }, { on := 2, ground := Ground.phase }, { on := 3, ground := Ground.phase }, { on := 4, ground := Ground.phase }, { on := 5, ground := Ground.phase }], guard := none }) rfl (fun K hK => ?_) AllReadyH.nil
      obtain ⟨z0, z1, z2, z3, zf, zl⟩ := Cel.cells CB26
      go_simp
      clear z0 z1 z2 z3 zf zl
      have K27 := Kq.put K26 hsB hxB hlB (p) (t) (u) (a)
      have CB27 := Cel.put CB26 (p) (t) (u) (a)
      have CA27 := Cel.away CA26 (Ne.symm hdA) (p) (t) (u) (a)
      refine hK.out _ _ K27 (fun hH27 => ?_)
      clear hK K
      unfold putN at K27 CB27 CA27
      generalize (((w26.setCell ⟨B, 0, none⟩ (.int .i64 p)).setCell ⟨B, 1, none⟩ (.int .i64 t)).setCell ⟨B, 2, none⟩ (.int .i64 u)).setCell ⟨B, 3, none⟩ (.int .i64 a) = w27 at *
      refine wpAnyH_done (by kernel_rfl) ?_ _
      refine NoPanic.normal ?_
      exact HQ.out _ _ _ K27 CA27 CB27

set_option linter.unusedSimpArgs false in
set_option maxRecDepth 100000 in
set_option maxHeartbeats 6400000 in
theorem r4S {W0 : World} {A B C D : Nat} {p t u a q r v b E : Int} {a0 a1 a2 a3 a4 a11 a12 a13 a14 a15 a16 a17 a18 a19 a20 a21 a22 a23 a24 a25 a26 a27 a28 a29 a30 a31 a32 a33 a34 a35 a36 a37 a38 a39 a40 a41 a42 a43 a44 a45 a46 a47 a48 a49 a50 a51 a52 a53 a54 a55 a56 a57 a58 a59 a60 a61 a62 a63 a64 a65 a66 a67 a68 a69 a70 a71 a72 a73 a74 a75 a76 a77 a78 a79 a80 a81 a82 a83 a84 a85 a86 a87 a88 a89 a90 a91 a92 a93 a94 a95 a96 a97 a98 a99 a100 a101 a102 a103 a104 a105 a106 a107 a108 a109 a110 a111 a112 a113 a114 a115 a116 a117 a118 a119 a120 a121 a122 a123 a124 a125 a126 a127 a128 a129 a130 a131 : Value} {w0 : World} {Q : Exit → Act → World → Prop} (K0 : Kv W0 w0 A B C D ⟨p, t, u, a⟩ ⟨q, r, v, b⟩)
    (HQ0 : ∀ (wF : World), Below W0.heap.size W0 wF → Q .normal { tmps := #[a0, a1, a2, a3, a4, .pointer (some ⟨A, 0, none⟩), .pointer (some ⟨B, 0, none⟩), .pointer (some ⟨C, 0, none⟩), .int .i64 E, .pointer (some ⟨D, 0, none⟩), .int .i64 E, a11, a12, a13, a14, a15, a16, a17, a18, a19, a20, a21, a22, a23, a24, a25, a26, a27, a28, a29, a30, a31, a32, a33, a34, a35, .bool true, .bool false, .bool false, .agg #[.int .i64 p, .int .i64 t, .int .i64 u, .int .i64 a], .bool (decide (4 ≤ p) && decide (p ≤ 6)), .agg #[.int .i64 p, .int .i64 t, .int .i64 u, .int .i64 a], .bool (decide (4 ≤ p) && decide (p ≤ 6)), .bool false, .bool false, .bool false, .int .i64 E, .int .i64 E, .bool false, .bool false, .bool false, .agg #[.int .i64 q, .int .i64 r, .int .i64 v, .int .i64 b], .agg #[.int .i64 q, .int .i64 r, .int .i64 v, .int .i64 b], .bool true, .bool false, .bool false, a56, a57, a58, a59, a60, a61, a62, a63, a64, a65, a66, a67, a68, a69, a70, a71, a72, a73, a74, a75, a76, a77, a78, a79, a80, a81, a82, a83, a84, a85, a86, a87, a88, a89, a90, a91, a92, a93, a94, a95, a96, a97, a98, a99, a100, a101, a102, a103, a104, a105, a106, a107, a108, a109, a110, a111, a112, a113, a114, a115, a116, a117, a118, a119, a120, a121, a122, a123, a124, a125, a126, a127, a128, a129, a130, a131], defers := [] } wF) :
    Code.wp Try.prog (Code.region 4 #[{ dst := some 36, op := Op.call { callee := Callee.value (Operand.func 11), args := #[], argTypes := #[] }, type := 4, pos := "law.go:46", after := #[], guard := none }, { dst := some 37, op := Op.unOp UnOp.not 4 (Operand.tmp 36), type := 4, pos := "law.go:46", after := #[{ on := 0, ground := Ground.data }], guard := none }, { dst := some 38, op := Op.move (Operand.tmp 37), type := 4, pos := "law.go:46", after := #[{ on := 1, ground := Ground.data }, { on := 0, ground := Ground.chain }], guard := none }, { dst := some 39, op := Op.load 28 (Operand.tmp 5), type := 28, pos := "law.go:46", after := #[{ on := 2, ground := Ground.guard }], guard := some (2, false) }, { dst := some 40, op := Op.call { callee := Callee.value (Operand.func 12), args := #[Operand.tmp 39], argTypes := #[28] }, type := 4, pos := "law.go:46", after := #[{ on := 3, ground := Ground.data }, { on := 2, ground := Ground.chain }, { on := 2, ground := Ground.guard }], guard := some (2, false) }, { dst := some 41, op := Op.load 30 (Operand.tmp 6), type := 30, pos := "law.go:46", after := #[{ on := 2, ground := Ground.guard }], guard := some (2, false) }, { dst := some 42, op := Op.call { callee := Callee.value (Operand.func 13), args := #[Operand.tmp 41], argTypes := #[30] }, type := 4, pos := "law.go:46", after := #[{ on := 5, ground := Ground.data }, { on := 4, ground := Ground.chain }, { on := 2, ground := Ground.guard }], guard := some (2, false) }, { dst := some 43, op := Op.binOp BinOp.neq 4 (Operand.tmp 40) (Operand.tmp 42) 4, type := 4, pos := "law.go:46", after := #[{ on := 4, ground := Ground.data }, { on := 6, ground := Ground.data }, { on := 2, ground := Ground.guard }], guard := some (2, false) }, { dst := some 44, op := Op.pick (Operand.tmp 38) (Operand.const (Value.bool true)) (Operand.tmp 43), type := 4, pos := "law.go:46", after := #[{ on := 2, ground := Ground.data }, { on := 7, ground := Ground.data }], guard := none }, { dst := some 45, op := Op.move (Operand.tmp 44), type := 4, pos := "law.go:46", after := #[{ on := 8, ground := Ground.data }, { on := 6, ground := Ground.chain }], guard := none }, { dst := some 46, op := Op.move (Operand.tmp 8), type := 31, pos := "law.go:46", after := #[{ on := 9, ground := Ground.guard }], guard := some (9, false) }, { dst := some 47, op := Op.move (Operand.tmp 10), type := 3, pos := "law.go:46", after := #[{ on := 9, ground := Ground.guard }], guard := some (9, false) }, { dst := some 48, op := Op.binOp BinOp.neq 3 (Operand.tmp 46) (Operand.tmp 47) 3, type := 4, pos := "law.go:46", after := #[{ on := 10, ground := Ground.data }, { on := 11, ground := Ground.data }, { on := 9, ground := Ground.guard }], guard := some (9, false) }, { dst := some 49, op := Op.pick (Operand.tmp 45) (Operand.const (Value.bool true)) (Operand.tmp 48), type := 4, pos := "law.go:46", after := #[{ on := 9, ground := Ground.data }, { on := 12, ground := Ground.data }], guard := none }, { dst := some 50, op := Op.move (Operand.tmp 49), type := 4, pos := "law.go:46", after := #[{ on := 13, ground := Ground.data }, { on := 9, ground := Ground.chain }], guard := none }, { dst := some 51, op := Op.load 28 (Operand.tmp 7), type := 28, pos := "law.go:46", after := #[{ on := 14, ground := Ground.guard }], guard := some (14, false) }, { dst := some 52, op := Op.load 30 (Operand.tmp 9), type := 30, pos := "law.go:46", after := #[{ on := 14, ground := Ground.guard }], guard := some (14, false) }, { dst := some 53, op := Op.call { callee := Callee.value (Operand.func 14), args := #[Operand.tmp 51, Operand.tmp 52], argTypes := #[28, 30] }, type := 4, pos := "law.go:46", after := #[{ on := 15, ground := Ground.data }, { on := 16, ground := Ground.data }, { on := 14, ground := Ground.chain }, { on := 14, ground := Ground.guard }], guard := some (14, false) }, { dst := some 54, op := Op.unOp UnOp.not 4 (Operand.tmp 53), type := 4, pos := "law.go:46", after := #[{ on := 17, ground := Ground.data }, { on := 14, ground := Ground.guard }], guard := some (14, false) }, { dst := some 55, op := Op.pick (Operand.tmp 50) (Operand.const (Value.bool true)) (Operand.tmp 54), type := 4, pos := "law.go:46", after := #[{ on := 14, ground := Ground.data }, { on := 18, ground := Ground.data }], guard := none }] true) Q { tmps := #[a0, a1, a2, a3, a4, .pointer (some ⟨A, 0, none⟩), .pointer (some ⟨B, 0, none⟩), .pointer (some ⟨C, 0, none⟩), .int .i64 E, .pointer (some ⟨D, 0, none⟩), .int .i64 E, a11, a12, a13, a14, a15, a16, a17, a18, a19, a20, a21, a22, a23, a24, a25, a26, a27, a28, a29, a30, a31, a32, a33, a34, a35, a36, a37, a38, a39, a40, a41, a42, a43, a44, a45, a46, a47, a48, a49, a50, a51, a52, a53, a54, a55, a56, a57, a58, a59, a60, a61, a62, a63, a64, a65, a66, a67, a68, a69, a70, a71, a72, a73, a74, a75, a76, a77, a78, a79, a80, a81, a82, a83, a84, a85, a86, a87, a88, a89, a90, a91, a92, a93, a94, a95, a96, a97, a98, a99, a100, a101, a102, a103, a104, a105, a106, a107, a108, a109, a110, a111, a112, a113, a114, a115, a116, a117, a118, a119, a120, a121, a122, a123, a124, a125, a126, a127, a128, a129, a130, a131], defers := [] } w0 := by
  have HQ := hid HQ0
  have Kd := Kv.drew K0
  clear HQ0 K0
  refine wp_region_noPanic ?_
  refine wp_region_held_drew (S := fun W => Kv W0 W A B C D ⟨p, t, u, a⟩ ⟨q, r, v, b⟩) (by kernel_rfl) Kd (fun hH => ?_)
  generalize w0.drew = wd at *
  refine wpAnyH_ready (rs := [0]) (by kernel_rfl) (by simp) ?_
  refine AllReadyH.cons (o := { dst := some 36, op := Op.call { callee := Callee.value (Operand.func 11), args := #[], argTypes := #[] }, type := 4, pos := "law.go:46", after := #[], guard := none }) rfl (fun K hK => ?_) AllReadyH.nil
  go_simp
  refine (wakes _).mono ?_
  rintro e w1 ⟨rfl, b1⟩
  have K1 := Kv.call Kd b1
  clear b1
  go_wp2_with fail
  refine hK.out _ _ K1 (fun hH1 => ?_)
  clear hK K
  refine wpAnyH_take (i := 1) (oi := { dst := some 37, op := Op.unOp UnOp.not 4 (Operand.tmp 36), type := 4, pos := "law.go:46", after := #[{ on := 0, ground := Ground.data }], guard := none }) (v := .bool false) rfl (by kernel_rfl) (by kernel_rfl) (by kernel_rfl) (fun _ _ _ h => h) (Or.inl ⟨by rfl, by (intro w hSw; clear hSw; go_simp)⟩) hH1 ?_
  simp only [Act.put, List.setIfInBounds_toArray, List.set_cons_zero, List.set_cons_succ]
  refine wpAnyH_take (i := 2) (oi := { dst := some 38, op := Op.move (Operand.tmp 37), type := 4, pos := "law.go:46", after := #[{ on := 1, ground := Ground.data }, { on := 0, ground := Ground.chain }], guard := none }) (v := .bool false) rfl (by kernel_rfl) (by kernel_rfl) (by kernel_rfl) (fun _ _ _ h => h) (Or.inl ⟨by rfl, by (intro w hSw; clear hSw; go_simp)⟩) hH1 ?_
  simp only [Act.put, List.setIfInBounds_toArray, List.set_cons_zero, List.set_cons_succ]
  refine wpAnyH_take (i := 3) (oi := { dst := some 39, op := Op.load 28 (Operand.tmp 5), type := 28, pos := "law.go:46", after := #[{ on := 2, ground := Ground.guard }], guard := some (2, false) }) (v := .agg #[.int .i64 p, .int .i64 t, .int .i64 u, .int .i64 a]) rfl (by kernel_rfl) (by kernel_rfl) (by kernel_rfl) (fun _ _ _ h => h) (Or.inl ⟨by rfl, by (intro w hSw; have hK2 : Kv W0 w A B C D ⟨p, t, u, a⟩ ⟨q, r, v, b⟩ := hSw; obtain ⟨c0, c1, c2, c3, cf, cl⟩ := Cel.cells hK2.c; obtain ⟨d0, d1, d2, d3, df, dl⟩ := Cel.cells hK2.d; obtain ⟨a0_, a1_, a2_, a3_, af, al⟩ := Cel.cells hK2.a; obtain ⟨b0_, b1_, b2_, b3_, bf, bl⟩ := Cel.cells hK2.b; clear hK2 cf cl df dl af al bf bl; clear hSw; go_simp)⟩) hH1 ?_
  simp only [Act.put, List.setIfInBounds_toArray, List.set_cons_zero, List.set_cons_succ]
  refine wpAnyH_take (i := 5) (oi := { dst := some 41, op := Op.load 30 (Operand.tmp 6), type := 30, pos := "law.go:46", after := #[{ on := 2, ground := Ground.guard }], guard := some (2, false) }) (v := .agg #[.int .i64 p, .int .i64 t, .int .i64 u, .int .i64 a]) rfl (by kernel_rfl) (by kernel_rfl) (by kernel_rfl) (fun _ _ _ h => h) (Or.inl ⟨by rfl, by (intro w hSw; have hK2 : Kv W0 w A B C D ⟨p, t, u, a⟩ ⟨q, r, v, b⟩ := hSw; obtain ⟨c0, c1, c2, c3, cf, cl⟩ := Cel.cells hK2.c; obtain ⟨d0, d1, d2, d3, df, dl⟩ := Cel.cells hK2.d; obtain ⟨a0_, a1_, a2_, a3_, af, al⟩ := Cel.cells hK2.a; obtain ⟨b0_, b1_, b2_, b3_, bf, bl⟩ := Cel.cells hK2.b; clear hK2 cf cl df dl af al bf bl; clear hSw; go_simp)⟩) hH1 ?_
  simp only [Act.put, List.setIfInBounds_toArray, List.set_cons_zero, List.set_cons_succ]
  refine wpAnyH_ready (rs := [4]) (by kernel_rfl) (by simp) ?_
  refine AllReadyH.cons (o := { dst := some 40, op := Op.call { callee := Callee.value (Operand.func 12), args := #[Operand.tmp 39], argTypes := #[28] }, type := 4, pos := "law.go:46", after := #[{ on := 3, ground := Ground.data }, { on := 2, ground := Ground.chain }, { on := 2, ground := Ground.guard }], guard := some (2, false) }) rfl (fun K hK => ?_) AllReadyH.nil
  go_simp
  refine (over p t u a _).mono ?_
  rintro e w2 ⟨rfl, b2⟩
  have K2 := Kv.call K1 b2
  clear b2
  go_wp2_with fail
  refine hK.out _ _ K2 (fun hH2 => ?_)
  clear hK K
  refine wpAnyH_ready (rs := [6]) (by kernel_rfl) (by simp) ?_
  refine AllReadyH.cons (o := { dst := some 42, op := Op.call { callee := Callee.value (Operand.func 13), args := #[Operand.tmp 41], argTypes := #[30] }, type := 4, pos := "law.go:46", after := #[{ on := 5, ground := Ground.data }, { on := 4, ground := Ground.chain }, { on := 2, ground := Ground.guard }], guard := some (2, false) }) rfl (fun K hK => ?_) AllReadyH.nil
  go_simp
  refine (overR p t u a _).mono ?_
  rintro e w3 ⟨rfl, b3⟩
  have K3 := Kv.call K2 b3
  clear b3
  go_wp2_with fail
  refine hK.out _ _ K3 (fun hH3 => ?_)
  clear hK K
  refine wpAnyH_take (i := 7) (oi := { dst := some 43, op := Op.binOp BinOp.neq 4 (Operand.tmp 40) (Operand.tmp 42) 4, type := 4, pos := "law.go:46", after := #[{ on := 4, ground := Ground.data }, { on := 6, ground := Ground.data }, { on := 2, ground := Ground.guard }], guard := some (2, false) }) (v := .bool false) rfl (by kernel_rfl) (by kernel_rfl) (by kernel_rfl) (fun _ _ _ h => h) (Or.inl ⟨by rfl, by (intro w hSw; clear hSw; go_simp)⟩) hH3 ?_
  simp only [Act.put, List.setIfInBounds_toArray, List.set_cons_zero, List.set_cons_succ]
  refine wpAnyH_take (i := 8) (oi := { dst := some 44, op := Op.pick (Operand.tmp 38) (Operand.const (Value.bool true)) (Operand.tmp 43), type := 4, pos := "law.go:46", after := #[{ on := 2, ground := Ground.data }, { on := 7, ground := Ground.data }], guard := none }) (v := .bool false) rfl (by kernel_rfl) (by kernel_rfl) (by kernel_rfl) (fun _ _ _ h => h) (Or.inl ⟨by rfl, by (intro w hSw; clear hSw; go_simp)⟩) hH3 ?_
  simp only [Act.put, List.setIfInBounds_toArray, List.set_cons_zero, List.set_cons_succ]
  refine wpAnyH_take (i := 9) (oi := { dst := some 45, op := Op.move (Operand.tmp 44), type := 4, pos := "law.go:46", after := #[{ on := 8, ground := Ground.data }, { on := 6, ground := Ground.chain }], guard := none }) (v := .bool false) rfl (by kernel_rfl) (by kernel_rfl) (by kernel_rfl) (fun _ _ _ h => h) (Or.inl ⟨by rfl, by (intro w hSw; clear hSw; go_simp)⟩) hH3 ?_
  simp only [Act.put, List.setIfInBounds_toArray, List.set_cons_zero, List.set_cons_succ]
  refine wpAnyH_take (i := 10) (oi := { dst := some 46, op := Op.move (Operand.tmp 8), type := 31, pos := "law.go:46", after := #[{ on := 9, ground := Ground.guard }], guard := some (9, false) }) (v := .int .i64 E) rfl (by kernel_rfl) (by kernel_rfl) (by kernel_rfl) (fun _ _ _ h => h) (Or.inl ⟨by rfl, by (intro w hSw; clear hSw; go_simp)⟩) hH3 ?_
  simp only [Act.put, List.setIfInBounds_toArray, List.set_cons_zero, List.set_cons_succ]
  refine wpAnyH_take (i := 11) (oi := { dst := some 47, op := Op.move (Operand.tmp 10), type := 3, pos := "law.go:46", after := #[{ on := 9, ground := Ground.guard }], guard := some (9, false) }) (v := .int .i64 E) rfl (by kernel_rfl) (by kernel_rfl) (by kernel_rfl) (fun _ _ _ h => h) (Or.inl ⟨by rfl, by (intro w hSw; clear hSw; go_simp)⟩) hH3 ?_
  simp only [Act.put, List.setIfInBounds_toArray, List.set_cons_zero, List.set_cons_succ]
  refine wpAnyH_take (i := 12) (oi := { dst := some 48, op := Op.binOp BinOp.neq 3 (Operand.tmp 46) (Operand.tmp 47) 3, type := 4, pos := "law.go:46", after := #[{ on := 10, ground := Ground.data }, { on := 11, ground := Ground.data }, { on := 9, ground := Ground.guard }], guard := some (9, false) }) (v := .bool false) rfl (by kernel_rfl) (by kernel_rfl) (by kernel_rfl) (fun _ _ _ h => h) (Or.inl ⟨by rfl, by (intro w hSw; clear hSw; go_simp)⟩) hH3 ?_
  simp only [Act.put, List.setIfInBounds_toArray, List.set_cons_zero, List.set_cons_succ]
  refine wpAnyH_take (i := 13) (oi := { dst := some 49, op := Op.pick (Operand.tmp 45) (Operand.const (Value.bool true)) (Operand.tmp 48), type := 4, pos := "law.go:46", after := #[{ on := 9, ground := Ground.data }, { on := 12, ground := Ground.data }], guard := none }) (v := .bool false) rfl (by kernel_rfl) (by kernel_rfl) (by kernel_rfl) (fun _ _ _ h => h) (Or.inl ⟨by rfl, by (intro w hSw; clear hSw; go_simp)⟩) hH3 ?_
  simp only [Act.put, List.setIfInBounds_toArray, List.set_cons_zero, List.set_cons_succ]
  refine wpAnyH_take (i := 14) (oi := { dst := some 50, op := Op.move (Operand.tmp 49), type := 4, pos := "law.go:46", after := #[{ on := 13, ground := Ground.data }, { on := 9, ground := Ground.chain }], guard := none }) (v := .bool false) rfl (by kernel_rfl) (by kernel_rfl) (by kernel_rfl) (fun _ _ _ h => h) (Or.inl ⟨by rfl, by (intro w hSw; clear hSw; go_simp)⟩) hH3 ?_
  simp only [Act.put, List.setIfInBounds_toArray, List.set_cons_zero, List.set_cons_succ]
  refine wpAnyH_take (i := 15) (oi := { dst := some 51, op := Op.load 28 (Operand.tmp 7), type := 28, pos := "law.go:46", after := #[{ on := 14, ground := Ground.guard }], guard := some (14, false) }) (v := .agg #[.int .i64 q, .int .i64 r, .int .i64 v, .int .i64 b]) rfl (by kernel_rfl) (by kernel_rfl) (by kernel_rfl) (fun _ _ _ h => h) (Or.inl ⟨by rfl, by (intro w hSw; have hK2 : Kv W0 w A B C D ⟨p, t, u, a⟩ ⟨q, r, v, b⟩ := hSw; obtain ⟨c0, c1, c2, c3, cf, cl⟩ := Cel.cells hK2.c; obtain ⟨d0, d1, d2, d3, df, dl⟩ := Cel.cells hK2.d; obtain ⟨a0_, a1_, a2_, a3_, af, al⟩ := Cel.cells hK2.a; obtain ⟨b0_, b1_, b2_, b3_, bf, bl⟩ := Cel.cells hK2.b; clear hK2 cf cl df dl af al bf bl; clear hSw; go_simp)⟩) hH3 ?_
  simp only [Act.put, List.setIfInBounds_toArray, List.set_cons_zero, List.set_cons_succ]
  refine wpAnyH_take (i := 16) (oi := { dst := some 52, op := Op.load 30 (Operand.tmp 9), type := 30, pos := "law.go:46", after := #[{ on := 14, ground := Ground.guard }], guard := some (14, false) }) (v := .agg #[.int .i64 q, .int .i64 r, .int .i64 v, .int .i64 b]) rfl (by kernel_rfl) (by kernel_rfl) (by kernel_rfl) (fun _ _ _ h => h) (Or.inl ⟨by rfl, by (intro w hSw; have hK2 : Kv W0 w A B C D ⟨p, t, u, a⟩ ⟨q, r, v, b⟩ := hSw; obtain ⟨c0, c1, c2, c3, cf, cl⟩ := Cel.cells hK2.c; obtain ⟨d0, d1, d2, d3, df, dl⟩ := Cel.cells hK2.d; obtain ⟨a0_, a1_, a2_, a3_, af, al⟩ := Cel.cells hK2.a; obtain ⟨b0_, b1_, b2_, b3_, bf, bl⟩ := Cel.cells hK2.b; clear hK2 cf cl df dl af al bf bl; clear hSw; go_simp)⟩) hH3 ?_
  simp only [Act.put, List.setIfInBounds_toArray, List.set_cons_zero, List.set_cons_succ]
  refine wpAnyH_ready (rs := [17]) (by kernel_rfl) (by simp) ?_
  refine AllReadyH.cons (o := { dst := some 53, op := Op.call { callee := Callee.value (Operand.func 14), args := #[Operand.tmp 51, Operand.tmp 52], argTypes := #[28, 30] }, type := 4, pos := "law.go:46", after := #[{ on := 15, ground := Ground.data }, { on := 16, ground := Ground.data }, { on := 14, ground := Ground.chain }, { on := 14, ground := Ground.guard }], guard := some (14, false) }) rfl (fun K hK => ?_) AllReadyH.nil
  go_simp
  refine (is_ q r v b _).mono ?_
  rintro e w4 ⟨rfl, b4⟩
  have K4 := Kv.call K3 b4
  clear b4
  go_wp2_with fail
  refine hK.out _ _ K4 (fun hH4 => ?_)
  clear hK K
  refine wpAnyH_take (i := 18) (oi := { dst := some 54, op := Op.unOp UnOp.not 4 (Operand.tmp 53), type := 4, pos := "law.go:46", after := #[{ on := 17, ground := Ground.data }, { on := 14, ground := Ground.guard }], guard := some (14, false) }) (v := .bool false) rfl (by kernel_rfl) (by kernel_rfl) (by kernel_rfl) (fun _ _ _ h => h) (Or.inl ⟨by rfl, by (intro w hSw; clear hSw; go_simp)⟩) hH4 ?_
  simp only [Act.put, List.setIfInBounds_toArray, List.set_cons_zero, List.set_cons_succ]
  refine wpAnyH_take (i := 19) (oi := { dst := some 55, op := Op.pick (Operand.tmp 50) (Operand.const (Value.bool true)) (Operand.tmp 54), type := 4, pos := "law.go:46", after := #[{ on := 14, ground := Ground.data }, { on := 18, ground := Ground.data }], guard := none }) (v := .bool false) rfl (by kernel_rfl) (by kernel_rfl) (by kernel_rfl) (fun _ _ _ h => h) (Or.inl ⟨by rfl, by (intro w hSw; clear hSw; go_simp)⟩) hH4 ?_
  simp only [Act.put, List.setIfInBounds_toArray, List.set_cons_zero, List.set_cons_succ]
  refine wpAnyH_done (by kernel_rfl) ?_ _
  refine NoPanic.normal ?_
  exact HQ.out _ K4.w

end Go.Proofs.Ytjpglfnmapncmaa.Wnd
