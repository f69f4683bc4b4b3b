/-
  The region of TopStreams' closure open that appends what was under way to a list: its order is drawn; what it leaves, over any frame. Conditions: the list is a row of the law's own.
-/
import Derived.Test.YtaojoecmbgmhoaaTpB
import Derived.Deep.AppendLies
import Derived.BigRegion
namespace Go.Proofs.Ytaojoecmbgmhoaa.Wtp
open Go.ChangeShapes Go.WideShapes Go.ChangeAt Go.RowKit Go.Proofs.Ytaojoecmbgmhoaa.M Go.Proofs.Ytaojoecmbgmhoaa.Wd Go.Proofs.Ytaojoecmbgmhoaa.Wst

set_option linter.unusedSimpArgs false in
set_option maxRecDepth 100000 in
set_option maxHeartbeats 4000000 in
theorem r11 {P k na ca B : Nat} {pa : Option Addr} {mk : ByteArray} {xs : List Value} {a0 a1 a4 a5 a7 a8 a9 a10 a11 a12 a13 a14 a15 a16 a17 a18 a19 a20 a21 a22 a23 a24 a25 a26 a27 a28 a29 a30 a31 a32 a33 a34 a35 a36 a37 a38 a39 a40 a41 a42 a43 a44 a45 a46 a47 a48 a49 a50 a51 a52 a53 a54 a55 a56 a57 a58 a59 a60 a61 a62 a63 a64 a65 a66 a67 a68 a69 a70 a71 a72 a73 a74 a75 a76 a77 a78 a79 a80 a81 a82 a83 a84 a85 a86 a87 a88 a89 a90 a91 a92 a93 a94 a95 a96 a97 a98 a99 a100 a101 : Value} {w0 : World} {Q : Exit → Act → World → Prop} (hk : k < 2) (hna : na ≤ 1650) (hT : w0.cell? ⟨P + 2, k, none⟩ = some (.slice pa na ca)) (hM : w0.cell? ⟨P + 3, k, none⟩ = some (.string mk)) (hTl : P + 2 < w0.heap.size) (_ : P + 3 < w0.heap.size)
    (HB0 : B ≤ w0.heap.size) (OWN0 : w0.ownsRow B 9 1 (.slice pa na ca) na xs)
    (HQ0 : ∀ g cap w3, w3.ownsRow B 9 1 (.slice (some ⟨g, 0, none⟩) (na + 1) cap) (na + 1) (xs ++ [.string mk]) → (w0.drew.alloc (.cells #[.string mk] 9)).grownBy w3 (Value.slice pa na ca).ownBlock → ((Value.slice pa na ca).ownBlock = some g ∨ g = w0.heap.size + 1) → (w3.cell? ⟨P + 2, k, none⟩ = some (.slice pa na ca) ∧ w3.frozen? ⟨P + 2, k, none⟩ = false) ∧ Q .normal { tmps := #[a0, a1, .pointer (some ⟨P + 3, 0, none⟩), .pointer (some ⟨P + 2, 0, none⟩), a4, a5, .int .i64 (k : Int), a7, a8, a9, a10, a11, a12, a13, a14, a15, a16, a17, a18, a19, a20, a21, a22, a23, a24, a25, a26, a27, a28, a29, a30, a31, a32, a33, a34, a35, a36, a37, a38, a39, a40, a41, a42, a43, a44, a45, a46, a47, a48, a49, a50, a51, a52, a53, a54, a55, a56, a57, a58, a59, a60, .int .i64 (k : Int), .int .i64 (k : Int), .pointer (some ⟨P + 2, k, none⟩), .slice pa na ca, .int .i64 (k : Int), .pointer (some ⟨P + 3, k, none⟩), .string mk, .slice (some ⟨w0.heap.size, 0, none⟩) 1 1, .slice (some ⟨g, 0, none⟩) (na + 1) cap, .pointer (some ⟨P + 2, k, none⟩), a71, a72, a73, a74, a75, a76, a77, a78, a79, a80, a81, a82, a83, a84, a85, a86, a87, a88, a89, a90, a91, a92, a93, a94, a95, a96, a97, a98, a99, a100, a101], defers := [] } (w3.setCell ⟨P + 2, k, none⟩ (.slice (some ⟨g, 0, none⟩) (na + 1) cap))) :
    Code.wp Try.prog (Code.region 11 #[{ dst := some 61, op := Op.move (Operand.tmp 6), type := 3, pos := "top08.go:63", after := #[], guard := none }, { dst := some 62, op := Op.move (Operand.tmp 6), type := 3, pos := "top08.go:63", after := #[], guard := none }, { dst := some 63, op := Op.indexAddr 30 (Operand.tmp 3) (Operand.tmp 62), type := 0, pos := "top08.go:63", after := #[{ on := 1, ground := Ground.data }], guard := none }, { dst := some 64, op := Op.load 29 (Operand.tmp 63), type := 29, pos := "top08.go:63", after := #[{ on := 2, ground := Ground.data }], guard := none }, { dst := some 65, op := Op.move (Operand.tmp 6), type := 3, pos := "top08.go:63", after := #[], guard := none }, { dst := some 66, op := Op.indexAddr 31 (Operand.tmp 2) (Operand.tmp 65), type := 0, pos := "top08.go:63", after := #[{ on := 4, ground := Ground.data }], guard := none }, { dst := some 67, op := Op.load 9 (Operand.tmp 66), type := 9, pos := "top08.go:63", after := #[{ on := 5, ground := Ground.data }], guard := none }, { dst := some 68, op := Op.buildSlice 29 1 #[(0, Operand.tmp 67)], type := 29, pos := "top08.go:63", after := #[{ on := 6, ground := Ground.data }], guard := none }, { dst := some 69, op := Op.call { callee := Callee.builtin Builtin.append, args := #[Operand.tmp 64, Operand.tmp 68], argTypes := #[29, 29] }, type := 29, pos := "top08.go:63", after := #[{ on := 3, ground := Ground.data }, { on := 7, ground := Ground.data }], guard := none }, { dst := some 70, op := Op.indexAddr 30 (Operand.tmp 3) (Operand.tmp 61), type := 0, pos := "top08.go:63", after := #[{ on := 0, ground := Ground.data }, { on := 0, ground := Ground.phase }, { on := 1, ground := Ground.phase }, { on := 2, ground := Ground.phase }, { on := 3, ground := Ground.phase }, { on := 4, ground := Ground.phase }, { on := 5, ground := Ground.phase }, { on := 6, ground := Ground.phase }, { on := 7, ground := Ground.phase }, { on := 8, ground := Ground.phase }], guard := none }, { dst := none, op := Op.store 29 (Operand.tmp 70) (Operand.tmp 69), type := 0, pos := "top08.go:63", after := #[{ on := 9, ground := Ground.data }, { on := 8, ground := Ground.data }, { on := 8, ground := Ground.chain }, { on := 0, ground := Ground.phase }, { on := 1, ground := Ground.phase }, { on := 2, ground := Ground.phase }, { on := 3, ground := Ground.phase }, { on := 4, ground := Ground.phase }, { on := 5, ground := Ground.phase }, { on := 6, ground := Ground.phase }, { on := 7, ground := Ground.phase }, { on := 8, ground := Ground.phase }], guard := none }] true) Q { tmps := #[a0, a1, .pointer (some ⟨P + 3, 0, none⟩), .pointer (some ⟨P + 2, 0, none⟩), a4, a5, .int .i64 (k : Int), a7, a8, a9, a10, a11, a12, a13, a14, a15, a16, a17, a18, a19, a20, a21, a22, a23, a24, a25, a26, a27, a28, a29, a30, a31, a32, a33, a34, a35, a36, a37, a38, a39, a40, a41, a42, a43, a44, a45, a46, a47, a48, a49, a50, a51, a52, a53, a54, a55, a56, a57, a58, a59, a60, a61, a62, a63, a64, a65, a66, a67, a68, a69, a70, a71, a72, a73, a74, a75, a76, a77, a78, a79, a80, a81, a82, a83, a84, a85, a86, a87, a88, a89, a90, a91, a92, a93, a94, a95, a96, a97, a98, a99, a100, a101], defers := [] } w0 := by
  obtain ⟨i0, hi0, hz0, hz1, hz2⟩ := info_parts infoS
  have HQ := hid HQ0
  have hk2 : (k : Int) < 2 := by omega
  have hk3 : ¬ 2 ≤ (k : Int) := by omega
  have OWN := hid (OWN0.drew.alloc (.cells #[.string mk] 9))
  have HB : B ≤ (w0.drew.alloc (.cells #[.string mk] 9)).heap.size := by simp; omega
  have NEW : Hid (∀ j u, ([Value.string mk] : List Value)[j]? = some u → (w0.drew.alloc (.cells #[.string mk] 9)).cell? ((⟨w0.heap.size, 0, none⟩ : Addr).add j) = some u) := World.news_of_block (heap_alloc_last w0.drew _)
  have ONE : Hid (∀ u ∈ [Value.string mk], u.oneCell' = true) := by intro u hu; simp at hu; subst hu; rfl
  clear HQ0 OWN0
  refine wp_region_noPanic ?_
  refine wp_region_any (by kernel_rfl) ?_
  change wpAny _ _ _ _ _ _ _ (World.drew _)
  refine wpAny_take (i := 0) (oi := { dst := some 61, op := Op.move (Operand.tmp 6), type := 3, pos := "top08.go:63", after := #[], guard := none }) (v := .int .i64 (k : Int)) rfl (by kernel_rfl) (by kernel_rfl) (by kernel_rfl) (fun _ _ _ h => h) (Or.inl ⟨by rfl, fun w => by go_simp⟩) ?_
  simp only [Act.put, List.setIfInBounds_toArray, List.set_cons_zero, List.set_cons_succ]
  refine wpAny_take (i := 1) (oi := { dst := some 62, op := Op.move (Operand.tmp 6), type := 3, pos := "top08.go:63", after := #[], guard := none }) (v := .int .i64 (k : Int)) rfl (by kernel_rfl) (by kernel_rfl) (by kernel_rfl) (fun _ _ _ h => h) (Or.inl ⟨by rfl, fun w => by go_simp⟩) ?_
  simp only [Act.put, List.setIfInBounds_toArray, List.set_cons_zero, List.set_cons_succ]
  refine wpAny_take (i := 2) (oi := { dst := some 63, op := Op.indexAddr 30 (Operand.tmp 3) (Operand.tmp 62), type := 0, pos := "top08.go:63", after := #[{ on := 1, ground := Ground.data }], guard := none }) (v := .pointer (some ⟨P + 2, k, none⟩)) rfl (by kernel_rfl) (by kernel_rfl) (by kernel_rfl) (fun _ _ _ h => h) (Or.inl ⟨by rfl, fun w => by go_simp⟩) ?_
  simp only [Act.put, List.setIfInBounds_toArray, List.set_cons_zero, List.set_cons_succ]
  refine wpAny_take (i := 4) (oi := { dst := some 65, op := Op.move (Operand.tmp 6), type := 3, pos := "top08.go:63", after := #[], guard := none }) (v := .int .i64 (k : Int)) rfl (by kernel_rfl) (by kernel_rfl) (by kernel_rfl) (fun _ _ _ h => h) (Or.inl ⟨by rfl, fun w => by go_simp⟩) ?_
  simp only [Act.put, List.setIfInBounds_toArray, List.set_cons_zero, List.set_cons_succ]
  refine wpAny_take (i := 5) (oi := { dst := some 66, op := Op.indexAddr 31 (Operand.tmp 2) (Operand.tmp 65), type := 0, pos := "top08.go:63", after := #[{ on := 4, ground := Ground.data }], guard := none }) (v := .pointer (some ⟨P + 3, k, none⟩)) rfl (by kernel_rfl) (by kernel_rfl) (by kernel_rfl) (fun _ _ _ h => h) (Or.inl ⟨by rfl, fun w => by go_simp⟩) ?_
  simp only [Act.put, List.setIfInBounds_toArray, List.set_cons_zero, List.set_cons_succ]
  refine wpAny_ready (rs := [3, 6]) (by kernel_rfl) (by simp) ?_
  refine AllReady.cons rfl (fun K hK => ?_) (AllReady.cons rfl (fun K hK => ?_) AllReady.nil)
  · go_simp
    refine hK _ _ ?_
    clear hK K
    refine wpAny_ready (rs := [6]) (by kernel_rfl) (by simp) ?_
    refine AllReady.cons rfl (fun K hK => ?_) AllReady.nil
    go_simp
    refine hK _ _ ?_
    clear hK K
    refine wpAny_ready (rs := [7]) (by kernel_rfl) (by simp) ?_
    refine AllReady.cons rfl (fun K hK => ?_) AllReady.nil
    go_simp
    refine hK _ _ ?_
    clear hK K
    refine wpAny_ready (rs := [8]) (by kernel_rfl) (by simp) ?_
    refine AllReady.cons rfl (fun K hK => ?_) AllReady.nil
    refine step_append_lies _ rfl (.tmp 64) (.tmp 68) 29 rfl B 9 i0 (.string ⟨#[]⟩) 1 16 Try.underlying29 hi0 hz0 hz1 hz2 rfl (by decide) _ _ _ rfl OWN.out ⟨w0.heap.size, 0, none⟩ 1 1 [.string mk] rfl rfl NEW.out ONE.out (by decide) (by unfold maxLen; omega) (by omega) HB (w0.heap.size + 1) (by simp) ?_
    intro g cap w3 own3 gr3 hg3 _
    obtain ⟨⟨f1, f2⟩, f3⟩ := HQ.out g cap w3 own3 gr3 hg3
    have F3 := hid f3
    clear f3 own3 gr3 hg3
    refine hK _ _ ?_
    clear hK K
    simp only [Act.put, List.setIfInBounds_toArray, List.set_cons_zero, List.set_cons_succ]
    refine wpAny_take (i := 9) (oi := { dst := some 70, op := Op.indexAddr 30 (Operand.tmp 3) (Operand.tmp 61), type := 0, pos := "top08.go:63", after := #[{ on := 0, ground := Ground.data }, { on := 0, ground := Ground.phase }, { on := 1, ground := Ground.phase }, { on := 2, ground := Ground.phase }, { on := 3, ground := Ground.phase }, { on := 4, ground := Ground.phase }, { on := 5, ground := Ground.phase }, { on := 6, ground := Ground.phase }, { on := 7, ground := Ground.phase }, { on := 8, ground := Ground.phase }], guard := none }) (v := .pointer (some ⟨P + 2, k, none⟩)) rfl (by kernel_rfl) (by kernel_rfl) (by kernel_rfl) (fun _ _ _ h => h) (Or.inl ⟨by rfl, fun w => by go_simp⟩) ?_
    simp only [Act.put, List.setIfInBounds_toArray, List.set_cons_zero, List.set_cons_succ]
    refine wpAny_ready (rs := [10]) (by kernel_rfl) (by simp) ?_
    refine AllReady.cons rfl (fun K hK => ?_) AllReady.nil
    go_simp
    refine hK _ _ ?_
    clear hK K
    refine wpAny_done (by kernel_rfl) ?_ _
    refine NoPanic.normal ?_
    exact F3.out
  · go_simp
    refine hK _ _ ?_
    clear hK K
    refine wpAny_ready (rs := [3, 7]) (by kernel_rfl) (by simp) ?_
    refine AllReady.cons rfl (fun K hK => ?_) (AllReady.cons rfl (fun K hK => ?_) AllReady.nil)
    · go_simp
      refine hK _ _ ?_
      clear hK K
      refine wpAny_ready (rs := [7]) (by kernel_rfl) (by simp) ?_
      refine AllReady.cons rfl (fun K hK => ?_) AllReady.nil
      go_simp
      refine hK _ _ ?_
      clear hK K
      refine wpAny_ready (rs := [8]) (by kernel_rfl) (by simp) ?_
      refine AllReady.cons rfl (fun K hK => ?_) AllReady.nil
      refine step_append_lies _ rfl (.tmp 64) (.tmp 68) 29 rfl B 9 i0 (.string ⟨#[]⟩) 1 16 Try.underlying29 hi0 hz0 hz1 hz2 rfl (by decide) _ _ _ rfl OWN.out ⟨w0.heap.size, 0, none⟩ 1 1 [.string mk] rfl rfl NEW.out ONE.out (by decide) (by unfold maxLen; omega) (by omega) HB (w0.heap.size + 1) (by simp) ?_
      intro g cap w3 own3 gr3 hg3 _
      obtain ⟨⟨f1, f2⟩, f3⟩ := HQ.out g cap w3 own3 gr3 hg3
      have F3 := hid f3
      clear f3 own3 gr3 hg3
      refine hK _ _ ?_
      clear hK K
      simp only [Act.put, List.setIfInBounds_toArray, List.set_cons_zero, List.set_cons_succ]
      refine wpAny_take (i := 9) (oi := { dst := some 70, op := Op.indexAddr 30 (Operand.tmp 3) (Operand.tmp 61), type := 0, pos := "top08.go:63", after := #[{ on := 0, ground := Ground.data }, { on := 0, ground := Ground.phase }, { on := 1, ground := Ground.phase }, { on := 2, ground := Ground.phase }, { on := 3, ground := Ground.phase }, { on := 4, ground := Ground.phase }, { on := 5, ground := Ground.phase }, { on := 6, ground := Ground.phase }, { on := 7, ground := Ground.phase }, { on := 8, ground := Ground.phase }], guard := none }) (v := .pointer (some ⟨P + 2, k, none⟩)) rfl (by kernel_rfl) (by kernel_rfl) (by kernel_rfl) (fun _ _ _ h => h) (Or.inl ⟨by rfl, fun w => by go_simp⟩) ?_
      simp only [Act.put, List.setIfInBounds_toArray, List.set_cons_zero, List.set_cons_succ]
      refine wpAny_ready (rs := [10]) (by kernel_rfl) (by simp) ?_
      refine AllReady.cons rfl (fun K hK => ?_) AllReady.nil
      go_simp
      refine hK _ _ ?_
      clear hK K
      refine wpAny_done (by kernel_rfl) ?_ _
      refine NoPanic.normal ?_
      exact F3.out
    · go_simp
      refine hK _ _ ?_
      clear hK K
      refine wpAny_ready (rs := [3]) (by kernel_rfl) (by simp) ?_
      refine AllReady.cons rfl (fun K hK => ?_) AllReady.nil
      go_simp
      refine hK _ _ ?_
      clear hK K
      refine wpAny_ready (rs := [8]) (by kernel_rfl) (by simp) ?_
      refine AllReady.cons rfl (fun K hK => ?_) AllReady.nil
      refine step_append_lies _ rfl (.tmp 64) (.tmp 68) 29 rfl B 9 i0 (.string ⟨#[]⟩) 1 16 Try.underlying29 hi0 hz0 hz1 hz2 rfl (by decide) _ _ _ rfl OWN.out ⟨w0.heap.size, 0, none⟩ 1 1 [.string mk] rfl rfl NEW.out ONE.out (by decide) (by unfold maxLen; omega) (by omega) HB (w0.heap.size + 1) (by simp) ?_
      intro g cap w3 own3 gr3 hg3 _
      obtain ⟨⟨f1, f2⟩, f3⟩ := HQ.out g cap w3 own3 gr3 hg3
      have F3 := hid f3
      clear f3 own3 gr3 hg3
      refine hK _ _ ?_
      clear hK K
      simp only [Act.put, List.setIfInBounds_toArray, List.set_cons_zero, List.set_cons_succ]
      refine wpAny_take (i := 9) (oi := { dst := some 70, op := Op.indexAddr 30 (Operand.tmp 3) (Operand.tmp 61), type := 0, pos := "top08.go:63", after := #[{ on := 0, ground := Ground.data }, { on := 0, ground := Ground.phase }, { on := 1, ground := Ground.phase }, { on := 2, ground := Ground.phase }, { on := 3, ground := Ground.phase }, { on := 4, ground := Ground.phase }, { on := 5, ground := Ground.phase }, { on := 6, ground := Ground.phase }, { on := 7, ground := Ground.phase }, { on := 8, ground := Ground.phase }], guard := none }) (v := .pointer (some ⟨P + 2, k, none⟩)) rfl (by kernel_rfl) (by kernel_rfl) (by kernel_rfl) (fun _ _ _ h => h) (Or.inl ⟨by rfl, fun w => by go_simp⟩) ?_
      simp only [Act.put, List.setIfInBounds_toArray, List.set_cons_zero, List.set_cons_succ]
      refine wpAny_ready (rs := [10]) (by kernel_rfl) (by simp) ?_
      refine AllReady.cons rfl (fun K hK => ?_) AllReady.nil
      go_simp
      refine hK _ _ ?_
      clear hK K
      refine wpAny_done (by kernel_rfl) ?_ _
      refine NoPanic.normal ?_
      exact F3.out

end Go.Proofs.Ytaojoecmbgmhoaa.Wtp
