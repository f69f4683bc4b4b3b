/-
  The walks of the document's Bytes and Mint, of token.Key and the document's, and of the law TokenMints: the bytes, the token and the key that 'cB', 'mint' and 'der' say; the law returns true; nothing that was in memory has turned. Conditions: texts that fit a machine, numbers that fit their kinds; for the code the table of the rounds' numbers holds what it was laid with.
-/
import Derived.Test.YtkelipedpjmmaaaGreatDoorRows
import Derived.Test.YtkelipedpjmmaaaGreatDoorQe
import Derived.Test.YtkelipedpjmmaaaGreatDoorMDer
import Derived.Lib.MinMax
namespace Go.Proofs.YtkelipedpjmmaaaGreatDoor.Wtk
open Go.ChangeShapes Go.WideShapes Go.ChangeAt Go.RowKit Go.Proofs.YtkelipedpjmmaaaGreatDoor.M Go.Proofs.YtkelipedpjmmaaaGreatDoor.Wf Go.Proofs.YtkelipedpjmmaaaGreatDoor.Wr Go.Proofs.YtkelipedpjmmaaaGreatDoor.Wh

theorem putRef_claims {a b c d : Int} (ha : I6 a) (hb : I6 b) (hc : I6 c) (hd : I6 d) (W : World) (A : Nat → Prop) (L : Value) (hR : Rd W A L (cF a b c d)) :
    Calls Tryz.prog 30 #[.agg #[.int .i64 2, .int .i64 0, .string ⟨#[]⟩, L]] W fun e w' => e = .returned (.tuple #[.string (cB a b c d), .int .i64 0]) ∧ Below W.heap.size W w' := by
  have h := Wo.putRef 2 0 ⟨#[]⟩ (cF a b c d) L A W (cV_ok ha hb hc hd) hR (Nat.le_trans (cF_wt ha hb hc hd) (by decide))
  obtain ⟨l, hl⟩ := cE a b c d
  have e : cB a b c d = Wu.bytesB (.ok l) := by unfold cB; rw [hl]
  rw [hl] at h
  rw [e]
  exact h

/-- A block stays. -/
theorem stay {w W W' : World} {g : Nat} {o : Obj} (h : W.heap[g]? = some o) (b : Below W.heap.size W W') (_ : w = w) : W'.heap[g]? = some o := (b.block _ (lt_of_heap h)).trans h
theorem stay_alloc {W : World} {g : Nat} {o o2 : Obj} (h : W.heap[g]? = some o) : (W.alloc o2).heap[g]? = some o := (Below.heap_alloc W _ _ (lt_of_heap h)).trans h

set_option maxRecDepth 100000 in
set_option maxHeartbeats 4000000 in
theorem bytesRef (a b c d : Int) (w : World) (ha : I6 a) (hb : I6 b) (hc : I6 c) (hd : I6 d) :
    Calls Tryz.prog 14 #[.agg #[.int .i64 a, .int .i64 b, .int .i64 c, .int .i64 d]] w fun e w' => e = .returned (.string (cB a b c d)) ∧ Below w.heap.size w w' := by
  have CP := hid (fun W L hR => putRef_claims ha hb hc hd W (fun _ => True) L hR)
  generalize hCB : cB a b c d = CB at *
  clear hCB ha hb hc hd
  go_enter Tryz.func14, Tryz.ntmps14
  go_wp2_with fail
  refine (Wm.numRef a _).mono ?_
  rintro e w1 ⟨rfl, b1⟩
  have c1 := hid (((Below.refl w.heap.size w).alloc (Nat.le_refl _) _).trans (b1.mono (by simp)))
  have p1 := hid ((b1.block w.heap.size (by simp)).trans (heap_alloc_new w _))
  obtain ⟨z0, z1, z2, z3⟩ := four_c p1.out
  have zl := lt_of_heap p1.out
  clear b1
  go_wp2_with fail
  refine (Wm.numRef b _).mono ?_
  rintro e w2 ⟨rfl, b2⟩
  clear z0 z1 z2 z3 zl
  have s1 := b2.size
  simp at s1
  have c2 := hid ((c1.out.alloc c1.out.size _).trans (b2.mono (by simp; exact Nat.le_succ_of_le c1.out.size)))
  have p2 := hid ((b2.block _ (lt_of_heap (stay_alloc p1.out))).trans (stay_alloc p1.out))
  have q2 := hid ((b2.block w1.heap.size (by simp)).trans (heap_alloc_new w1 _))
  obtain ⟨z0, z1, z2, z3⟩ := four_c p2.out
  have zl := lt_of_heap p2.out
  clear b2 c1 p1
  go_wp2_with fail
  refine (Wm.numRef c _).mono ?_
  rintro e w3 ⟨rfl, b3⟩
  clear z0 z1 z2 z3 zl
  have s2 := b3.size
  simp at s2
  have c3 := hid ((c2.out.alloc c2.out.size _).trans (b3.mono (by simp; exact Nat.le_succ_of_le c2.out.size)))
  have p3 := hid ((b3.block _ (lt_of_heap (stay_alloc p2.out))).trans (stay_alloc p2.out))
  have q3 := hid ((b3.block _ (lt_of_heap (stay_alloc q2.out))).trans (stay_alloc q2.out))
  have r3 := hid ((b3.block w2.heap.size (by simp)).trans (heap_alloc_new w2 _))
  obtain ⟨z0, z1, z2, z3⟩ := four_c p3.out
  have zl := lt_of_heap p3.out
  clear b3 c2 p2 q2
  go_wp2_with fail
  refine (Wm.numRef d _).mono ?_
  rintro e w4 ⟨rfl, b4⟩
  clear z0 z1 z2 z3 zl
  have s3 := b4.size
  simp at s3
  have c4 := hid (((c3.out.alloc c3.out.size _).trans (b4.mono (by simp; exact Nat.le_succ_of_le c3.out.size))))
  have q4 := hid (fun o => stay_alloc (o2 := o) ((b4.block _ (lt_of_heap (stay_alloc q3.out))).trans (stay_alloc q3.out)))
  have r4 := hid (fun o => stay_alloc (o2 := o) ((b4.block _ (lt_of_heap (stay_alloc r3.out))).trans (stay_alloc r3.out)))
  have t4 := hid (fun o => stay_alloc (o2 := o) ((b4.block w3.heap.size (by simp)).trans (heap_alloc_new w3 _)))
  have u4 := hid (heap_alloc_new w4 (.cells #[.int .i64 0, .int .i64 d, .string ⟨#[]⟩, .slice none 0 0] 57))
  obtain ⟨f0, f1, f2, f3⟩ := four_c (q4.out (.cells #[.int .i64 0, .int .i64 d, .string ⟨#[]⟩, .slice none 0 0] 57))
  obtain ⟨g0, g1, g2, g3⟩ := four_c (r4.out (.cells #[.int .i64 0, .int .i64 d, .string ⟨#[]⟩, .slice none 0 0] 57))
  obtain ⟨h0, h1, h2, h3⟩ := four_c (t4.out (.cells #[.int .i64 0, .int .i64 d, .string ⟨#[]⟩, .slice none 0 0] 57))
  obtain ⟨i0, i1, i2, i3⟩ := four_c u4.out
  have c5 := hid (c4.out.alloc c4.out.size (.cells #[.int .i64 0, .int .i64 d, .string ⟨#[]⟩, .slice none 0 0] 57))
  clear q4 r4 t4 u4 b4 c3 c4 q3 r3 p3
  go_wp2_with fail
  have RV : Hid (Rd ((w4.alloc (.cells #[.int .i64 0, .int .i64 d, .string ⟨#[]⟩, .slice none 0 0] 57)).alloc (.cells #[.int .i64 0, .int .i64 a, .string ⟨#[]⟩, .slice none 0 0, .int .i64 0, .int .i64 b, .string ⟨#[]⟩, .slice none 0 0, .int .i64 0, .int .i64 c, .string ⟨#[]⟩, .slice none 0 0, .int .i64 0, .int .i64 d, .string ⟨#[]⟩, .slice none 0 0] 57)) (fun _ => True) (.slice (some ⟨w4.heap.size + 1, 0, none⟩) 4 4) (cF a b c d)) :=
    rd_row (A := fun _ => True) (f := cF a b c d) (heap_alloc2_new w4 _ _) trivial (fun _ h => h) ⟨_, _, rfl, ⟨_, _, rfl, ⟨_, _, rfl, ⟨_, _, rfl, rfl, rd_nil _ _⟩, rd_nil _ _⟩, rd_nil _ _⟩, rd_nil _ _⟩ (Nat.le_refl _) (by decide)
  refine (CP.out _ _ RV.out).mono ?_
  rintro e w5 ⟨rfl, b5⟩
  have c6 := hid ((c5.out.alloc c5.out.size _).trans (b5.mono (by simp; exact Nat.le_trans c5.out.size (by simp))))
  clear RV b5 c5 f0 f1 f2 f3 g0 g1 g2 g3 h0 h1 h2 h3 i0 i1 i2 i3 CP
  go_wp2
  go_ret
  exact ⟨rfl, c6.out⟩

set_option maxRecDepth 100000 in
theorem mintRef (K : ByteArray) (a b c d : Int) (w : World) (hK : K.size ≤ 140737488351232) (ha : I6 a) (hb : I6 b) (hc : I6 c) (hd : I6 d) :
    Calls Tryz.prog 6 #[.string K, .agg #[.int .i64 a, .int .i64 b, .int .i64 c, .int .i64 d]] w fun e w' => e = .returned (.string (mint K a b c d)) ∧ Below w.heap.size w w' := by
  have hz := cB_size ha hb hc hd
  have hts := tag_size K (cB a b c d)
  have CB := hid (fun W => bytesRef a b c d W ha hb hc hd)
  have CT := hid (fun W => Wl.tagRef K (cB a b c d) W (by omega) (by omega))
  have HM : Hid (mint K a b c d = cB a b c d ++ tag K (cB a b c d)) := rfl
  rw [HM.out]
  generalize tag K (cB a b c d) = TG at *
  generalize cB a b c d = B at *
  clear HM
  go_enter Tryz.func6, Tryz.ntmps6
  go_wp2_with fail
  refine (CB.out _).mono ?_
  rintro e w1 ⟨rfl, b1⟩
  go_wp2_with fail
  refine (CT.out _).mono ?_
  rintro e w2 ⟨rfl, b2⟩
  have c1 : Below w.heap.size w w1 := ((Below.refl w.heap.size w).alloc (Nat.le_refl _) _).trans (b1.mono (by simp))
  go_wp2
  go_ret
  exact ⟨rfl, c1.trans (b2.mono c1.size)⟩

set_option maxRecDepth 100000 in
theorem key (K : ByteArray) (n : Int) (w : World) (hK : K.size ≤ 140737488351232) (hn : I6 n) (hT : Tab w) :
    Calls Tryz.prog 7 #[.string K, .int .i64 n] w fun e w' => e = .returned (.string (der K ⟨#[116, 101, 110, 97, 110, 116]⟩ n)) ∧ Below w.heap.size w w' := by
  have C := hid (fun W h => Wm.derive K ⟨#[116, 101, 110, 97, 110, 116]⟩ n W (by omega) (by decide) hn.1 hn.2 h)
  generalize der K ⟨#[116, 101, 110, 97, 110, 116]⟩ n = R at *
  have HT := hid hT
  clear hT
  go_enter Tryz.func7, Tryz.ntmps7
  go_wp2_with fail
  refine (C.out _ HT.out).mono ?_
  rintro e w1 ⟨rfl, b1⟩
  go_wp2
  go_ret
  exact ⟨rfl, b1⟩
set_option maxRecDepth 100000 in
theorem keyRef (K : ByteArray) (n : Int) (w : World) (hK : K.size ≤ 140737488351232) (hn : I6 n) :
    Calls Tryz.prog 8 #[.string K, .int .i64 n] w fun e w' => e = .returned (.string (der K ⟨#[116, 101, 110, 97, 110, 116]⟩ n)) ∧ Below w.heap.size w w' := by
  have C := hid (fun W => Wm.deriveRef K ⟨#[116, 101, 110, 97, 110, 116]⟩ n W (by omega) (by decide) hn.1 hn.2)
  generalize der K ⟨#[116, 101, 110, 97, 110, 116]⟩ n = R at *
  go_enter Tryz.func8, Tryz.ntmps8
  go_wp2_with fail
  refine (C.out _).mono ?_
  rintro e w1 ⟨rfl, b1⟩
  go_wp2
  go_ret
  exact ⟨rfl, b1⟩

/-- The claims' own cell, and what was there. -/
def Ml (w : World) (a b c d : Int) (W : World) : Prop := W.heap[w.heap.size]? = some (.cells #[.int .i64 a, .int .i64 b, .int .i64 c, .int .i64 d] 23 (0, 0)) ∧ Below w.heap.size w W
theorem Ml.below {w W W' : World} {a b c d : Int} (h : Ml w a b c d W) (k : Below W.heap.size W W') : Ml w a b c d W' := ⟨(k.block _ (lt_of_heap h.1)).trans h.1, h.2.trans (k.mono h.2.size)⟩
theorem ml_start (w : World) (a b c d : Int) : Ml w a b c d (w.alloc (.cells #[.int .i64 a, .int .i64 b, .int .i64 c, .int .i64 d] 23)) := ⟨heap_alloc_new w _, (Below.refl w.heap.size w).alloc (Nat.le_refl _) _⟩
theorem least500 (l : Nat) : ∃ n : Nat, min (l : Int) 500 = (n : Int) ∧ n ≤ 500 ∧ n ≤ l := ⟨min l 500, by omega, by omega, by omega⟩
set_option maxRecDepth 100000 in
set_option maxHeartbeats 1000000 in
theorem mints (K : ByteArray) (a b c d : Int) (t : Int) (w : World) (_ : K.size ≤ 140737488351232) (ha : I6 a) (hb : I6 b) (hc : I6 c) (hd : I6 d) (ht1 : -9223372036854775808 ≤ t) (ht2 : t < 9223372036854775808) (hT : Tab w) :
    Calls Tryz.prog 3 #[.string K, .agg #[.int .i64 a, .int .i64 b, .int .i64 c, .int .i64 d], .int .i64 t] w fun e w' => e = .returned (.bool true) ∧ Below w.heap.size w w' := by
  obtain ⟨n, hn, hn1, hn2⟩ := least500 K.size
  have h1 : (K.extract 0 n).size = n := by simp; omega
  have HT := hid hT
  have TB : Hid (∀ W, Ml w a b c d W → Tab W) := fun W h => HT.out.below h.2 HT.out.pos
  have C0 : Hid (∀ W, Hid (Ml w a b c d W) → Calls Tryz.prog 4 #[] W fun e w' => e = .returned (.bool true) ∧ Hid (Ml w a b c d w') ∧ (w'.cell? ⟨w.heap.size, 0, none⟩ = some (.int .i64 a) ∧ w'.cell? ⟨w.heap.size, 1, none⟩ = some (.int .i64 b) ∧ w'.cell? ⟨w.heap.size, 2, none⟩ = some (.int .i64 c) ∧ w'.cell? ⟨w.heap.size, 3, none⟩ = some (.int .i64 d))) := fun W h =>
    (wakes W (TB.out _ h.out)).mono fun e w' ⟨h1, h2⟩ => ⟨h1, h.out.below h2, four_c (h.out.below h2).1⟩
  have C1 : Hid (∀ W, Hid (Ml w a b c d W) → Calls Tryz.prog 5 #[.string (K.extract 0 n), .agg #[.int .i64 a, .int .i64 b, .int .i64 c, .int .i64 d]] W fun e w' => e = .returned (.string (mint (K.extract 0 n) a b c d)) ∧ Hid (Ml w a b c d w') ∧ (w'.cell? ⟨w.heap.size, 0, none⟩ = some (.int .i64 a) ∧ w'.cell? ⟨w.heap.size, 1, none⟩ = some (.int .i64 b) ∧ w'.cell? ⟨w.heap.size, 2, none⟩ = some (.int .i64 c) ∧ w'.cell? ⟨w.heap.size, 3, none⟩ = some (.int .i64 d))) := fun W h =>
    (mint_ (K.extract 0 n) a b c d W (by omega) ha hb hc hd (TB.out _ h.out)).mono fun e w' ⟨h1, h2⟩ => ⟨h1, h.out.below h2, four_c (h.out.below h2).1⟩
  have C2 : Hid (∀ W, Hid (Ml w a b c d W) → Calls Tryz.prog 6 #[.string (K.extract 0 n), .agg #[.int .i64 a, .int .i64 b, .int .i64 c, .int .i64 d]] W fun e w' => e = .returned (.string (mint (K.extract 0 n) a b c d)) ∧ Hid (Ml w a b c d w') ∧ (w'.cell? ⟨w.heap.size, 0, none⟩ = some (.int .i64 a) ∧ w'.cell? ⟨w.heap.size, 1, none⟩ = some (.int .i64 b) ∧ w'.cell? ⟨w.heap.size, 2, none⟩ = some (.int .i64 c) ∧ w'.cell? ⟨w.heap.size, 3, none⟩ = some (.int .i64 d))) := fun W h =>
    (mintRef (K.extract 0 n) a b c d W (by omega) ha hb hc hd).mono fun e w' ⟨h1, h2⟩ => ⟨h1, h.out.below h2, four_c (h.out.below h2).1⟩
  have C3 : Hid (∀ W, Hid (Ml w a b c d W) → Calls Tryz.prog 7 #[.string (K.extract 0 n), .int .i64 t] W fun e w' => e = .returned (.string (der (K.extract 0 n) ⟨#[116, 101, 110, 97, 110, 116]⟩ t)) ∧ Hid (Ml w a b c d w') ∧ (w'.cell? ⟨w.heap.size, 0, none⟩ = some (.int .i64 a) ∧ w'.cell? ⟨w.heap.size, 1, none⟩ = some (.int .i64 b) ∧ w'.cell? ⟨w.heap.size, 2, none⟩ = some (.int .i64 c) ∧ w'.cell? ⟨w.heap.size, 3, none⟩ = some (.int .i64 d))) := fun W h =>
    (key (K.extract 0 n) t W (by omega) ⟨ht1, ht2⟩ (TB.out _ h.out)).mono fun e w' ⟨h1, h2⟩ => ⟨h1, h.out.below h2, four_c (h.out.below h2).1⟩
  have C4 : Hid (∀ W, Hid (Ml w a b c d W) → Calls Tryz.prog 8 #[.string (K.extract 0 n), .int .i64 t] W fun e w' => e = .returned (.string (der (K.extract 0 n) ⟨#[116, 101, 110, 97, 110, 116]⟩ t)) ∧ Hid (Ml w a b c d w') ∧ (w'.cell? ⟨w.heap.size, 0, none⟩ = some (.int .i64 a) ∧ w'.cell? ⟨w.heap.size, 1, none⟩ = some (.int .i64 b) ∧ w'.cell? ⟨w.heap.size, 2, none⟩ = some (.int .i64 c) ∧ w'.cell? ⟨w.heap.size, 3, none⟩ = some (.int .i64 d))) := fun W h =>
    (keyRef (K.extract 0 n) t W (by omega) ⟨ht1, ht2⟩).mono fun e w' ⟨h1, h2⟩ => ⟨h1, h.out.below h2, four_c (h.out.below h2).1⟩
  generalize mint (K.extract 0 n) a b c d = M at *
  generalize der (K.extract 0 n) ⟨#[116, 101, 110, 97, 110, 116]⟩ t = D at *
  have BB : Hid (Ml w a b c d (w.alloc (.cells #[.int .i64 a, .int .i64 b, .int .i64 c, .int .i64 d] 23)).drew) := (ml_start w a b c d).below (Below.refl _ _).drew
  have hS := four_c (ml_start w a b c d).1
  clear hT h1 ha hb hc hd TB
  go_enter Tryz.func3, Tryz.ntmps3
  go_wp2_with fail
  go_region_held3 (fun w' => w'.cell? ⟨w.heap.size, 0, none⟩ = some (.int .i64 a) ∧ w'.cell? ⟨w.heap.size, 1, none⟩ = some (.int .i64 b) ∧ w'.cell? ⟨w.heap.size, 2, none⟩ = some (.int .i64 c) ∧ w'.cell? ⟨w.heap.size, 3, none⟩ = some (.int .i64 d))
    (first | exact hS | go_keep)
    (first | (go_at_call 4; refine (C0.out _ BB).mono ?_; clear BB hS; rintro e w1 ⟨rfl, BB, hS⟩) | (go_at_call 5; refine (C1.out _ BB).mono ?_; clear BB hS; rintro e w2 ⟨rfl, BB, hS⟩) | (go_at_call 6; refine (C2.out _ BB).mono ?_; clear BB hS; rintro e w3 ⟨rfl, BB, hS⟩) | (go_at_call 7; refine (C3.out _ BB).mono ?_; clear BB hS; rintro e w4 ⟨rfl, BB, hS⟩) | (go_at_call 8; refine (C4.out _ BB).mono ?_; clear BB hS; rintro e w5 ⟨rfl, BB, hS⟩))
  clear hS C0 C1 C2 C3 C4
  go_wp2_with fail
  go_ret
  exact ⟨rfl, BB.out.2⟩

end Go.Proofs.YtkelipedpjmmaaaGreatDoor.Wtk
