/-
  The walk of the law PackMakes: it returns true. Nothing that was in memory has turned. Conditions: the items can be read, the text is of at most 2^47 bytes.
-/
import Derived.Test.YtdmbpejoekeenaaLawEq
namespace Go.Proofs.Ytdmbpejoekeenaa.Wq
open Go.ChangeShapes Go.WideShapes Go.ChangeAt Go.RowKit Go.Proofs.Ytdmbpejoekeenaa.M Go.Proofs.Ytdmbpejoekeenaa.We Go.Proofs.Ytdmbpejoekeenaa.Wn

set_option maxHeartbeats 4000000 in
set_option maxRecDepth 100000 in
theorem makes (n : Int) (t : ByteArray) (p1 : Option Addr) (n1 cap1 : Nat) (w : World) (hn1 : -9223372036854775808 ≤ n) (hn2 : n < 9223372036854775808) (ht : t.size ≤ 140737488355328) (h1 : Its w p1 n1) :
    Calls Try.prog 6 #[.int .i64 n, .string t, .slice p1 n1 cap1] w fun e w' => e = .returned (.bool true) ∧ Below w.heap.size w w' := by
  have H1 : Hid (Its w p1 n1) := h1
  clear h1
  go_enter Try.func6, Try.ntmps6
  go_wp2_with fail
  refine (build _ _ _ _ H1.out).mono ?_
  rintro e w1 ⟨k, m, s, f, q1, q2, c1, c2, rfl, r1, r2, ho, hn, b1⟩
  have R1 : Hid _ := r1
  have HO : Hid _ := ho
  have HN : Hid _ := hn
  clear r1 r2 ho hn
  go_wp2_with fail
  obtain ⟨X, hX⟩ : ∃ X, X = (w1.alloc (.cells #[.int .i64 k, .int .i64 m, .string s, .slice q1 f.len c1] 26)).alloc (.cells #[.int .i64 k, .int .i64 m, .string s, .slice q2 f.len c2] 29) := ⟨_, rfl⟩
  rw [← hX]
  obtain ⟨x1, x2, x3, x4⟩ := alloc2 _ _ _ X hX
  have bX : Below w.heap.size w X := b1.trans (x4.mono b1.size)
  clear hX x2
  have E1 := four x1
  obtain ⟨e10, e11, e12, e13⟩ := E1
  have mk : ∀ w', Below X.heap.size X w' → (w'.cell? ⟨w1.heap.size, 0, none⟩ = some (.int .i64 k) ∧ w'.cell? ⟨w1.heap.size, 1, none⟩ = some (.int .i64 m) ∧ w'.cell? ⟨w1.heap.size, 2, none⟩ = some (.string s) ∧ w'.cell? ⟨w1.heap.size, 3, none⟩ = some (.slice q1 f.len c1)) := fun w' hb => by
    have hc := (bcell hb).1
    exact ⟨(hc _ _ (by omega)).trans e10, (hc _ _ (by omega)).trans e11, (hc _ _ (by omega)).trans e12, (hc _ _ (by omega)).trans e13⟩
  have CN : Hid (∀ W, Below X.heap.size X W → Calls Try.prog 18 #[.int .i64 n] W fun e w' => e = .returned (.agg #[.int .i64 0, .int .i64 n, .string ⟨#[]⟩, .slice none 0 0]) ∧ Below X.heap.size X w' ∧ (w'.cell? ⟨w1.heap.size, 0, none⟩ = some (.int .i64 k) ∧ w'.cell? ⟨w1.heap.size, 1, none⟩ = some (.int .i64 m) ∧ w'.cell? ⟨w1.heap.size, 2, none⟩ = some (.string s) ∧ w'.cell? ⟨w1.heap.size, 3, none⟩ = some (.slice q1 f.len c1))) := fun W hW =>
    (Wy.num n W).mono (fun e w' h => ⟨h.1, hW.trans (h.2.mono hW.size), mk _ (hW.trans (h.2.mono hW.size))⟩)
  have hB : Below X.heap.size X X.drew := (Below.refl _ _).drew
  have hS := mk _ hB
  have MK : Hid _ := mk
  have X1 : Hid _ := x1
  have X4 : Hid _ := x4
  have s1 := b1.size
  clear mk x1 x4
  go_region_held3 (fun w' => w'.cell? ⟨w1.heap.size, 0, none⟩ = some (.int .i64 k) ∧ w'.cell? ⟨w1.heap.size, 1, none⟩ = some (.int .i64 m) ∧ w'.cell? ⟨w1.heap.size, 2, none⟩ = some (.string s) ∧ w'.cell? ⟨w1.heap.size, 3, none⟩ = some (.slice q1 f.len c1))
    (first | exact hS | go_keep)
    ((go_at_call 18; refine (CN.out _ hB).mono ?_; rintro e w2 ⟨rfl, hB, hS⟩))
  have hg := heap_alloc_new w2 (.cells #[.int .i64 k, .int .i64 m, .string s, .slice q1 f.len c1, .int .i64 0, .int .i64 n, .string ⟨#[]⟩, .slice none 0 0] 26)
  go_wp2_with fail
  obtain ⟨V, hV⟩ : ∃ V, V = w2.alloc (.cells #[.int .i64 k, .int .i64 m, .string s, .slice q1 f.len c1, .int .i64 0, .int .i64 n, .string ⟨#[]⟩, .slice none 0 0] 26) := ⟨_, rfl⟩
  rw [← hV]
  rw [← hV] at hg
  have vz : V.heap.size = w2.heap.size + 1 := by rw [hV]; simp
  have bV : Below w2.heap.size w2 V := by rw [hV]; exact (Below.refl _ _).alloc (Nat.le_refl _) _
  have bXV : Below X.heap.size X V := hB.trans (bV.mono hB.size)
  clear hV
  have RV : Rd V (fun _ => True) (.slice (some ⟨w2.heap.size, 0, none⟩) 2 2) (.cons k m s f (.cons 0 n ⟨#[]⟩ .nil .nil)) :=
    rd_row (A := fun _ => True) (f := .cons k m s f (.cons 0 n ⟨#[]⟩ .nil .nil)) hg trivial (fun _ h => h) ⟨_, _, rfl, ⟨_, _, rfl, rfl, rd_nil _ _⟩, rd_of (fun _ _ => trivial) (fun _ _ _ h => h) (rd_below (rd_below R1.out X4.out) bXV)⟩ (Nat.le_refl _) (by decide)
  have okV : (F.cons k m s f (.cons 0 n ⟨#[]⟩ .nil .nil)).ok := ⟨HO.out.1, HO.out.2.1, HO.out.2.2.1, HO.out.2.2.2.1, ⟨by decide, ⟨hn1, hn2⟩, by decide, trivial, trivial⟩⟩
  have nV : (F.cons k m s f (.cons 0 n ⟨#[]⟩ .nil .nil)).nodes ≤ 1000000 := by have := HN.out; simp only [F.nodes]; omega
  refine (Wy.all _ _ _ _ nV okV RV).mono ?_
  rintro e w3 ⟨pa, ca, rfl, ra, b3⟩
  have s3 := b3.size
  obtain ⟨pa', ca', xs, ep, la1, la2, hf, hc⟩ := rd_form ra
  simp only [Value.slice.injEq] at ep
  obtain ⟨rfl, _, rfl⟩ := ep
  obtain ⟨gb, M0, rfl, hgb, lgb, k0, k1, k2, k3, RM, hf2⟩ := fits_next (j := 0) (c := w3.cell?) hf hc
  obtain ⟨gb', M1, ee, _, _, _, k5, _, _, _, _⟩ := fits_next (j := 4) (c := w3.cell?) hf2 hc
  simp only [Option.some.injEq, Addr.mk.injEq] at ee
  obtain ⟨rfl, _⟩ := ee
  obtain ⟨pm, cm, _, rfl, _⟩ := rd_form RM
  have gn : w3.cell? ⟨w2.heap.size, 5, none⟩ = some (.int .i64 n) := by
    have h := (b3.block w2.heap.size (by omega)).trans hg
    simp [World.cell?, h]
  have gz : w3.frozen? ⟨w2.heap.size, 5, none⟩ = false := frozen_there ((b3.block w2.heap.size (by omega)).trans hg) 5
  have lw2 : w2.heap.size < w3.heap.size := by omega
  have KRM : Hid _ := RM
  have b3X : Hid (Below X.heap.size X w3) := bXV.trans (b3.mono bXV.size)
  have KB3 : Hid _ := b3
  have sB := hB.size
  clear ra hf hc hf2 RM RV okV nV hg bV bXV b3 hS hB la1 la2
  simp only [Nat.zero_add] at k0 k1 k2 k3 k5
  have fl : (F.cons k m s f (.cons 0 n ⟨#[]⟩ .nil .nil)).len = 2 := rfl
  rw [fl]
  go_wp2_with fail
  obtain ⟨x, hx⟩ : ∃ x, x = bits BinOp.xor IntKind.i64 n 1 := ⟨_, rfl⟩
  rw [← hx]
  obtain ⟨Z, hZ⟩ : ∃ Z, Z = (w3.setCell ⟨w2.heap.size, 5, none⟩ (.int .i64 x)).alloc (.cells #[.int .i64 2, .int .i64 0, .string ⟨#[]⟩, .slice (some ⟨gb, 0, none⟩) 2 ca] 26) := ⟨_, rfl⟩
  rw [← hZ]
  have zs : (w3.setCell ⟨w2.heap.size, 5, none⟩ (.int .i64 x)).heap.size = w3.heap.size := by simp [World.setCell]
  have zz : Z.heap.size = w3.heap.size + 1 := by rw [hZ, World.size_alloc, zs]
  have zn : Z.heap[w3.heap.size]? = some (.cells #[.int .i64 2, .int .i64 0, .string ⟨#[]⟩, .slice (some ⟨gb, 0, none⟩) 2 ca] 26 (0, 0)) := by
    have h := heap_alloc_new (w3.setCell ⟨w2.heap.size, 5, none⟩ (.int .i64 x)) (.cells #[.int .i64 2, .int .i64 0, .string ⟨#[]⟩, .slice (some ⟨gb, 0, none⟩) 2 ca] 26)
    rw [zs] at h
    rw [hZ]; exact h
  have zo : ∀ j, j < w3.heap.size → j ≠ w2.heap.size → Z.heap[j]? = w3.heap[j]? := fun j h1 h2 => by
    rw [hZ, Below.heap_alloc _ _ _ (by rw [zs]; exact h1)]
    exact Below.heap_setCell _ _ _ _ h2
  have zc : ∀ j o, j < w3.heap.size → j ≠ w2.heap.size → Z.cell? ⟨j, o, none⟩ = w3.cell? ⟨j, o, none⟩ := fun j o h1 h2 => World.cell?_of_block (a := ⟨j, o, none⟩) (zo j h1 h2)
  have bZ : Below w.heap.size w Z := by
    have h3 := bX.trans (b3X.out.mono bX.size)
    have hw : w.heap.size ≤ w2.heap.size := by have := bX.size; omega
    rw [hZ]
    exact (h3.setCell (p := ⟨w2.heap.size, 5, none⟩) hw _).alloc (by rw [zs]; have := h3.size; omega) _
  have hx3 := b3X.out.size
  obtain ⟨z0, z1, z2, z3⟩ := four zn
  have y0 := (zc gb 0 lgb (by omega)).trans k0
  have y1 := (zc gb 1 lgb (by omega)).trans k1
  have y2 := (zc gb 2 lgb (by omega)).trans k2
  have y3 := (zc gb 3 lgb (by omega)).trans k3
  have y5 := (zc gb 5 lgb (by omega)).trans k5
  obtain ⟨o0, o1, o2, o3⟩ := MK.out _ b3X.out
  have e0 := (zc w1.heap.size 0 (by omega) (by omega)).trans o0
  have e1 := (zc w1.heap.size 1 (by omega) (by omega)).trans o1
  have e2 := (zc w1.heap.size 2 (by omega) (by omega)).trans o2
  have e3 := (zc w1.heap.size 3 (by omega) (by omega)).trans o3
  have AM : Rd Z (fun _ => True) (.slice pm f.len cm) f := rd_of (fun _ _ => trivial) (fun g h o ho => (zo g (lt_of_heap ho) (by omega)).trans ho) KRM.out
  have AV : Rd Z (fun _ => True) (.slice q1 f.len c1) f := rd_of (fun _ _ => trivial) (fun g h o ho => by
    have l2 := h.2
    exact (zo g (by omega) (by omega)).trans ((b3X.out.block g (by omega)).trans ((X4.out.block g l2).trans ho))) (rd_size R1.out)
  have mk : ∀ w', Below Z.heap.size Z w' → (w'.cell? ⟨w3.heap.size, 0, none⟩ = some (.int .i64 2) ∧ w'.cell? ⟨w3.heap.size, 1, none⟩ = some (.int .i64 0) ∧ w'.cell? ⟨w3.heap.size, 2, none⟩ = some (.string ⟨#[]⟩) ∧ w'.cell? ⟨w3.heap.size, 3, none⟩ = some (.slice (some ⟨gb, 0, none⟩) 2 ca) ∧ w'.cell? ⟨gb, 0, none⟩ = some (.int .i64 k) ∧ w'.cell? ⟨gb, 1, none⟩ = some (.int .i64 m) ∧ w'.cell? ⟨gb, 2, none⟩ = some (.string s) ∧ w'.cell? ⟨gb, 3, none⟩ = some (.slice pm f.len cm) ∧ w'.cell? ⟨gb, 5, none⟩ = some (.int .i64 n) ∧ w'.cell? ⟨w1.heap.size, 0, none⟩ = some (.int .i64 k) ∧ w'.cell? ⟨w1.heap.size, 1, none⟩ = some (.int .i64 m) ∧ w'.cell? ⟨w1.heap.size, 2, none⟩ = some (.string s) ∧ w'.cell? ⟨w1.heap.size, 3, none⟩ = some (.slice q1 f.len c1)) := fun w' hb => by
    have hc := (bcell hb).1
    exact ⟨(hc _ _ (by omega)).trans z0, (hc _ _ (by omega)).trans z1, (hc _ _ (by omega)).trans z2, (hc _ _ (by omega)).trans z3, (hc _ _ (by omega)).trans y0, (hc _ _ (by omega)).trans y1, (hc _ _ (by omega)).trans y2, (hc _ _ (by omega)).trans y3, (hc _ _ (by omega)).trans y5, (hc _ _ (by omega)).trans e0, (hc _ _ (by omega)).trans e1, (hc _ _ (by omega)).trans e2, (hc _ _ (by omega)).trans e3⟩
  have CW : Hid (∀ W, Below Z.heap.size Z W → Calls Try.prog 12 #[] W fun e w' => e = .returned (.bool true) ∧ Below Z.heap.size Z w' ∧ (w'.cell? ⟨w3.heap.size, 0, none⟩ = some (.int .i64 2) ∧ w'.cell? ⟨w3.heap.size, 1, none⟩ = some (.int .i64 0) ∧ w'.cell? ⟨w3.heap.size, 2, none⟩ = some (.string ⟨#[]⟩) ∧ w'.cell? ⟨w3.heap.size, 3, none⟩ = some (.slice (some ⟨gb, 0, none⟩) 2 ca) ∧ w'.cell? ⟨gb, 0, none⟩ = some (.int .i64 k) ∧ w'.cell? ⟨gb, 1, none⟩ = some (.int .i64 m) ∧ w'.cell? ⟨gb, 2, none⟩ = some (.string s) ∧ w'.cell? ⟨gb, 3, none⟩ = some (.slice pm f.len cm) ∧ w'.cell? ⟨gb, 5, none⟩ = some (.int .i64 n) ∧ w'.cell? ⟨w1.heap.size, 0, none⟩ = some (.int .i64 k) ∧ w'.cell? ⟨w1.heap.size, 1, none⟩ = some (.int .i64 m) ∧ w'.cell? ⟨w1.heap.size, 2, none⟩ = some (.string s) ∧ w'.cell? ⟨w1.heap.size, 3, none⟩ = some (.slice q1 f.len c1))) := fun W hW =>
    (Wv.wakes W).mono (fun e w' h => ⟨h.1, hW.trans (h.2.mono hW.size), mk _ (hW.trans (h.2.mono hW.size))⟩)
  have CE : Hid (∀ W, Below Z.heap.size Z W → Calls Try.prog 16 #[.agg #[.int .i64 k, .int .i64 m, .string s, .slice pm f.len cm], .agg #[.int .i64 k, .int .i64 m, .string s, .slice q1 f.len c1]] W fun e w' => e = .returned (.bool true) ∧ Below Z.heap.size Z w' ∧ (w'.cell? ⟨w3.heap.size, 0, none⟩ = some (.int .i64 2) ∧ w'.cell? ⟨w3.heap.size, 1, none⟩ = some (.int .i64 0) ∧ w'.cell? ⟨w3.heap.size, 2, none⟩ = some (.string ⟨#[]⟩) ∧ w'.cell? ⟨w3.heap.size, 3, none⟩ = some (.slice (some ⟨gb, 0, none⟩) 2 ca) ∧ w'.cell? ⟨gb, 0, none⟩ = some (.int .i64 k) ∧ w'.cell? ⟨gb, 1, none⟩ = some (.int .i64 m) ∧ w'.cell? ⟨gb, 2, none⟩ = some (.string s) ∧ w'.cell? ⟨gb, 3, none⟩ = some (.slice pm f.len cm) ∧ w'.cell? ⟨gb, 5, none⟩ = some (.int .i64 n) ∧ w'.cell? ⟨w1.heap.size, 0, none⟩ = some (.int .i64 k) ∧ w'.cell? ⟨w1.heap.size, 1, none⟩ = some (.int .i64 m) ∧ w'.cell? ⟨w1.heap.size, 2, none⟩ = some (.string s) ∧ w'.cell? ⟨w1.heap.size, 3, none⟩ = some (.slice q1 f.len c1))) := fun W hW =>
    (equal k m s f _ k m s f _ W _ _ (rd_below AM hW) (rd_below AV hW)).mono (fun e w' h => ⟨(show eq1 k m s k m s (eqF f f) = true from by rw [eqF_refl]; simp [eq1]) ▸ h.1, hW.trans (h.2.mono hW.size), mk _ (hW.trans (h.2.mono hW.size))⟩)
  have hB : Below Z.heap.size Z Z.drew := (Below.refl _ _).drew
  have hS := mk _ hB
  have KZ : Hid _ := bZ
  have sZ := bZ.size
  clear mk AM AV zo zc zn hZ bZ y0 y1 y2 y3 y5 z0 z1 z2 z3 e0 e1 e2 e3 o0 o1 o2 o3 k0 k1 k2 k3 k5 gn gz zs zz hgb lgb lw2 hx3 sB s3 vz e10 e11 e12 e13 hx
  go_region_held3 (fun w' => w'.cell? ⟨w3.heap.size, 0, none⟩ = some (.int .i64 2) ∧ w'.cell? ⟨w3.heap.size, 1, none⟩ = some (.int .i64 0) ∧ w'.cell? ⟨w3.heap.size, 2, none⟩ = some (.string ⟨#[]⟩) ∧ w'.cell? ⟨w3.heap.size, 3, none⟩ = some (.slice (some ⟨gb, 0, none⟩) 2 ca) ∧ w'.cell? ⟨gb, 0, none⟩ = some (.int .i64 k) ∧ w'.cell? ⟨gb, 1, none⟩ = some (.int .i64 m) ∧ w'.cell? ⟨gb, 2, none⟩ = some (.string s) ∧ w'.cell? ⟨gb, 3, none⟩ = some (.slice pm f.len cm) ∧ w'.cell? ⟨gb, 5, none⟩ = some (.int .i64 n) ∧ w'.cell? ⟨w1.heap.size, 0, none⟩ = some (.int .i64 k) ∧ w'.cell? ⟨w1.heap.size, 1, none⟩ = some (.int .i64 m) ∧ w'.cell? ⟨w1.heap.size, 2, none⟩ = some (.string s) ∧ w'.cell? ⟨w1.heap.size, 3, none⟩ = some (.slice q1 f.len c1))
    (first | exact hS | go_keep)
    (first
      | (go_at_call 12; refine (CW.out _ hB).mono ?_; rintro e wa ⟨rfl, hB, hS⟩)
      | (go_at_call 16; refine (CE.out _ hB).mono ?_; rintro e wa ⟨rfl, hB, hS⟩))
  have KB : Hid _ := hB
  have sB := hB.size
  clear hS hB
  go_wp2_with fail
  refine (Wy.num _ _).mono ?_
  rintro e w5 ⟨rfl, b5⟩
  go_wp2_with fail
  refine (Wy.str _ _ (by omega)).mono ?_
  rintro e w6 ⟨rfl, b6⟩
  go_wp2_with fail
  go_ret
  have s5 := b5.size
  have s6 := b6.size
  exact ⟨rfl, (((KZ.out.trans (KB.out.mono sZ)).trans (b5.mono (by omega))).trans (b6.mono (by omega))).trans ((((Below.refl _ _).alloc (Nat.le_refl _) _).alloc (by simp) _).mono (by omega))⟩

end Go.Proofs.Ytdmbpejoekeenaa.Wq
