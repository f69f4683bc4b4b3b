/-
  The walk of a stream's find: the greatest generation, the half, and the records of a region's sectors. Nothing that was in memory turns. Condition: from 3 to 4096 sectors of 64 bytes.
-/
import Derived.Test.YtaojoecmbgmhoaaSmB
import Derived.Test.YtaojoecmbgmhoaaSmD
import Derived.Test.YtaojoecmbgmhoaaWd
import Derived.Test.YtaojoecmbgmhoaaWb
namespace Go.Proofs.Ytaojoecmbgmhoaa.Wst
open Go.ChangeShapes Go.WideShapes Go.ChangeAt Go.RowKit Go.Proofs.Ytaojoecmbgmhoaa.M Go.Proofs.Ytaojoecmbgmhoaa.Wd

theorem elemS : Try.prog.elem 29 = 9 := by kernel_rfl
theorem run_cut (gp op n cp a b : Nat) (ha : a ≤ b) (hb : b ≤ cp) (ha2 : a < cp) (za zb : Int) (hza : za = (a : Int)) (hzb : zb = (b : Int)) (u : World) :
    (Instr.slice 29 (.slice (some ⟨gp, op, none⟩) n cp) (some (.int .i64 za)) (some (.int .i64 zb)) none).run Try.prog u = .ok (.slice (some ⟨gp, op + a, none⟩) (b - a) (cp - a)) u := by
  subst hza hzb
  have e2 : ¬ cp = a := by omega
  simp [Instr.slice, Instr.sliceBounds, Instr.sliceBound, asIntOf, run_underlying Try.underlying29, Try.sizeOf9, Result.andThen, Addr.add, ha, hb, e2]

theorem own_keep {w w' : World} {base base' e size n : Nat} {v : Value} {xs : List Value} (h : w.ownsRow base e size v n xs) (hb : base' ≤ base) (hk : ∀ b, base ≤ b → b < w.heap.size → w'.heap[b]? = w.heap[b]?) : w'.ownsRow base' e size v n xs := by
  obtain ⟨h1, h2 | ⟨g, cap, cur, q1, q2, q3, q4⟩⟩ := h
  · exact ⟨h1, .inl h2⟩
  · exact ⟨h1, .inr ⟨g, cap, cur, q1, Nat.le_trans hb q2, (hk g q2 (blk_lt q3)).trans q3, q4⟩⟩

/-- The records as a row. -/
def rcv (l : List ByteArray) : List Value := l.map fun b => .string b
theorem rcv_length (l : List ByteArray) : (rcv l).length = l.length := by simp [rcv]
theorem rcv_get {l : List ByteArray} {j : Nat} (h : j < l.length) : (rcv l)[j]? = some (.string (nth l j)) := by
  unfold rcv
  rw [List.getElem?_map, List.getElem?_eq_getElem h, nth_get h]
  rfl
theorem bds_recs {T : ByteArray} {k : Nat} (h : Fst T k) : k = (recs T).length ∧ bds T k = rcv (recs T) := by
  have e : k = cntF T T.size 0 := fst_one h (recs_fst T)
  refine ⟨by rw [recs_length]; exact e, ?_⟩
  unfold bds rcv recs
  rw [e, List.map_map]
  rfl

set_option maxRecDepth 100000 in
set_option maxHeartbeats 800000 in
theorem find (n : Nat) (y : Nat → ByteArray) (p : Option Addr) (w : World) (h3 : 3 ≤ n) (h4 : n ≤ 4096) (hy : ∀ i, (y i).size = 64) (hL : War.Lies w p n y) :
    Calls Try.prog 20 #[.slice p n n] w fun e w' => ∃ v, e = .returned (.tuple #[hv (gg y ((n - 1) / 2)) (hH (y 0)), v]) ∧ w'.ownsRow w.heap.size 9 1 v (recs (dtOf y ((n - 1) / 2))).length (rcv (recs (dtOf y ((n - 1) / 2)))) ∧ Below w.heap.size w w' := by
  rcases hL with hL | ⟨b, off, rfl, hb, hcell⟩
  · omega
  have hh : (n - 1) / 2 ≤ 2047 := by omega
  have C1 := hid fun w => halfSize n w (by omega) h4
  have hn2 : 1 + 2 * ((n - 1) / 2) ≤ n := by omega
  have hh1 : 1 ≤ (n - 1) / 2 := by omega
  have HG : Hid (gg y ((n - 1) / 2) = max (hG (y 0)) (nw (fun j => y (1 + j)) (2 * ((n - 1) / 2)))) := rfl
  have NR := hid (nw_range (fun j => y (1 + j)) (2 * ((n - 1) / 2)))
  have GR := hG_range (y 0)
  have HD : Hid (dtOf y ((n - 1) / 2) = if 0 < hG (y 0) then jn (fun j => y (1 + hH (y 0) * ((n - 1) / 2) + j)) (hG (y 0)) 0 ((n - 1) / 2) else ⟨#[]⟩) := rfl
  have HH := hH_lt (y 0)
  have HN : Hid (¬ 0 < hG (y 0) → hH (y 0) = 1) := fun h => by
    by_cases c : hIs (y 0) 0 = true
    · exfalso
      apply h
      unfold hG
      rw [if_pos (.inl c)]
      exact (of_decide_eq_true c).1
    · show hH (y 0) = 1
      unfold hH
      rw [if_neg c]
  have C3 := hid fun w => parseHead (y 0) w (hy 0)
  have HY := hid hy
  have CELL : Hid (∀ W i, Below w.heap.size w W → i < n → W.cell? ⟨b, off + i, none⟩ = some (.string (y i))) := fun W i hW hi => (hW.cell (by exact hb)).trans (hcell i hi)
  have CN : Hid (∀ W, Below w.heap.size w W → Calls Try.prog 31 #[.slice (some ⟨b, off + 1, none⟩) (2 * ((n - 1) / 2)) (n - 1)] W fun e w' => e = .returned (.int .i64 (nw (fun j => y (1 + j)) (2 * ((n - 1) / 2)))) ∧ Below W.heap.size W w') := fun W hW => by
    have C := War.newest (some ⟨b, off + 1, none⟩) (2 * ((n - 1) / 2)) (n - 1) (fun j => y (1 + j)) W (fun i _ => by rw [HY.out]; decide) (by omega) (.inr ⟨b, off + 1, rfl, Nat.lt_of_lt_of_le hb hW.size, fun i hi => by rw [Nat.add_assoc]; exact CELL.out W (1 + i) hW (by omega)⟩)
    exact C
  have CJ : Hid (∀ W a, a = 1 + hH (y 0) * ((n - 1) / 2) → Below w.heap.size w W → Calls Try.prog 35 #[.slice (some ⟨b, off + a, none⟩) ((n - 1) / 2) (n - a), .int .i64 (hG (y 0))] W fun e w' => e = .returned (.string (jn (fun j => y (1 + hH (y 0) * ((n - 1) / 2) + j)) (hG (y 0)) 0 ((n - 1) / 2))) ∧ Below W.heap.size W w') := fun W a ha hW => by
    have hle : a + (n - 1) / 2 ≤ n := by
      rcases (by omega : hH (y 0) = 0 ∨ hH (y 0) = 1) with e | e <;> rw [e] at ha <;> omega
    have C := War.join (some ⟨b, off + a, none⟩) ((n - 1) / 2) (n - a) (fun j => y (1 + hH (y 0) * ((n - 1) / 2) + j)) (hG (y 0)) W (fun i _ => by rw [HY.out]; decide) (by omega) (.inr ⟨b, off + a, rfl, Nat.lt_of_lt_of_le hb hW.size, fun i hi => by rw [Nat.add_assoc, ha]; exact CELL.out W (1 + hH (y 0) * ((n - 1) / 2) + i) hW (by omega)⟩)
    exact C
  have JS := jn_size (fun j => y (1 + hH (y 0) * ((n - 1) / 2) + j)) (hG (y 0)) ((n - 1) / 2) 0
  have START := hid fun w => startOf (hH (y 0)) n w (by omega) h4 HH
  have SL1 := run_cut b off n n 1 (1 + 2 * ((n - 1) / 2)) (by omega) hn2 (by omega) 1 (1 + 2 * (((n - 1) / 2 : Nat) : Int)) rfl (by omega)
  have k0 : Hid (∀ W, Below w.heap.size w W → W.cell? ⟨b, off, none⟩ = some (.string (y 0))) := fun W hW => CELL.out W 0 hW (by omega)
  have SL2 : Hid (∀ a, a = 1 + hH (y 0) * ((n - 1) / 2) → ∀ u, (Instr.slice 29 (.slice (some ⟨b, off, none⟩) n n) (some (.int .i64 (a : Int))) (some (.int .i64 ((a : Int) + (((n - 1) / 2 : Nat) : Int)))) none).run Try.prog u = .ok (.slice (some ⟨b, off + a, none⟩) ((n - 1) / 2) (n - a)) u) := fun a ha u => by
    have hle : a + (n - 1) / 2 ≤ n := by
      rcases (by omega : hH (y 0) = 0 ∨ hH (y 0) = 1) with e | e <;> rw [e] at ha <;> omega
    have h := run_cut b off n n a (a + (n - 1) / 2) (by omega) hle (by omega) (a : Int) ((a : Int) + (((n - 1) / 2 : Nat) : Int)) rfl (by omega) u
    rw [show a + (n - 1) / 2 - a = (n - 1) / 2 by omega] at h
    exact h
  have ALE : Hid (1 + hH (y 0) * ((n - 1) / 2) ≤ 4096) := by
    show _ ≤ _
    rcases (by omega : hH (y 0) = 0 ∨ hH (y 0) = 1) with e | e <;> rw [e] <;> omega
  clear hcell hy CELL HY
  generalize jn (fun j => y (1 + hH (y 0) * ((n - 1) / 2) + j)) (hG (y 0)) 0 ((n - 1) / 2) = T at *
  generalize nw (fun j => y (1 + j)) (2 * ((n - 1) / 2)) = NW at *
  generalize dtOf y ((n - 1) / 2) = DT at *
  generalize gg y ((n - 1) / 2) = GG at *
  generalize hH (y 0) = H at *
  generalize hG (y 0) = G at *
  generalize y 0 = Y at *
  obtain ⟨X, hX⟩ : ∃ X, X = w.alloc (.cells #[.int .i64 0, .int .i64 0] 64) := ⟨_, rfl⟩
  have bX : Below w.heap.size w X := by rw [hX]; exact (Below.refl _ _).alloc (Nat.le_refl _) _
  have HX := hid hX
  have x0 : X.heap[w.heap.size]? = some (.cells #[.int .i64 0, .int .i64 0] 64 (0, 0)) := by rw [hX]; exact heap_alloc_last w _
  clear hX
  by_cases c : 0 < G
  · rw [if_pos c, decide_eq_true c] at C3
    obtain ⟨e1, e2⟩ : GG = max G NW ∧ DT = T := ⟨HG.out, by rw [HD.out, if_pos c]⟩
    rw [e1, e2]
    have CA := hid fun w => Wa.all T w (by omega)
    have BR := hid fun k h => bds_recs (T := T) (k := k) h
    obtain ⟨a, ha⟩ : ∃ a, a = 1 + H * ((n - 1) / 2) := ⟨_, rfl⟩
    have CJ1 := hid fun W => CJ.out W a ha
    have SL := SL2.out a ha
    rw [← ha] at START
    have hale := ALE.out
    rw [← ha] at hale
    have NR1 := NR.out
    clear HG HD HN CJ SL2 ha e1 e2 JS ALE NR
    generalize (n - 1) / 2 = h at *
    unfold hv at C3
    go_enter Try.func20, Try.ntmps20
    go_wp2_with fail
    rw [← HX.out]
    refine (C1.out _).mono ?_
    rintro e w1 ⟨rfl, rfl⟩
    go_wp2_with fail
    refine (CN.out _ bX).mono ?_
    rintro e w2 ⟨rfl, b2⟩
    have B2 := bX.trans (b2.mono bX.size)
    have kk := k0.out w2 B2
    go_wp2_with fail
    refine (C3.out _).mono ?_
    rintro e w3 ⟨rfl, b3⟩
    have B3 := B2.trans (b3.mono B2.size)
    have x3 := (b3.block w.heap.size (Nat.lt_of_lt_of_le (blk_lt x0) b2.size)).trans ((b2.block w.heap.size (blk_lt x0)).trans x0)
    have h3 := heap_alloc_last w3 (.cells #[.int .i64 G, .int .i64 (H : Int)] 64)
    have B4 := B3.alloc B3.size (.cells #[.int .i64 G, .int .i64 (H : Int)] 64)
    have x4 := (((Below.refl w3.heap.size w3).alloc (Nat.le_refl _) (.cells #[.int .i64 G, .int .i64 (H : Int)] 64)).block w.heap.size (blk_lt x3)).trans x3
    have z4 : (w3.alloc (.cells #[.int .i64 G, .int .i64 (H : Int)] 64)).heap.size = w3.heap.size + 1 := by simp
    clear b2 b3 B2 kk x3 B3
    have B4 := hid B4
    have x4 := hid x4
    have h3 := hid h3
    go_wp2_with fail
    refine (START.out _).mono ?_
    rintro e w5 ⟨rfl, rfl⟩
    obtain ⟨X4, hX4⟩ : ∃ X4, X4 = w3.alloc (.cells #[.int .i64 G, .int .i64 (H : Int)] 64) := ⟨_, rfl⟩
    rw [← hX4] at B4 x4 h3 z4
    have HX4 := hid hX4
    rw [← HX4.out]
    clear hX4
    have kg : X4.cell? ⟨w3.heap.size, 0, none⟩ = some (.int .i64 G) := blk_cell (l := [.int .i64 G, .int .i64 (H : Int)]) h3.out rfl
    have CJ2 : Hid (Calls Try.prog 35 #[.slice (some ⟨b, off + a, none⟩) h (n - a), .int .i64 G] X4.drew fun e w' => e = .returned (.string T) ∧ Hid (Below X4.heap.size X4 w') ∧ w'.cell? ⟨w3.heap.size, 0, none⟩ = some (.int .i64 G)) := by
      refine (CJ1.out X4.drew B4.out.drew).mono fun e w' ⟨q1, q2⟩ => ?_
      have q : Below X4.heap.size X4 w' := (Below.refl X4.heap.size X4).drew.trans q2
      exact ⟨q1, q, (q.cell (p := ⟨w3.heap.size, 0, none⟩) (blk_lt h3.out)).trans kg⟩
    have CA2 : Hid (∀ W, Below X4.heap.size X4 W → Calls Try.prog 34 #[.string T] W fun e w' => ∃ k v, Fst T k ∧ e = .returned (.tuple #[v, .int .i64 (pl T k : Int)]) ∧ Hid (w'.ownsRow X4.heap.size 9 1 v k (bds T k) ∧ Below X4.heap.size X4 w') ∧ w'.cell? ⟨w3.heap.size, 0, none⟩ = some (.int .i64 G)) := fun W hW => by
      refine (CA.out W).mono fun e w' ⟨k, v, q1, q2, q3, q4⟩ => ?_
      have q : Below X4.heap.size X4 w' := hW.trans (q4.mono hW.size)
      exact ⟨k, v, q1, q2, ⟨own_keep q3 hW.size (fun _ _ _ => rfl), q⟩, (q.cell (p := ⟨w3.heap.size, 0, none⟩) (blk_lt h3.out)).trans kg⟩
    clear CJ1 CA START C1 C3 CN k0
    have wr1 : IntKind.i64.wrap ((a : Int) + (h : Int)) = (a : Int) + (h : Int) := by rw [IntKind.wrap_i64]; omega
    go_wp2_with fail
    go_region_held3 (fun w' => w'.cell? ⟨w3.heap.size, 0, none⟩ = some (.int .i64 G))
      (first | exact kg | go_keep)
      (first | (go_at_call 35; refine CJ2.out.mono ?_; rintro e w6 ⟨rfl, hB, kg⟩) | (go_at_call 34; refine (CA2.out _ hB.out).mono ?_; rintro e w7 ⟨k, v, hF, rfl, hB, kg⟩))
    obtain ⟨own, b7⟩ := hB.out
    have g7 := (b7.block w3.heap.size (blk_lt h3.out)).trans h3.out
    have x7 := (b7.block w.heap.size (blk_lt x4.out)).trans x4.out
    have m0 := blk_cell (l := [.int .i64 G, .int .i64 (H : Int)]) g7 (i := 0) rfl
    have m1 := blk_cell (l := [.int .i64 G, .int .i64 (H : Int)]) g7 (i := 1) rfl
    have r0 := blk_cell (l := [.int .i64 0, .int .i64 0]) x7 (i := 0) rfl
    have r1 := blk_cell (l := [.int .i64 0, .int .i64 0]) x7 (i := 1) rfl
    have f0 := blk_free x7
    have x7 := hid x7
    have OW := hid own
    have B7 := hid (B4.out.trans (b7.mono B4.out.size))
    have BD := hid (BR.out k hF)
    have zz := blk_lt x4.out
    have ZZ := hid zz
    clear own b7 hB hF g7 CJ2 CA2 zz
    go_wp2
    have hE := set2 (a := .int .i64 (max G NW)) (b := .int .i64 (H : Int)) x7.out
    have q0 := blk_cell (l := [.int .i64 (max G NW), .int .i64 (H : Int)]) hE (i := 0) rfl
    have q1 := blk_cell (l := [.int .i64 (max G NW), .int .i64 (H : Int)]) hE (i := 1) rfl
    refine bodyPost_ret (v := .tuple #[hv (max G NW) H, v]) (by simp [results, Try.results20, go_sem, hv, q0, q1]) rfl ⟨v, rfl, ?_, (B7.out.setCell (Nat.le_refl _) _).setCell (Nat.le_refl _) _⟩
    have o := OW.out
    rw [BD.out.2, BD.out.1] at o
    refine own_keep o (by have := ZZ.out; omega) fun i h1 h2 => ?_
    have hne : i ≠ w.heap.size := by have := ZZ.out; omega
    rw [Below.heap_setCell _ _ _ _ hne, Below.heap_setCell _ _ _ _ hne]
  · rw [if_neg c, decide_eq_false c] at C3
    obtain ⟨e1, e2⟩ : GG = NW ∧ DT = ⟨#[]⟩ := by
      refine ⟨?_, by rw [HD.out, if_neg c]⟩
      rw [HG.out]
      have := NR.out
      omega
    have e3 := HN.out c
    have R0 : Hid (recs ⟨#[]⟩ = []) := recs_eq bods_none
    rw [e1, e2, e3]
    have G0 : G = 0 := by omega
    subst G0
    clear HG HD HN CJ START JS SL2 ALE c e1 e2 e3
    generalize (n - 1) / 2 = h at *
    unfold hv at C3
    go_enter Try.func20, Try.ntmps20
    go_wp2_with fail
    rw [← HX.out]
    refine (C1.out _).mono ?_
    rintro e w1 ⟨rfl, rfl⟩
    go_wp2_with fail
    refine (CN.out _ bX).mono ?_
    rintro e w2 ⟨rfl, b2⟩
    have B2 := bX.trans (b2.mono bX.size)
    have kk := k0.out w2 B2
    go_wp2_with fail
    refine (C3.out _).mono ?_
    rintro e w3 ⟨rfl, b3⟩
    have B3 := B2.trans (b3.mono B2.size)
    have x3 := (b3.block w.heap.size (Nat.lt_of_lt_of_le (blk_lt x0) b2.size)).trans ((b2.block w.heap.size (blk_lt x0)).trans x0)
    have B4 := hid (B3.alloc B3.size (.cells #[.int .i64 0, .int .i64 0] 64))
    have x4 := hid ((((Below.refl w3.heap.size w3).alloc (Nat.le_refl _) (.cells #[.int .i64 0, .int .i64 0] 64)).block w.heap.size (blk_lt x3)).trans x3)
    have r0 := blk_cell (l := [.int .i64 0, .int .i64 0]) x4.out (i := 0) rfl
    have r1 := blk_cell (l := [.int .i64 0, .int .i64 0]) x4.out (i := 1) rfl
    have f0 := blk_free x4.out
    clear b2 b3 B2 kk x3 B3 x0
    go_wp2
    have hE := set2 (a := .int .i64 NW) (b := .int .i64 1) x4.out
    have q0 := blk_cell (l := [.int .i64 NW, .int .i64 1]) hE (i := 0) rfl
    have q1 := blk_cell (l := [.int .i64 NW, .int .i64 1]) hE (i := 1) rfl
    exact bodyPost_ret (v := .tuple #[hv NW 1, .slice none 0 0]) (by simp [results, Try.results20, go_sem, hv, q0, q1]) rfl ⟨_, rfl, by rw [R0.out]; exact World.ownsRow_nil _ _ _ _, (B4.out.setCell (Nat.le_refl _) _).setCell (Nat.le_refl _) _⟩

end Go.Proofs.Ytaojoecmbgmhoaa.Wst
