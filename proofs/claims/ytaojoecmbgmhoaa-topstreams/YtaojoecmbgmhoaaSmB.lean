/-
  The walks of a head's two functions: the sector that it is laid as, and the head that a sector is. Nothing that was in memory turns.
-/
import Derived.Test.YtaojoecmbgmhoaaSmA
import Derived.Test.YtaojoecmbgmhoaaRep2
import Derived.Deep.AppendLies
import Derived.Deep.WholeRow
namespace Go.Proofs.Ytaojoecmbgmhoaa.Wst
open Go.ChangeShapes Go.WideShapes Go.ChangeAt Go.RowKit Go.Proofs.Ytaojoecmbgmhoaa.M Go.Proofs.Ytaojoecmbgmhoaa.Wd

theorem repeat0 (c : Nat) : Lib.repeatL [0] c = List.replicate c 0 := by
  induction c with
  | zero => rfl
  | succ c ih => simp [Lib.repeatL, ih, List.replicate_succ]
theorem rep_zz : (⟨(Lib.repeatL (⟨#[0]⟩ : ByteArray).data.toList 49).toArray⟩ : ByteArray) = zz 49 := by
  show (⟨(Lib.repeatL [0] 49).toArray⟩ : ByteArray) = _
  rw [repeat0]
  rfl

set_option maxRecDepth 100000 in
set_option maxHeartbeats 100000 in
theorem sector (g : Int) (half : Nat) (w : World) (h0 : 0 ≤ g) (h1 : g ≤ 281474976710655) (hh : half < 2) :
    Calls Try.prog 39 #[hv g half] w fun e w' => e = .returned (.string (hdS g half)) ∧ Below w.heap.size w w' := by
  have hz : ((w.alloc (.cells #[.int .i64 g, .int .i64 (half : Int)] 64)).heap).size = w.heap.size + 1 := by simp
  have b0 := (Below.refl w.heap.size w).alloc (Nat.le_refl _) (.cells #[.int .i64 g, .int .i64 (half : Int)] 64)
  have HX := hid (show ∃ X, X = w.alloc (.cells #[.int .i64 g, .int .i64 (half : Int)] 64) from ⟨_, rfl⟩)
  obtain ⟨X, HX0⟩ := HX
  have HX := hid HX0
  clear HX0
  have k0 : X.cell? ⟨w.heap.size, 0, none⟩ = some (.int .i64 g) := by rw [HX.out]; exact blk_cell (l := [.int .i64 g, .int .i64 (half : Int)]) (heap_alloc_last w _) rfl
  have k1 : X.cell? ⟨w.heap.size, 1, none⟩ = some (.int .i64 (half : Int)) := by rw [HX.out]; exact blk_cell (l := [.int .i64 g, .int .i64 (half : Int)]) (heap_alloc_last w _) rfl
  rw [← HX.out] at hz b0
  obtain ⟨x, hx⟩ : ∃ x, x = beB 6 g := ⟨_, rfl⟩
  obtain ⟨y, hy⟩ : ∃ y, y = beB 1 (half : Int) := ⟨_, rfl⟩
  have zx : x.size = 6 := by rw [hx, beB_size]
  have zy : y.size = 1 := by rw [hy, beB_size]
  have C1 : Hid (∀ W, Below X.heap.size X W → Calls Try.prog 40 #[.int .i64 6, .int .u64 g] W fun e w' => e = .returned (.string x) ∧ Hid (Below X.heap.size X w') ∧ (w'.cell? ⟨w.heap.size, 0, none⟩ = some (.int .i64 g) ∧ w'.cell? ⟨w.heap.size, 1, none⟩ = some (.int .i64 (half : Int)))) := fun W hW => (Wp.put 6 g 6 W (by omega) (by omega) h0 (by omega)).mono fun e w' ⟨q1, q2⟩ => by
    rw [← hx] at q1
    have q := hW.trans (q2.mono hW.size)
    exact ⟨q1, q, (q.cell (by rw [hz]; exact Nat.lt_succ_self _)).trans k0, (q.cell (by rw [hz]; exact Nat.lt_succ_self _)).trans k1⟩
  have C2 : Hid (∀ W, Below X.heap.size X W → Calls Try.prog 40 #[.int .i64 1, .int .u64 (half : Int)] W fun e w' => e = .returned (.string y) ∧ Hid (Below X.heap.size X w') ∧ (w'.cell? ⟨w.heap.size, 0, none⟩ = some (.int .i64 g) ∧ w'.cell? ⟨w.heap.size, 1, none⟩ = some (.int .i64 (half : Int)))) := fun W hW => (Wp.put 1 (half : Int) 1 W (by omega) (by omega) (by omega) (by omega)).mono fun e w' ⟨q1, q2⟩ => by
    rw [← hy] at q1
    have q := hW.trans (q2.mono hW.size)
    exact ⟨q1, q, (q.cell (by rw [hz]; exact Nat.lt_succ_self _)).trans k0, (q.cell (by rw [hz]; exact Nat.lt_succ_self _)).trans k1⟩
  have e1 : IntKind.u64.wrap g = g := by rw [IntKind.wrap_u64]; omega
  have e2 : IntKind.u64.wrap (half : Int) = (half : Int) := by rw [IntKind.wrap_u64]; omega
  have hB : Hid (Below X.heap.size X X.drew) := (Below.refl _ _).drew
  have B0 := hid b0
  have hS := And.intro k0 k1
  have HF : Hid (hdS g half = nameB ++ x ++ y ++ zz 49) := by
    show hdS g half = _
    rw [hx, hy]
    rw [be_one (by omega) (by omega)]
    rfl
  have CR : Hid (∀ w, Calls Try.prog 56 #[.string ⟨#[0]⟩, .int .i64 49] w fun e w' => e = .returned (.string ⟨(Lib.repeatL [0] 49).toArray⟩) ∧ Below w.heap.size w w') := fun w => Wrp.repeat_ ⟨#[0]⟩ 49 w (by omega) (by decide)
  clear hx hy
  unfold hv
  go_enter Try.func39, Try.ntmps39
  go_wp2_with fail
  rw [← HX.out]
  go_region_held3 (fun w' => w'.cell? ⟨w.heap.size, 0, none⟩ = some (.int .i64 g) ∧ w'.cell? ⟨w.heap.size, 1, none⟩ = some (.int .i64 (half : Int)))
    (first | exact hS | go_keep)
    (first | (go_at_call 40; refine (C1.out _ hB.out).mono ?_; rintro e w1 ⟨rfl, hB, hS⟩; clear C1) | (go_at_call 40; refine (C2.out _ hB.out).mono ?_; rintro e w2 ⟨rfl, hB, hS⟩))
  have e3 : (64 : Int) - ((nameB ++ x ++ y).size : Int) = 49 := by rw [size_app, size_app, zx, zy]; rfl
  have hB2 := hid (B0.out.trans (hB.out.mono B0.out.size))
  unfold nameB at e3
  clear hB hS
  go_wp2_with fail
  refine (CR.out _).mono ?_
  rintro e w3 ⟨rfl, b3⟩
  have HZ : Hid ((⟨(Lib.repeatL [0] 49).toArray⟩ : ByteArray) = zz 49) := rep_zz
  go_wp2
  go_ret
  refine ⟨?_, hB2.out.trans (b3.mono hB2.out.size)⟩
  rw [HF.out, ← HZ.out]
  rfl

theorem list_same (a b : ByteArray) : (a.toList == b.toList) = decide (a = b) := by
  by_cases h : a = b
  · rw [decide_eq_true h, h]
    simp
  · rw [decide_eq_false h]
    have : ¬ a.toList = b.toList := fun e => h (by
      rw [ByteArray.toList_eq, ByteArray.toList_eq] at e
      exact ByteArray.ext (Array.toList_inj.1 e))
    simpa using this

/-- Two heads in cells, kept. -/
theorem pair_keep {w w2 : World} {g : Int} {half : Nat} (b : Below ((w.alloc (.cells #[.int .i64 0, .int .i64 0] 64)).alloc (.cells #[.int .i64 g, .int .i64 (half : Int)] 64)).heap.size ((w.alloc (.cells #[.int .i64 0, .int .i64 0] 64)).alloc (.cells #[.int .i64 g, .int .i64 (half : Int)] 64)) w2) :
    (w2.heap[w.heap.size]? = some (.cells #[.int .i64 0, .int .i64 0] 64 (0, 0))) ∧ (w2.heap[w.heap.size + 1]? = some (.cells #[.int .i64 g, .int .i64 (half : Int)] 64 (0, 0))) ∧ w2.cell? ⟨w.heap.size + 1, 0, none⟩ = some (.int .i64 g) ∧ w2.cell? ⟨w.heap.size + 1, 1, none⟩ = some (.int .i64 (half : Int)) ∧ (∀ i, w2.frozen? ⟨w.heap.size, i, none⟩ = false) ∧ w.heap.size + 1 < w2.heap.size := by
  have hz : ((w.alloc (.cells #[.int .i64 0, .int .i64 0] 64)).alloc (.cells #[.int .i64 g, .int .i64 (half : Int)] 64)).heap.size = w.heap.size + 2 := by simp
  have e0 := (b.block w.heap.size (by rw [hz]; omega)).trans (show _ = some (Obj.cells #[.int .i64 0, .int .i64 0] 64 (0, 0)) from (((Below.refl _ _).alloc (Nat.le_refl _) _).block w.heap.size (by simp)).trans (heap_alloc_last w _))
  have e1 := (b.block (w.heap.size + 1) (by rw [hz]; omega)).trans (show _ = some (Obj.cells #[.int .i64 g, .int .i64 (half : Int)] 64 (0, 0)) from by
    have := heap_alloc_last (w.alloc (.cells #[.int .i64 0, .int .i64 0] 64)) (.cells #[.int .i64 g, .int .i64 (half : Int)] 64)
    rw [show (w.alloc (.cells #[.int .i64 0, .int .i64 0] 64)).heap.size = w.heap.size + 1 by simp] at this
    exact this)
  have hs := b.size
  rw [hz] at hs
  exact ⟨e0, e1, blk_cell (l := [.int .i64 g, .int .i64 (half : Int)]) e1 rfl, blk_cell (l := [.int .i64 g, .int .i64 (half : Int)]) e1 rfl, fun i => blk_free e0 i, by omega⟩
/-- Two stores into a head. -/
theorem set2 {w : World} {x : Nat} {u v a b : Value} (h : w.heap[x]? = some (.cells #[u, v] 64 (0, 0))) : ((w.setCell ⟨x, 0, none⟩ a).setCell ⟨x, 1, none⟩ b).heap[x]? = some (.cells #[a, b] 64 (0, 0)) := by
  have h1 := blk_set (l := [u, v]) h 0 a
  exact blk_set (l := [a, v]) h1 1 b

set_option maxRecDepth 100000 in
set_option maxHeartbeats 400000 in
theorem parseHead (s : ByteArray) (w : World) (hs : s.size = 64) :
    Calls Try.prog 32 #[.string s] w fun e w' => e = .returned (.tuple #[hv (hG s) (if 0 < hG s then hH s else 0), .bool (decide (0 < hG s))]) ∧ Below w.heap.size w w' := by
  have g1 : gE s 8 6 = 0 := by unfold gE; rw [if_neg (by omega), if_neg (by omega)]
  have g2 : gE s 14 1 = 0 := by unfold gE; rw [if_neg (by omega), if_neg (by omega)]
  have C1 := hid fun w => Wg.get s 8 6 w (by unfold maxLen; omega) (by omega) (by omega)
  have C2 := hid fun w => Wg.get s 14 1 w (by unfold maxLen; omega) (by omega) (by omega)
  have n1 : gN s 8 6 = hNum s := by unfold gN; rw [if_pos g1]; rfl
  have n2 : gN s 14 1 = bt s 14 := by unfold gN; rw [if_pos g2]; exact num_one s 14
  have x1 : gX s 8 6 = 14 := by unfold gX; rw [if_pos g1]; rfl
  rw [n1, x1, g1] at C1
  rw [n2, g2] at C2
  generalize gX s 14 1 = x2 at C2
  obtain ⟨r1, r2⟩ := hNum_range s
  obtain ⟨b, hb⟩ : ∃ b : Nat, bt s 14 = (b : Int) := ⟨(bt s 14).toNat, by have := bt_range s 14; omega⟩
  have hb2 : b ≤ 255 := by have := bt_range s 14; omega
  rw [hb] at C2
  have OK := hid fun h1 h2 h3 => head_ok (s := s) hb h1 h2 h3
  have NO := hid fun h => head_no (s := s) hb h
  have SE := hid fun h0 h1 hh w => sector (hNum s) b w h0 h1 hh
  have HS : Hid (hdS (hNum s) b = s ∨ ¬ hdS (hNum s) b = s) := Classical.em _
  have BA : Hid (∀ o1 o2 o3, Below w.heap.size w (((w.alloc o1).alloc o2).alloc o3)) := fun o1 o2 o3 => (((Below.refl w.heap.size w).alloc (Nat.le_refl _) o1).alloc (by simp) o2).alloc (by simp; omega) o3
  have BA2 : Hid (∀ o1 o2, Below w.heap.size w ((w.alloc o1).alloc o2)) := fun o1 o2 => ((Below.refl w.heap.size w).alloc (Nat.le_refl _) o1).alloc (by simp) o2
  clear g1 g2 n1 n2 x1 hb
  generalize hNum s = N at *
  generalize hG s = G at *
  generalize hH s = H at *
  generalize hdS N b = T at *
  by_cases c1 : N < 1
  · obtain ⟨e1, e2⟩ := NO.out (fun h => by omega)
    subst e1 e2
    clear OK NO SE HS
    go_enter Try.func32, Try.ntmps32
    go_wp2_with fail
    refine (C1.out _).mono ?_
    rintro e w1 ⟨rfl, rfl⟩
    go_wp2_with fail
    refine (C2.out _).mono ?_
    rintro e w1 ⟨rfl, rfl⟩
    go_wp2
    exact bodyPost_ret (v := .tuple #[hv 0 0, .bool false]) (by simp [results, Try.results32, go_sem, hv]) rfl ⟨rfl, BA2.out _ _⟩
  · by_cases c2 : (b : Int) ≤ 1
    · have S1 := hid fun w => SE.out (by omega) (by omega) (by omega) w
      rcases HS.out with hT | hT
      · obtain ⟨e1, e2⟩ := OK.out (by omega) (by omega) hT
        have hG : decide (0 < N) = true := decide_eq_true (by omega)
        have hG2 : (if 0 < N then b else 0) = b := if_pos (by omega)
        rw [e1, e2, hG, hG2]
        subst hT
        clear OK NO SE HS e1 e2 hG hG2
        have l1 := list_same T T
        rw [decide_eq_true rfl] at l1
        unfold hv at S1
        go_enter Try.func32, Try.ntmps32
        go_wp2_with fail
        refine (C1.out _).mono ?_
        rintro e w1 ⟨rfl, rfl⟩
        go_wp2_with fail
        refine (C2.out _).mono ?_
        rintro e w1 ⟨rfl, rfl⟩
        go_wp2_with fail
        refine (S1.out _).mono ?_
        rintro e w2 ⟨rfl, b2⟩
        have HK := hid (pair_keep (g := N) (half := b) b2)
        have BB := hid ((BA2.out _ _).trans (b2.mono (BA2.out _ _).size))
        obtain ⟨m0, m1, m2, m3, f0, f1⟩ := HK.out
        have M0 := hid m0
        have r0 := blk_cell (l := [.int .i64 0, .int .i64 0]) m0 (i := 0) rfl
        have r1 := blk_cell (l := [.int .i64 0, .int .i64 0]) m0 (i := 1) rfl
        clear m0 m1
        clear b2
        go_wp2
        have hE := set2 (a := .int .i64 N) (b := .int .i64 (b : Int)) M0.out
        have q0 := blk_cell (l := [.int .i64 N, .int .i64 (b : Int)]) hE (i := 0) rfl
        have q1 := blk_cell (l := [.int .i64 N, .int .i64 (b : Int)]) hE (i := 1) rfl
        exact bodyPost_ret (v := .tuple #[hv N b, .bool true]) (by simp [results, Try.results32, go_sem, hv, q0, q1]) rfl ⟨rfl, (BB.out.setCell (Nat.le_refl _) _).setCell (Nat.le_refl _) _⟩
      · obtain ⟨e1, e2⟩ := NO.out (fun h => hT h.2.2)
        subst e1 e2
        have l1 := list_same T s
        rw [decide_eq_false hT] at l1
        clear OK NO SE HS hT
        unfold hv at S1
        go_enter Try.func32, Try.ntmps32
        go_wp2_with fail
        refine (C1.out _).mono ?_
        rintro e w1 ⟨rfl, rfl⟩
        go_wp2_with fail
        refine (C2.out _).mono ?_
        rintro e w1 ⟨rfl, rfl⟩
        go_wp2_with fail
        refine (S1.out _).mono ?_
        rintro e w2 ⟨rfl, b2⟩
        have HK := hid (pair_keep (g := N) (half := b) b2)
        have BB := hid ((BA2.out _ _).trans (b2.mono (BA2.out _ _).size))
        obtain ⟨m0, m1, m2, m3, f0, f1⟩ := HK.out
        have M0 := hid m0
        have r0 := blk_cell (l := [.int .i64 0, .int .i64 0]) m0 (i := 0) rfl
        have r1 := blk_cell (l := [.int .i64 0, .int .i64 0]) m0 (i := 1) rfl
        clear m0 m1
        clear b2
        go_wp2
        have hE := set2 (a := .int .i64 0) (b := .int .i64 0) M0.out
        have q0 := blk_cell (l := [.int .i64 0, .int .i64 0]) hE (i := 0) rfl
        have q1 := blk_cell (l := [.int .i64 0, .int .i64 0]) hE (i := 1) rfl
        exact bodyPost_ret (v := .tuple #[hv 0 0, .bool false]) (by simp [results, Try.results32, go_sem, hv, q0, q1]) rfl ⟨rfl, (BB.out.setCell (Nat.le_refl _) _).setCell (Nat.le_refl _) _⟩
    · obtain ⟨e1, e2⟩ := NO.out (fun h => by omega)
      subst e1 e2
      clear OK NO SE HS
      go_enter Try.func32, Try.ntmps32
      go_wp2_with fail
      refine (C1.out _).mono ?_
      rintro e w1 ⟨rfl, rfl⟩
      go_wp2_with fail
      refine (C2.out _).mono ?_
      rintro e w1 ⟨rfl, rfl⟩
      go_wp2
      exact bodyPost_ret (v := .tuple #[hv 0 0, .bool false]) (by simp [results, Try.results32, go_sem, hv]) rfl ⟨rfl, BA2.out _ _⟩

end Go.Proofs.Ytaojoecmbgmhoaa.Wst
