/-
  The walk of the law DiskLays: what is laid into a region is read, sector by sector, with noughts behind, whatever was written ahead of it; it lasts; the law returns true, and nothing that was in memory has turned. Condition: none but that the arguments lie in memory as such do.
-/
import Derived.Test.YtffhnkljmalbiaaDkQ
import Derived.Lib.MinMax
import Derived.Deep.RegionHeld3
namespace Go.Proofs.Ytffhnkljmalbiaa.Wd
open Go.ChangeShapes Go.WideShapes Go.ChangeAt Go.RowKit Go.Proofs.Ytffhnkljmalbiaa.M Go.Proofs.Ytffhnkljmalbiaa.Wv

theorem bx_data (s : ByteArray) (j : Nat) : bx s j = (s.data.toList.getD j 0).toNat := by
  by_cases h : j < s.size
  · rw [bx_get h]
    have h' : j < s.data.toList.length := by rw [Array.length_toList]; exact h
    rw [List.getD_eq_getElem?_getD, List.getElem?_eq_getElem h']
    rfl
  · rw [bx_none h, List.getD_eq_getElem?_getD, List.getElem?_eq_none (by rw [Array.length_toList]; exact Nat.not_lt.1 h)]
    rfl
theorem bx_app (a b : ByteArray) (j : Nat) : bx (a ++ b) j = if j < a.size then bx a j else bx b (j - a.size) := by
  have e : (a ++ b).data.toList = a.data.toList ++ b.data.toList := by
    rw [ByteArray.data_append, Array.toList_append]
  have hl : a.data.toList.length = a.size := Array.length_toList
  rw [bx_data, e]
  split
  · rw [List.getD_eq_getElem?_getD, List.getElem?_append_left (by omega), ← List.getD_eq_getElem?_getD, bx_data]
  · rw [List.getD_eq_getElem?_getD, List.getElem?_append_right (by omega), hl, ← List.getD_eq_getElem?_getD, bx_data]
theorem bx_ext (a : ByteArray) (p q j : Nat) (h : p + j < q) : bx (a.extract p q) j = bx a (p + j) := by
  have e : (a.extract p q).data.toList = (a.data.toList.drop p).take (q - p) := by
    rw [ByteArray.data_extract, Array.toList_extract]
  rw [bx_data, e, bx_data, List.getD_eq_getElem?_getD, List.getD_eq_getElem?_getD, List.getElem?_take, if_pos (by omega), List.getElem?_drop]

/-- What a text laid into n sectors is. -/
def wholeB (x : ByteArray) (n : Nat) : ByteArray := img (fun k => cut64 x (64 * k)) n
theorem wholeB_size (x : ByteArray) (n : Nat) : (wholeB x n).size = 64 * n := img_size _ _
theorem wholeB_bx (x : ByteArray) (n j : Nat) (h : j < 64 * n) : bx (wholeB x n) j = bx x j := by
  unfold wholeB
  rw [img_bx _ _ _ h, cut64_bx _ _ _ (by omega)]
  congr 1
  omega
theorem noughts_bx (n j : Nat) : bx (img (fun _ => noB) n) j = 0 := by
  by_cases h : j < 64 * n
  · rw [img_bx _ _ _ h]
    have := noB_bt (j % 64)
    rw [bt_bx] at this
    omega
  · exact bx_none (by rw [img_size]; exact h)
theorem whole_code (x : ByteArray) (n : Nat) : (x ++ img (fun _ => noB) n).extract 0 (64 * n) = wholeB x n := by
  apply ext_bx
  · rw [ByteArray.size_extract, ByteArray.size_append, img_size, wholeB_size]; omega
  · intro j hj
    rw [ByteArray.size_extract, ByteArray.size_append, img_size] at hj
    rw [bx_ext _ _ _ _ (by omega), wholeB_bx _ _ _ (by omega), Nat.zero_add, bx_app]
    split
    · rfl
    · rw [noughts_bx, bx_none ‹_›]
theorem whole_cut (x : ByteArray) (n i : Nat) (h : i < n) : (wholeB x n).extract (64 * i) (64 * i + 64) = cut64 x (64 * i) := by
  apply ext_bx
  · rw [ByteArray.size_extract, wholeB_size, cut64_size]; omega
  · intro j hj
    rw [ByteArray.size_extract, wholeB_size] at hj
    rw [bx_ext _ _ _ _ (by omega), wholeB_bx _ _ _ (by omega), cut64_bx _ _ _ (by omega)]

/-- What holds of the disk while it is written. -/
structure InvL (n j : Nat) (d : Dk) : Prop where
  k : d.k = 2
  off : d.off = false
  ask : d.ask = none
  n : (d.r 1).n = n
  q : ∀ i, i < d.k → (d.r i).q.length ≤ j
theorem InvL.write {n j : Nat} {d : Dk} (h : InvL n j d) (b : Int) (x : ByteArray) : InvL n (j + 1) (d.write 1 b x) := by
  have hq := q_write h.q 1 b x
  by_cases c : d.preW 1 b x = 0
  · have e : d.write 1 b x = d.put 1 b x := by
      unfold Dk.write
      rw [if_pos c]
      exact (now_none (d := d.put 1 b x) h.ask).2
    rw [e] at hq ⊢
    exact ⟨h.k, h.off, h.ask, h.n, hq⟩
  · have e : d.write 1 b x = d := if_neg c
    rw [e] at hq ⊢
    exact ⟨h.k, h.off, h.ask, h.n, hq⟩
theorem InvL.has {n j : Nat} {d : Dk} (h : InvL n j d) : d.has 1 = true := by
  rw [has_iff, h.k]
  omega
theorem InvL.lay {n j : Nat} {d : Dk} (h : InvL n j d) (x : ByteArray) : InvL n j (d.lay 1 x) ∧ (∀ i : Nat, i < n → (d.lay 1 x).readE 1 (i : Int) = 0 ∧ (d.lay 1 x).readB 1 (i : Int) = cut64 x (64 * i)) ∧ ∀ K, ((d.lay 1 x).crash K).image 1 = wholeB x n := by
  have hq := q_lay h.q 1 x
  have e : d.lay 1 x = d.at 1 ((d.r 1).lay x) := if_pos h.has
  rw [e] at hq ⊢
  have I : InvL n j (d.at 1 ((d.r 1).lay x)) := ⟨h.k, h.off, h.ask, h.n, hq⟩
  refine ⟨I, fun i hi => ?_, fun K => ?_⟩
  · have h1 : (d.at 1 ((d.r 1).lay x)).readE 1 (i : Int) = 0 := by
      have hp : (d.at 1 ((d.r 1).lay x)).preF 1 = 0 := by
        unfold Dk.preF
        rw [I.off, I.has]
        rfl
      rw [readE_in hp, if_pos]
      have := I.n
      have e1 : (1 : Int).toNat = 1 := rfl
      rw [e1, this]
      omega
    refine ⟨h1, ?_⟩
    unfold Dk.readB
    rw [if_pos h1]
    have e2 : (d.at 1 ((d.r 1).lay x)).r 1 = (d.r 1).lay x := upd_at d.r 1 ((d.r 1).lay x)
    show ((d.at 1 ((d.r 1).lay x)).r 1).rd i = _
    rw [e2, rd_nil rfl]
    rfl
  · have hh : ((d.at 1 ((d.r 1).lay x)).crash K).has 1 = true := I.has
    unfold Dk.image
    rw [if_pos hh]
    have e2 : (d.at 1 ((d.r 1).lay x)).r 1 = (d.r 1).lay x := upd_at d.r 1 ((d.r 1).lay x)
    show img (((d.at 1 ((d.r 1).lay x)).r 1).set (kb K 1)).s (((d.at 1 ((d.r 1).lay x)).r 1).set (kb K 1)).n = _
    rw [e2]
    have e3 : (((d.r 1).lay x).set (kb K 1)).n = n := h.n
    rw [e3]
    rfl

theorem conv_lc {W : World} {g n : Nat} {s : Nat → ByteArray} (h : W.heap[g]? = some (.cells (lc s n).toArray 5 (0, 0))) : (convert 55 9 (.slice (some ⟨g, 0, none⟩) (64 * n) (64 * n))).run Try.prog W = .ok (.string (img s n)) W := by
  have := run_convert_bytes_arg (P := Try.prog) (w := W) 55 5 Try.underlying55 Try.underlying5 g 0 (64 * n) (64 * n) ((List.range (64 * n)).map fun j => bt (s (j / 64)) (j % 64)) (by simp) (fun j hj => by
    rw [Nat.zero_add, blk_cell h (lc_get _ _ j hj)]
    simp [List.getD, hj]) 9 Try.underlying9
  rw [str_img] at this
  exact this

theorem max_mod (s : Int) (m : Nat) (hm : 0 < m) : ∃ p : Nat, p < m ∧ (if 0 < s then s else 0).tmod m = (p : Int) ∧ (max 0 s).tmod m = (p : Int) ∧ (max 0 s) % m = (p : Int) ∧ (if 0 < s then s else 0) % m = (p : Int) := by
  have e : (if 0 < s then s else 0) = max 0 s := by split <;> omega
  have h0 : 0 ≤ max 0 s := by omega
  have h1 := Int.emod_nonneg (max 0 s) (show (m : Int) ≠ 0 by omega)
  have h2 := Int.emod_lt_of_pos (max 0 s) (show (0 : Int) < m by omega)
  refine ⟨(max 0 s % m).toNat, by omega, ?_, ?_, by omega, ?_⟩
  · rw [e, Int.tmod_eq_emod_of_nonneg h0]; omega
  · rw [Int.tmod_eq_emod_of_nonneg h0]; omega
  · rw [e]; omega
theorem min_int (n m : Nat) : (if (m : Int) < (n : Int) then (m : Int) else (n : Int)) = ((min n m : Nat) : Int) ∧ min (n : Int) (m : Int) = ((min n m : Nat) : Int) := ⟨by split <;> omega, by omega⟩

set_option maxRecDepth 100000 in
set_option maxHeartbeats 600000 in
theorem lawLays (size : Int) (data : ByteArray) (ao : Option Addr) (len cap : Nat) (A : Nat → Av) (w : World) (_ : -9223372036854775808 ≤ size) (_ : size < 9223372036854775808) (hdata : data.size ≤ 140737488355328) (hcap : len ≤ cap) (_ : cap ≤ maxLen) (hA : Acts w ao len A) :
    Calls Try.prog 8 #[.int .i64 size, .string data, .slice ao len cap] w fun e w' => e = .returned (.bool true) ∧ Below w.heap.size w w' := by
  obtain ⟨n, hn, s1, s2, s3', s4⟩ := max_mod size 40 (by omega)
  have s3 : max 0 size % 40 = (n : Int) := s3'
  clear s1 s2 s3' s4
  have k2 : min (len : Int) 30 = ((min len 30 : Nat) : Int) := (min_int len 30).2
  obtain ⟨k, hk⟩ : ∃ k, k = min len 30 := ⟨_, rfl⟩
  have hk30 : k ≤ 30 := by omega
  have hkl : k ≤ len := by omega
  rw [← hk] at k2
  have HK := hid hk
  clear hk
  have HA := hid hA
  clear hA
  have p2 : min (data.size : Int) 4000 = ((min data.size 4000 : Nat) : Int) := (min_int data.size 4000).2
  have hp : (min data.size 4000) ≤ data.size := by omega
  have hp4 : (min data.size 4000) ≤ 4000 := by omega
  generalize hpg : min data.size 4000 = p at p2 hp hp4
  have HPG := hid hpg
  clear hpg
  obtain ⟨D0, hD0⟩ : ∃ D0 : Nat, D0 = w.heap.size + 1 := ⟨_, rfl⟩
  have bA : Below w.heap.size w (w.alloc (.cells #[.int .i64 3, .int .i64 (n : Int)] 3)) := (Below.refl _ _).alloc (Nat.le_refl _) _
  have CN := hid (One.new bA (some ⟨w.heap.size, 0, none⟩) 2 2 (fun j => if j = 0 then 3 else (n : Int)) (by omega) (by omega) (fun j hj => ⟨w.heap.size, 0, rfl, by simp, by
    match j, hj with
    | 0, _ => exact blk_cell (l := [_, _]) (heap_alloc_last w _) rfl
    | 1, _ => exact blk_cell (l := [_, _]) (heap_alloc_last w _) rfl⟩))
  rw [show (w.alloc (.cells #[.int .i64 3, .int .i64 (n : Int)] 3)).heap.size = D0 by rw [hD0]; simp] at CN
  have HD0 := hid hD0
  clear bA hD0
  have SZ : ∀ x : ByteArray, 64 * n ≤ 4096 := fun _ => by omega
  have hn64 : 64 * n ≤ 4096 := by omega
  go_enter Try.func8, Try.ntmps8
  go_wp2_with fail
  rw [s3]
  clear s3
  refine CN.out.mono ?_
  rintro e w1 ⟨rfl, o1, _⟩
  have I1 : InvL n 0 (newD (fun j => if j = 0 then 3 else (n : Int)) (min 2 8)) := ⟨rfl, rfl, rfl, by
    show szN (n : Int) = n
    unfold szN
    omega, fun _ _ => Nat.zero_le _⟩
  have O1 := hid (show ∃ d F, InvL n 0 d ∧ One w w1 D0 d F from ⟨_, _, I1, o1⟩)
  clear o1 I1 CN
  go_wp2
  go_loopw [26] (fun iv wr => ∃ j : Nat, j ≤ k ∧ iv = .int .i64 (j : Int) ∧ ∃ d F, InvL n j d ∧ One w wr D0 d F) (fun iv _ => k - (intOf iv).toNat)
  case atStart => exact ⟨0, Nat.zero_le _, rfl, O1.out⟩
  case round =>
    obtain ⟨j, hj, rfl, d, F, I, o⟩ := hrel
    by_cases hlt : j < k
    · obtain ⟨g, off, rfl, hg, a0, a1, a2, a3, a4, a5⟩ := act_cells HA.out o.bel (by omega : j < len)
      have hok := HA.out.1 j (by omega)
      have u2 : min ((A j).data.size : Int) 60 = ((min (A j).data.size 60 : Nat) : Int) := (min_int (A j).data.size 60).2
      have hdz := hok.data
      have hu : (min (A j).data.size 60) ≤ (A j).data.size := by omega
      have hu6 : (min (A j).data.size 60) ≤ 60 := by omega
      generalize min (A j).data.size 60 = u at u2 hu hu6
      generalize (A j).act = y0 at *
      generalize (A j).reg = y1 at *
      generalize (A j).sec = y2 at *
      generalize (A j).num = y3 at *
      generalize (A j).data = x at *
      generalize (A j).ka = ka at *
      generalize (A j).K.length = kl at *
      generalize (A j).kc = kc at *
      clear hok
      obtain ⟨X, hX⟩ : ∃ X, X = wr.alloc (.cells #[.int .i64 y0, .int .i64 y1, .int .i64 y2, .int .i64 y3, .string x, .slice ka kl kc] 33) := ⟨_, rfl⟩
      have hXs : X.heap.size = wr.heap.size + 1 := by rw [hX]; simp
      have hb : X.heap[wr.heap.size]? = some (.cells #[.int .i64 y0, .int .i64 y1, .int .i64 y2, .int .i64 y3, .string x, .slice ka kl kc] 33) := by rw [hX]; exact heap_alloc_last wr _
      have oX : One w X D0 d F := by rw [hX]; exact o.below ((Below.refl _ _).alloc (Nat.le_refl _) _)
      have hFl : ∀ b, F b → b < wr.heap.size := by
        obtain ⟨L, l⟩ := o.at_
        exact l.lt
      have SS : ∀ W : World, W.heap[wr.heap.size]? = X.heap[wr.heap.size]? → W.cell? ⟨wr.heap.size, 2, none⟩ = some (.int .i64 y2) ∧ W.cell? ⟨wr.heap.size, 4, none⟩ = some (.string x) := fun W hW => ⟨blk_cell (l := [_, _, _, _, _, _]) (hW.trans hb) rfl, blk_cell (l := [_, _, _, _, _, _]) (hW.trans hb) rfl⟩
      have CS : Hid (∀ W, Below X.heap.size X W → Calls Try.prog 22 #[.string (x.extract 0 u)] W fun e w' => e = .returned (.string (secB (x.extract 0 u))) ∧ Below X.heap.size X w' ∧ (w'.cell? ⟨wr.heap.size, 2, none⟩ = some (.int .i64 y2) ∧ w'.cell? ⟨wr.heap.size, 4, none⟩ = some (.string x))) := fun W hW =>
        (sector (x.extract 0 u) W (by rw [ByteArray.size_extract]; unfold maxLen; omega)).mono fun e w' ⟨h1, h2⟩ => ⟨h1, hW.trans (h2.mono hW.size), SS w' ((hW.trans (h2.mono hW.size)).block _ (by omega))⟩
      have CW : Hid (∀ (b : Int) W, Below X.heap.size X W → Calls Try.prog 21 #[.pointer (some ⟨D0, 0, none⟩), .int .i64 1, .int .i64 b, .string (secB (x.extract 0 u))] W fun e w' => ∃ v, e = .returned (.int .i64 v) ∧ Hid (∃ d F, InvL n (j + 1) d ∧ One w w' D0 d F) ∧ (w'.cell? ⟨wr.heap.size, 2, none⟩ = some (.int .i64 y2) ∧ w'.cell? ⟨wr.heap.size, 4, none⟩ = some (.string x))) := fun b W hW =>
        ((oX.below hW).write (fun i hi => by have := I.q i hi; omega) 1 b (secB (x.extract 0 u))).mono fun e w' ⟨h1, h2, h3⟩ => ⟨_, h1, ⟨_, _, I.write _ _, h2⟩, SS w' ((h3.block _ (by have := hW.size; omega) (fun hf => by have := hFl _ hf; omega)).trans (hW.block _ (by omega)))⟩
      have hS := SS X rfl
      have hB : Below X.heap.size X X.drew := (Below.refl _ _).drew
      generalize secB (x.extract 0 u) = sx at CS CW
      have HX := hid hX
      clear hb oX hFl SS o I hX
      go_wp2_with fail
      rw [← HX.out]
      go_region_held3 (fun w' => w'.cell? ⟨wr.heap.size, 2, none⟩ = some (.int .i64 y2) ∧ w'.cell? ⟨wr.heap.size, 4, none⟩ = some (.string x))
        (first | exact hS | go_keep)
        (first | (go_at_call 22; refine (CS.out _ hB).mono ?_; rintro e w2 ⟨rfl, hB, hS⟩) | (go_at_call 21; refine (CW.out _ _ hB).mono ?_; rintro e w4 ⟨v, rfl, O4, hS⟩))
      all_goals try go_wp2
      all_goals go_roundw
      all_goals first | exact ⟨j + 1, by omega, by go_num, O4.out⟩ | (simp [intOf] <;> omega)
    · have hE : j = k := by omega
      subst hE
      obtain ⟨J, R, IM⟩ := I.lay (data.extract 0 p)
      have CL := hid (o.lay 1 (data.extract 0 p))
      have hxs : (data.extract 0 p).size ≤ 4000 := by rw [ByteArray.size_extract]; omega
      have hW := whole_code (data.extract 0 p) n
      have hC := whole_cut (data.extract 0 p) n
      have hWs := wholeB_size (data.extract 0 p) n
      have RR := hid R
      have II := hid IM
      have JJ := hid J
      have hmk : ∀ u, (Instr.makeSlice 55 (.int .i64 (64 * (n : Int))) (.int .i64 (64 * (n : Int)))).run Try.prog u = .ok (.slice (some ⟨u.heap.size, 0, none⟩) (64 * n) (64 * n)) (u.alloc (.cells (lc (fun _ => noB) n).toArray 5)) := fun u => by
        have := make_lc n (by omega) u
        rw [Int.mul_comm] at this
        exact this
      have hcv : ∀ u : World, (convert 55 9 (.slice (some ⟨u.heap.size, 0, none⟩) (64 * n) (64 * n))).run Try.prog (u.alloc (.cells (lc (fun _ => noB) n).toArray 5)) = .ok (.string (img (fun _ => noB) n)) (u.alloc (.cells (lc (fun _ => noB) n).toArray 5)) := fun u => conv_lc (heap_alloc_last u _)
      have hzs := img_size (fun _ => noB) n
      clear R IM J o I
      generalize hY : data.extract 0 p = x at *
      generalize hY2 : wholeB x n = wh at *
      generalize (lc (fun _ => noB) n).toArray = M at hmk hcv
      generalize img (fun _ => noB) n = Z at hcv hzs hW
      have HW := hid hW
      have HC := hid hC
      clear hW hC
      clear hY2
      have HY := hid hY
      clear hY
      go_wp2_with fail
      rw [HY.out]
      refine CL.out.mono ?_
      rintro e w2 ⟨rfl, o2, _⟩
      have O2 := hid (o2.below ((Below.refl w2.heap.size w2).alloc (Nat.le_refl _) (.cells M 5)))
      clear o2 CL
      generalize d.lay 1 x = dl at *
      go_wp2
      rw [HW.out]
      generalize hw3 : w2.alloc (.cells M 5) = w3 at *
      have hcv' := hcv
      clear hcv hmk hw3 hcv'
      go_loop [63] (fun iv => ∃ i : Nat, i ≤ n ∧ iv = .int .i64 (i : Int)) (fun iv => n - (intOf iv).toNat)
      case atStart => exact ⟨0, Nat.zero_le _, rfl⟩
      case round =>
        obtain ⟨i, hi, rfl⟩ := hrel
        by_cases hin : i < n
        · obtain ⟨r1, r2⟩ := RR.out i hin
          have CR := hid (O2.out.read (fun m hm => by have := JJ.out.q m hm; omega) 1 (i : Int))
          rw [r1, r2] at CR
          have hcut := HC.out i hin
          clear r1 r2
          generalize cut64 x (64 * i) = ct at CR hcut
          go_wp2_with fail
          refine CR.out.mono ?_
          rintro e w4 ⟨rfl, rfl⟩
          go_wp2
          go_round
          case rel => exact ⟨i + 1, by omega, by go_num⟩
          case measure => simp [intOf] <;> omega
        · have hE : i = n := by omega
          subst hE
          have bA : Below w3.heap.size w3 (w3.alloc (.cells #[.int .u64 18446744073709551615, .int .u64 18446744073709551615] 49)) := (Below.refl _ _).alloc (Nat.le_refl _) _
          have CC := hid ((O2.out.below bA).crash (fun m hm => by have := JJ.out.q m hm; omega) (K := [18446744073709551615, 18446744073709551615]) (ao := some ⟨w3.heap.size, 0, none⟩) (.inr ⟨w3.heap.size, 0, _, _, _, rfl, heap_alloc_last w3 _, .inr rfl, fun m hm => by
            match m, hm with
            | 0, _ => rfl
            | 1, _ => rfl⟩) (fun y hy => by simp at hy; omega) 2)
          have hI := II.out [18446744073709551615, 18446744073709551615]
          have HI := hid hI
          clear bA hI
          generalize dl.crash [18446744073709551615, 18446744073709551615] = dc' at CC HI
          simp only [List.length_cons, List.length_nil] at CC
          go_wp2_with fail
          refine CC.out.mono ?_
          rintro e w4 ⟨rfl, o4, _⟩
          have O4 := hid o4
          clear o4 CC
          go_wp2_with fail
          refine (wakes _).mono ?_
          rintro e w5 ⟨rfl, b5⟩
          have O5 := hid (O4.out.below b5)
          have CI := hid (O5.out.image 1)
          rw [HI.out] at CI
          clear b5
          go_wp2_with fail
          refine CI.out.mono ?_
          rintro e w6 ⟨rfl, rfl⟩
          go_wp2
          go_ret
          exact ⟨rfl, O5.out.bel⟩

end Go.Proofs.Ytffhnkljmalbiaa.Wd
