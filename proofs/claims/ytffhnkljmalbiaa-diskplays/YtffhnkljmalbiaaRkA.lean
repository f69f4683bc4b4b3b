/-
  The walks of the document's Sectors, Read and Image: each answers what the disk as plain data says, and leaves memory as it is.
-/
import Derived.Test.YtffhnkljmalbiaaRkRep
namespace Go.Proofs.Ytffhnkljmalbiaa.Wr
open Go.ChangeShapes Go.WideShapes Go.ChangeAt Go.RowKit Go.Proofs.Ytffhnkljmalbiaa.M Go.Proofs.Ytffhnkljmalbiaa.Wd

theorem RkL.cD {w : World} {D : Nat} {d : Dk} {F : Nat → Prop} {L : Lr} (h : RkL w D d F L) : w.cell? ⟨D, 0, none⟩ = some (.slice (pt d.k L.R) d.k (cp d.k L.rc)) ∧ w.cell? ⟨D, 1, none⟩ = some (.bool d.off) ∧ w.cell? ⟨D, 2, none⟩ = some (.int .i64 L.ta) ∧ w.cell? ⟨D, 3, none⟩ = some (.int .i64 (aL d.ask)) ∧ w.cell? ⟨D, 4, none⟩ = some (.slice L.ka (aK d.ask).length L.kc) ∧ (∀ j, w.frozen? ⟨D, j, none⟩ = false) := by
  have := h.dk
  refine ⟨?_, ?_, ?_, ?_, ?_, fun j => blk_free this j⟩ <;> simp [World.cell?, this]
theorem RkL.cR {w : World} {D : Nat} {d : Dk} {F : Nat → Prop} {L : Lr} (h : RkL w D d F L) {i : Nat} (hi : i < d.k) : w.cell? ⟨L.R, i, none⟩ = some (.pointer (some ⟨L.rb i, 0, none⟩)) := by
  obtain ⟨l, h1, h2, h3, h4, h5⟩ := h.rows (by omega)
  exact blk_cell h1 (h5 i hi)
theorem RkL.cG {w : World} {D : Nat} {d : Dk} {F : Nat → Prop} {L : Lr} (h : RkL w D d F L) {i : Nat} (hi : i < d.k) : w.cell? ⟨L.rb i, 0, none⟩ = some (.slice (pt (d.r i).n (L.lb i)) (d.r i).n (cp (d.r i).n (L.lm i))) ∧ w.cell? ⟨L.rb i, 1, none⟩ = some (.slice (pt (d.r i).q.length (L.qb i)) (d.r i).q.length (cp (d.r i).q.length (L.qm i))) ∧ (∀ j, w.frozen? ⟨L.rb i, j, none⟩ = false) := by
  have := h.reg i hi
  refine ⟨?_, ?_, fun j => blk_free this j⟩ <;> simp [World.cell?, this]
theorem RkL.cL {w : World} {D : Nat} {d : Dk} {F : Nat → Prop} {L : Lr} (h : RkL w D d F L) {i : Nat} (hi : i < d.k) {k : Nat} (hk : k < (d.r i).n) : w.cell? ⟨L.lb i, k, none⟩ = some (.string ((d.r i).s k)) ∧ w.frozen? ⟨L.lb i, k, none⟩ = false := by
  obtain ⟨l, h1, h2, h3, h4, h5⟩ := h.las i hi (by omega)
  refine ⟨blk_cell h1 ?_, blk_free h1 _⟩
  rw [take_get h5 hk]
  exact sl_get _ _ _ hk
theorem RkL.cQ {w : World} {D : Nat} {d : Dk} {F : Nat → Prop} {L : Lr} (h : RkL w D d F L) {i : Nat} (hi : i < d.k) {t : Nat} (ht : t < (d.r i).q.length) : w.cell? ⟨L.qb i, t * 2, none⟩ = some (.int .i64 ((qx (d.r i).q t).1 : Int)) ∧ w.cell? ⟨L.qb i, t * 2 + 1, none⟩ = some (.string (qx (d.r i).q t).2) := by
  obtain ⟨l, h1, h2, h3, h4, h5⟩ := h.que i hi (by omega)
  have := qs_get _ _ ht
  refine ⟨blk_cell h1 ?_, blk_cell h1 ?_⟩
  · rw [take_get h5 (by omega)]; exact this.1
  · rw [take_get h5 (by omega)]; exact this.2

set_option maxRecDepth 100000 in
theorem sectorsR {w : World} {D : Nat} {d : Dk} {F : Nat → Prop} {L : Lr} (h : RkL w D d F L) (a : Int) :
    Calls Try.prog 16 #[.pointer (some ⟨D, 0, none⟩), .int .i64 a] w fun e w' => e = .returned (.int .i64 (d.secs a : Int)) ∧ w = w' := by
  have c1 := h.cD.1
  have hk := h.ok.k
  by_cases c : d.has a = true
  · obtain ⟨i, rfl, hi⟩ := has_nat c
    have hE : Hid (d.secs (i : Int) = (d.r i).n) := if_pos c
    have r1 := h.cR hi
    have g1 := (h.cG hi).1
    have hn := (h.ok.r i hi).n
    rw [pt_pos _ (by omega), cp_pos _ (by omega)] at c1
    clear c
    go_enter Try.func16, Try.ntmps16
    go_wp2
    go_ret
    exact ⟨by rw [hE.out]; rfl, rfl⟩
  · have hE : Hid (d.secs a = 0) := if_neg c
    have c0 : ¬ (0 ≤ a ∧ a < d.k) := fun h => c (has_iff.2 h)
    clear c
    rcases Int.lt_or_le a 0 with h0 | h0
    all_goals
      go_enter Try.func16, Try.ntmps16
      go_wp2
      go_ret
      exact ⟨by rw [hE.out]; rfl, rfl⟩

theorem img_succ (s : Nat → ByteArray) (n : Nat) (h : (s n).size = 64) : img s n ++ s n = img s (n + 1) := by
  apply ext_bx
  · rw [ByteArray.size_append, img_size, img_size, h]; omega
  · intro j hj
    rw [ByteArray.size_append, img_size, h] at hj
    have hl : ∀ (a b : ByteArray) (j : Nat), bx (a ++ b) j = if j < a.size then bx a j else bx b (j - a.size) := by
      intro a b j
      have key : ∀ (s : ByteArray) (j : Nat), bx s j = (s.data.toList.getD j 0).toNat := by
        intro s j
        by_cases h : j < s.size
        · rw [bx_get h]
          have h' : j < s.data.toList.length := by rw [Array.length_toList]; exact h
          rw [List.getD_eq_getElem?_getD, List.getElem?_eq_getElem h']
          rfl
        · rw [bx_none h, List.getD_eq_getElem?_getD, List.getElem?_eq_none (by rw [Array.length_toList]; exact Nat.not_lt.1 h)]
          rfl
      have e : (a ++ b).data.toList = a.data.toList ++ b.data.toList := by rw [ByteArray.data_append, Array.toList_append]
      have hl : a.data.toList.length = a.size := Array.length_toList
      rw [key, e]
      split
      · rw [List.getD_eq_getElem?_getD, List.getElem?_append_left (by omega), ← List.getD_eq_getElem?_getD, key]
      · rw [List.getD_eq_getElem?_getD, List.getElem?_append_right (by omega), hl, ← List.getD_eq_getElem?_getD, key]
    rw [hl, img_size]
    split
    · rw [img_bx _ _ _ ‹_›, img_bx s (n + 1) j (by omega)]
    · rw [img_bx s (n + 1) j (by omega)]
      have e1 : j / 64 = n := by omega
      have e2 : j % 64 = j - 64 * n := by omega
      rw [e1, e2]
theorem img_zero (s : Nat → ByteArray) : img s 0 = ⟨#[]⟩ := rfl

set_option maxRecDepth 100000 in
theorem imageR {w : World} {D : Nat} {d : Dk} {F : Nat → Prop} {L : Lr} (h : RkL w D d F L) (a : Int) :
    Calls Try.prog 29 #[.pointer (some ⟨D, 0, none⟩), .int .i64 a] w fun e w' => e = .returned (.string (d.image a)) ∧ w = w' := by
  have c1 := h.cD.1
  have hk := h.ok.k
  by_cases c : d.has a = true
  · obtain ⟨i, rfl, hi⟩ := has_nat c
    have hE : Hid (d.image (i : Int) = img (d.r i).s (d.r i).n) := if_pos c
    have r1 := h.cR hi
    have g1 := (h.cG hi).1
    have hn := (h.ok.r i hi).n
    have hs := hid (h.ok.r i hi).s
    rw [pt_pos _ (by omega), cp_pos _ (by omega)] at c1
    clear c
    go_enter Try.func29, Try.ntmps29
    go_wp2
    go_loop [5, 6] (fun sv iv => ∃ j : Nat, j ≤ (d.r i).n ∧ iv = .int .i64 (j : Int) ∧ sv = .string (img (d.r i).s j)) (fun _ iv => (d.r i).n - (intOf iv).toNat)
    case atStart => exact ⟨0, Nat.zero_le _, rfl, rfl⟩
    case round =>
      obtain ⟨j, hj, rfl, rfl⟩ := hrel
      by_cases hlt : j < (d.r i).n
      · have l1 := (h.cL hi hlt).1
        have hsz := img_size (d.r i).s j
        have hss := hs.out j
        have hnx := hid (img_succ (d.r i).s j (hs.out j))
        rw [pt_pos _ (by omega), cp_pos _ (by omega)] at g1
        generalize (d.r i).s j = x at *
        generalize img (d.r i).s j = y at *
        go_wp2
        go_round
        case rel => exact ⟨j + 1, by omega, by go_num, by rw [← hnx.out]⟩
        case measure => simp [intOf] <;> omega
      · have hE2 : j = (d.r i).n := by omega
        rw [← hE2] at hE g1
        generalize img (d.r i).s j = y at *
        go_wp2
        go_ret
        exact ⟨by rw [hE.out]; rfl, rfl⟩
  · have hE : Hid (d.image a = ⟨#[]⟩) := if_neg c
    have c0 : ¬ (0 ≤ a ∧ a < d.k) := fun h => c (has_iff.2 h)
    clear c
    rcases Int.lt_or_le a 0 with h0 | h0
    all_goals
      go_enter Try.func29, Try.ntmps29
      go_wp2
      go_ret
      exact ⟨by rw [hE.out]; rfl, rfl⟩

set_option maxRecDepth 100000 in
theorem readR {w : World} {D : Nat} {d : Dk} {F : Nat → Prop} {L : Lr} (h : RkL w D d F L) (hq : ∀ j, j < d.k → (d.r j).q.length ≤ 1048576) (a b : Int) :
    Calls Try.prog 30 #[.pointer (some ⟨D, 0, none⟩), .int .i64 a, .int .i64 b] w fun e w' => e = .returned (.tuple #[.string (d.readB a b), .int .i64 (d.readE a b)]) ∧ w = w' := by
  obtain ⟨c1, c2, _⟩ := h.cD
  have hk := h.ok.k
  by_cases co : d.off = true
  · have hE : Hid (d.readE a b = 11 ∧ d.readB a b = ⟨#[]⟩) := by
      have e : d.readE a b = 11 := if_pos co
      exact ⟨e, by unfold Dk.readB; rw [e]; rfl⟩
    rw [co] at c2
    clear co c1
    go_enter Try.func30, Try.ntmps30
    go_wp2
    go_ret2
    exact ⟨by rw [hE.out.1, hE.out.2]; rfl, rfl⟩
  · have co' : d.off = false := by simpa using co
    rw [co'] at c2
    by_cases c : d.has a = true
    · obtain ⟨i, rfl, hi⟩ := has_nat c
      have hp : d.preF (i : Int) = 0 := by unfold Dk.preF; rw [co', c]; rfl
      have r1 := h.cR hi
      obtain ⟨g1, g2, _⟩ := h.cG hi
      have hn := (h.ok.r i hi).n
      have hR := readE_in (b := b) hp
      rw [Int.toNat_natCast] at hR
      rw [pt_pos _ (by omega), cp_pos _ (by omega)] at c1
      clear c co hp
      by_cases cb : 0 ≤ b ∧ b < (d.r i).n
      · rw [if_pos cb] at hR
        obtain ⟨s, rfl⟩ := Int.eq_ofNat_of_zero_le cb.1
        have hs : s < (d.r i).n := by omega
        have hB : Hid (d.readB (i : Int) (s : Int) = (d.r i).rd s) := by show _ = _; unfold Dk.readB; rw [if_pos hR]; rfl
        have HR := hid hR
        have l1 := (h.cL hi hs).1
        have hqi := hq i hi
        rw [pt_pos _ (by omega), cp_pos _ (by omega)] at g1
        clear hR cb
        go_enter Try.func30, Try.ntmps30
        go_wp2
        go_loop [9, 10] (fun sv iv => ∃ j : Nat, j ≤ (d.r i).q.length ∧ iv = .int .i64 (j : Int) ∧ sv = .string (rdk (d.r i) s j)) (fun _ iv => (d.r i).q.length - (intOf iv).toNat)
        case atStart => exact ⟨0, Nat.zero_le _, rfl, rfl⟩
        case round =>
          obtain ⟨j, hj, rfl, rfl⟩ := hrel
          by_cases hlt : j < (d.r i).q.length
          · obtain ⟨q1, q2⟩ := h.cQ hi hlt
            rw [pt_pos _ (by omega), cp_pos _ (by omega)] at g2
            by_cases ct : (qx (d.r i).q j).1 = s
            · have hnx := hid (rdk_hit (d.r i) s j ct)
              rw [ct] at q1
              clear ct
              generalize (qx (d.r i).q j).2 = y at *
              go_wp2
              go_round
              case rel => exact ⟨j + 1, by omega, by go_num, by rw [hnx.out]⟩
              case measure => simp [intOf] <;> omega
            · have hnx : Hid (rdk (d.r i) s (j + 1) = rdk (d.r i) s j) := if_neg ct
              have hne : (((qx (d.r i).q j).1 : Int) == (s : Int)) = false := by simp; omega
              clear ct q2
              generalize (qx (d.r i).q j).1 = y at *
              go_wp2
              go_round
              case rel => exact ⟨j + 1, by omega, by go_num, by rw [hnx.out]⟩
              case measure => simp [intOf] <;> omega
          · have hE2 : j = (d.r i).q.length := by omega
            have HE2 := hid hE2
            rw [← hE2] at g2
            clear hE2
            go_wp2
            go_ret2
            exact ⟨by rw [hB.out, HR.out]; first | rfl | (unfold Rg.rd; rw [← HE2.out]; rfl), rfl⟩
      · rw [if_neg cb] at hR
        have hB : Hid (d.readB (i : Int) b = ⟨#[]⟩) := by show _ = _; unfold Dk.readB; rw [hR]; rfl
        have HR := hid hR
        clear hR
        generalize (d.r i).n = n at *
        rcases Int.lt_or_le b 0 with h0 | h0
        all_goals
          go_enter Try.func30, Try.ntmps30
          go_wp2
          go_ret2
          exact ⟨by rw [hB.out, HR.out]; rfl, rfl⟩
    · have hp : d.preF a = 10 := by unfold Dk.preF; rw [co', if_neg c]; rfl
      have hR : d.readE a b = 10 := by rw [readE_pre (by rw [hp]; decide), hp]
      have hB : Hid (d.readB a b = ⟨#[]⟩) := by show _ = _; unfold Dk.readB; rw [hR]; rfl
      have HR := hid hR
      have c0 : ¬ (0 ≤ a ∧ a < d.k) := fun h => c (has_iff.2 h)
      clear c hR hp co
      rcases Int.lt_or_le a 0 with h0 | h0
      all_goals
        go_enter Try.func30, Try.ntmps30
        go_wp2
        go_ret2
        exact ⟨by rw [hB.out, HR.out]; rfl, rfl⟩

end Go.Proofs.Ytffhnkljmalbiaa.Wr
