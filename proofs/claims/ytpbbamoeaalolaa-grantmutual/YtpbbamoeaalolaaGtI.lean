/-
  The contracts of the document's in, with and Reach. Condition of Reach: at most 2^20 edges.
-/
import Derived.Test.YtpbbamoeaalolaaGtO
namespace Go.Proofs.Ytpbbamoeaalolaa.Wg
open Go.ChangeShapes Go.WideShapes Go.ChangeAt Go.RowKit Go.Proofs.Ytpbbamoeaalolaa.M Go.Maps

/-- Numbers that a slice holds. -/
def LsI (w : World) (a : Option Addr) (l : List Int) : Prop := l = [] ∨ ∃ g, a = some ⟨g, 0, none⟩ ∧ g < w.heap.size ∧ RdI w g l
theorem LsI.below {w w' : World} {a : Option Addr} {l : List Int} (h : LsI w a l) (b : Below w.heap.size w w') : LsI w' a l := by
  rcases h with h | ⟨g, h1, h2, h3⟩
  · exact .inl h
  · exact .inr ⟨g, h1, Nat.lt_of_lt_of_le h2 b.size, fun i x hx => (b.cell (p := ⟨g, i, none⟩) h2).trans (h3 i x hx)⟩
theorem own_lsI {w : World} {base : Nat} {v : Value} {l : List Int} (h : w.ownsRow base 3 1 v l.length (l.map (Value.int .i64))) : ∃ a cap, v = .slice a l.length cap ∧ l.length ≤ cap ∧ LsI w a l := by
  rcases h.2 with ⟨rfl, hn⟩ | ⟨g, cap, cur, rfl, hb, hg, hc, hm, hs, ht⟩
  · rw [hn]
    exact ⟨none, 0, rfl, Nat.le_refl _, .inl (List.length_eq_zero_iff.1 hn)⟩
  · refine ⟨_, cap, rfl, hc, .inr ⟨g, rfl, blk_lt hg, fun i x hx => ?_⟩⟩
    have hi := (List.getElem?_eq_some_iff.1 hx).1
    rw [h.cellAt i (by omega), List.getElem?_map, hx]
    rfl

set_option maxRecDepth 100000 in
theorem inRef {w : World} {a : Option Addr} {l : List Int} {cap : Nat} (n : Int) (h : LsI w a l) (hl : l.length ≤ 4194304) :
    Calls Try.prog 30 #[.slice a l.length cap, .int .i64 n] w fun e w' => e = .returned (.bool (decide (n ∈ l))) ∧ w = w' := by
  go_enter Try.func30, Try.ntmps30
  go_wp2
  go_loop [5] (fun i => ∃ m : Nat, m ≤ l.length ∧ i = .int .i64 m ∧ Hid (∀ x ∈ l.take m, x ≠ n)) (fun i => l.length - (intOf i).toNat)
  case atStart => exact ⟨0, Nat.zero_le _, rfl, by intro x hx; simp at hx⟩
  case round =>
    obtain ⟨m, hm, rfl, hno⟩ := hrel
    by_cases c : m < l.length
    · rcases h with h4 | ⟨g, rfl, q3, q4⟩
      · rw [h4] at c; simp at c
      obtain ⟨x, hx⟩ : ∃ x, l[m]? = some x := ⟨l[m], List.getElem?_eq_getElem c⟩
      have y0 := q4 m x hx
      by_cases e : x = n
      · have hin : decide (n ∈ l) = true := decide_eq_true (e ▸ List.mem_of_getElem? hx)
        subst e
        clear hno hx q4
        go_wp2
        go_ret
        exact ⟨(by first | rfl | exact ret_b hin.symm), rfl⟩
      · have hno' : Hid (∀ y ∈ l.take (m + 1), y ≠ n) := by
          intro y hy
          rw [List.take_add_one, hx] at hy
          rcases List.mem_append.1 hy with hy | hy
          · exact hno.out y hy
          · simp at hy; rw [hy]; exact e
        have d1 : decide (x = n) = false := decide_eq_false e
        have d2 : (x == n) = false := by simpa using e
        clear hno hx q4 e
        go_wp2
        go_round
        case rel => exact ⟨m + 1, c, by go_num, hno'⟩
        case measure => simp [intOf]; omega
    · have hout : decide (n ∈ l) = false := decide_eq_false fun hk => hno.out n (by rw [List.take_of_length_le (by omega)]; exact hk) rfl
      clear hno
      go_wp2
      go_ret
      exact ⟨(by first | rfl | exact ret_b hout.symm), rfl⟩

def tcI (n : Int) (p : Bool) (M : List Int) : List Int := if p then M else insI n M
theorem tcI_in {k x : Int} {L l : List Int} {n : Nat} (hx : L[n]? = some x) (h : l ++ tcI k true (L.drop n) = insI k L) : (l ++ [x]) ++ tcI k true (L.drop (n + 1)) = insI k L := by
  rw [← h, List.append_assoc]
  congr 1
  have hn := (List.getElem?_eq_some_iff.1 hx).1
  show x :: L.drop (n + 1) = L.drop n
  rw [List.drop_eq_getElem_cons hn, (List.getElem?_eq_some_iff.1 hx).2]
theorem tcI_put {k x : Int} {L l : List Int} {n : Nat} (hx : L[n]? = some x) (h : l ++ tcI k false (L.drop n) = insI k L) (hk : k < x) : ((l ++ [k]) ++ [x]) ++ tcI k true (L.drop (n + 1)) = insI k L := by
  rw [← h, List.append_assoc, List.append_assoc]
  congr 1
  have hn := (List.getElem?_eq_some_iff.1 hx).1
  show k :: x :: L.drop (n + 1) = insI k (L.drop n)
  rw [List.drop_eq_getElem_cons hn, (List.getElem?_eq_some_iff.1 hx).2]
  unfold insI
  rw [if_pos hk]
theorem tcI_on {k x : Int} {L l : List Int} {n : Nat} (hx : L[n]? = some x) (h : l ++ tcI k false (L.drop n) = insI k L) (hk : ¬ k < x) : (l ++ [x]) ++ tcI k false (L.drop (n + 1)) = insI k L := by
  rw [← h, List.append_assoc]
  congr 1
  have hn := (List.getElem?_eq_some_iff.1 hx).1
  show x :: insI k (L.drop (n + 1)) = insI k (L.drop n)
  rw [List.drop_eq_getElem_cons hn, (List.getElem?_eq_some_iff.1 hx).2]
  conv => rhs; unfold insI
  rw [if_neg hk]
theorem ownI_more {w4 : World} {base e : Nat} {v : Value} {l : List Int} {x : Int} (h : w4.ownsRow base e 1 v (l.length + 1) (l.map (Value.int .i64) ++ [.int .i64 x])) : w4.ownsRow base e 1 v (l ++ [x]).length ((l ++ [x]).map (Value.int .i64)) := by
  rw [List.map_append, List.length_append]
  exact h

set_option maxRecDepth 100000 in
set_option maxHeartbeats 3200000 in
theorem withRef {w : World} {a : Option Addr} {L : List Int} {cap : Nat} (n : Int) (h : LsI w a L) (hl : L.length ≤ 4194304) :
    Calls Try.prog 31 #[.slice a L.length cap, .int .i64 n] w fun e w' => ∃ v, e = .returned v ∧ w'.ownsRow w.heap.size 3 1 v (insI n L).length ((insI n L).map (Value.int .i64)) ∧ Below w.heap.size w w' := by
  obtain ⟨i0, hi, hz0, hz1, hz2⟩ := info_parts infoI
  go_enter Try.func31, Try.ntmps31
  go_wp2
  go_loopw [5, 6, 7] (fun v p i wr => ∃ (m : Nat) (b : Bool) (l : List Int), m ≤ L.length ∧ i = .int .i64 m ∧ p = .bool b ∧ Hid (l ++ tcI n b (L.drop m) = insI n L ∧ l.length ≤ m + b.toNat) ∧ wr.ownsRow w.heap.size 3 1 v l.length (l.map (Value.int .i64)) ∧ Below w.heap.size w wr) (fun _ _ i _ => L.length - (intOf i).toNat)
  case atStart => exact ⟨0, false, [], Nat.zero_le _, rfl, rfl, ⟨rfl, by simp⟩, World.ownsRow_nil _ _ _ _, Below.refl _ _⟩
  case round =>
    obtain ⟨m, b, l, hm, rfl, rfl, hH, own, bw⟩ := hrel
    obtain ⟨e1, e2⟩ := hH.out
    have bz := bw.size
    have lo := fun k hk => (own.lt k hk).1
    by_cases cm : m < L.length
    · rcases h with h4 | ⟨g, rfl, q3, q4⟩
      · rw [h4] at cm; simp at cm
      obtain ⟨x, hx⟩ : ∃ x, L[m]? = some x := ⟨L[m], List.getElem?_eq_getElem cm⟩
      have y0 := (bw.cell (p := ⟨g, m, none⟩) q3).trans (q4 m x hx)
      have Y := hid (q4 m x hx)
      clear hH q4
      cases b <;> simp only [Bool.toNat_false, Bool.toNat_true] at e2
      · by_cases cx : n < x
        · have E := hid (tcI_put hx e1 cx)
          clear hx e1
          go_wp2_with (first | (at_builtin; refine wpList_append_own _ rfl _ _ 53 rfl w.heap.size 3 i0 (.int .i64 0) 1 8 Try.underlying53 hi hz0 hz1 hz2 rfl (by decide) _ _ _ rfl (own.alloc _) ⟨wr.heap.size, 0, none⟩ 1 1 [.int .i64 n] rfl rfl (cell_one_new _ _ _) (fun u hu => by simp at hu; subst hu; rfl) (by unfold maxLen; omega) (by omega) (by simp; omega) ?_; intro v4 w4 o4 g4 n4; have b4 := (bw.alloc bw.size _).grown g4 (by simp; omega) lo; have o4' := ownI_more o4; have z4 := b4.size; have y4 := (b4.cell (p := ⟨g, m, none⟩) q3).trans Y.out; go_frame) | (at_builtin; refine wpList_append_own _ rfl _ _ 53 rfl w.heap.size 3 i0 (.int .i64 0) 1 8 Try.underlying53 hi hz0 hz1 hz2 rfl (by decide) _ _ _ rfl (o4'.alloc _) ⟨w4.heap.size, 0, none⟩ 1 1 [.int .i64 x] rfl rfl (cell_one_new _ _ _) (fun u hu => by simp at hu; subst hu; rfl) (by rw [List.length_append, List.length_singleton]; unfold maxLen; omega) (by rw [List.length_append, List.length_singleton]; omega) (by simp; omega) ?_; intro v5 w5 o5 g5 n5; go_frame))
          have b5 : Below w.heap.size w w5 := (b4.alloc b4.size _).grown g5 (by simp; omega) (fun k hk => (o4'.lt k hk).1)
          have o5' := ownI_more o5
          go_roundw
          case rel => exact ⟨m + 1, true, (l ++ [n]) ++ [x], cm, by go_num, rfl, ⟨E.out, by simp; omega⟩, o5', b5⟩
          case measure => simp [intOf]; omega
        · have E := hid (tcI_on hx e1 cx)
          clear hx e1
          go_wp2_with (first | (at_builtin; refine wpList_append_own _ rfl _ _ 53 rfl w.heap.size 3 i0 (.int .i64 0) 1 8 Try.underlying53 hi hz0 hz1 hz2 rfl (by decide) _ _ _ rfl (own.alloc _) ⟨wr.heap.size, 0, none⟩ 1 1 [.int .i64 x] rfl rfl (cell_one_new _ _ _) (fun u hu => by simp at hu; subst hu; rfl) (by unfold maxLen; omega) (by omega) (by simp; omega) ?_; intro v4 w4 o4 g4 n4; go_frame))
          have b4 : Below w.heap.size w w4 := (bw.alloc bw.size _).grown g4 (by simp; omega) lo
          go_roundw
          case rel => exact ⟨m + 1, false, l ++ [x], cm, by go_num, rfl, ⟨E.out, by simp; omega⟩, ownI_more o4, b4⟩
          case measure => simp [intOf]; omega
      · have E := hid (tcI_in hx e1)
        clear hx e1
        go_wp2_with (first | (at_builtin; refine wpList_append_own _ rfl _ _ 53 rfl w.heap.size 3 i0 (.int .i64 0) 1 8 Try.underlying53 hi hz0 hz1 hz2 rfl (by decide) _ _ _ rfl (own.alloc _) ⟨wr.heap.size, 0, none⟩ 1 1 [.int .i64 x] rfl rfl (cell_one_new _ _ _) (fun u hu => by simp at hu; subst hu; rfl) (by unfold maxLen; omega) (by omega) (by simp; omega) ?_; intro v4 w4 o4 g4 n4; go_frame))
        have b4 : Below w.heap.size w w4 := (bw.alloc bw.size _).grown g4 (by simp; omega) lo
        go_roundw
        case rel => exact ⟨m + 1, true, l ++ [x], cm, by go_num, rfl, ⟨E.out, by simp; omega⟩, ownI_more o4, b4⟩
        case measure => simp [intOf]; omega
    · have eL : L.drop m = [] := List.drop_of_length_le (by omega)
      rw [eL] at e1
      cases b <;> simp only [Bool.toNat_false, Bool.toNat_true] at e2
      · have e3 : l ++ [n] = insI n L := e1
        clear e1 hH
        go_wp2_with (first | (at_builtin; refine wpList_append_own _ rfl _ _ 53 rfl w.heap.size 3 i0 (.int .i64 0) 1 8 Try.underlying53 hi hz0 hz1 hz2 rfl (by decide) _ _ _ rfl (own.alloc _) ⟨wr.heap.size, 0, none⟩ 1 1 [.int .i64 n] rfl rfl (cell_one_new _ _ _) (fun u hu => by simp at hu; subst hu; rfl) (by unfold maxLen; omega) (by omega) (by simp; omega) ?_; intro v4 w4 o4 g4 n4; go_frame))
        have b4 : Below w.heap.size w w4 := (bw.alloc bw.size _).grown g4 (by simp; omega) lo
        have o4' := ownI_more o4
        rw [e3] at o4'
        go_ret
        exact ⟨_, rfl, o4', b4⟩
      · have e3 : l = insI n L := by have : l ++ [] = insI n L := e1; simpa using this
        rw [e3] at own
        clear e1 hH e3
        go_wp2
        go_ret
        exact ⟨_, rfl, own, bw⟩

end Go.Proofs.Ytpbbamoeaalolaa.Wg
