/-
  The walks of the document's read and Get (layer 2): what 'valR', 'allR' say, in new memory, or the zero value and the first error. Nothing that was in memory has turned. Conditions: the place is within the text, whose length is an int.
-/
import Derived.Test.YtkelipedpjmmaaaDoorQb
import Derived.Test.YtkelipedpjmmaaaDoorGetV
namespace Go.Proofs.YtkelipedpjmmaaaDoor.Wr
open Go.ChangeShapes Go.WideShapes Go.ChangeAt Go.RowKit Go.Proofs.YtkelipedpjmmaaaDoor.M Go.Proofs.YtkelipedpjmmaaaDoor.Wf

/-- What the document's reading tells. -/
def Told (r : Except Int (V × Int)) (X : Nat) (e : Ending) (w' : World) : Prop := match r with
  | .ok x => ∃ p cap, e = .returned (.tuple #[.agg #[.int .i64 x.1.k, .int .i64 x.1.n, .string x.1.s, .slice p x.1.l.len cap], .int .i64 x.2, .int .i64 0]) ∧ Rd w' (fun g => X ≤ g) (.slice p x.1.l.len cap) x.1.l
  | .error c => e = .returned (.tuple #[.agg #[.int .i64 0, .int .i64 0, .string ⟨#[]⟩, .slice none 0 0], .int .i64 0, .int .i64 c])

set_option maxRecDepth 100000 in
theorem readErr (m d : Nat) (s : ByteArray) (a : Int) (w : World) (hs : s.size ≤ maxLen) (h0 : 0 ≤ a ∧ a ≤ (s.size : Int)) (c1 : gE s a 1 ≠ 0) :
    Calls Tryd.prog 30 #[.string s, .int .i64 a, .int .i64 (d : Int)] w fun e w' => Told (valR s m a) w.heap.size e w' ∧ Below w.heap.size w w' := by
  have CN := hid (fun W => Wg.getRef s a 1 W hs (by omega) (by unfold maxLen at hs; omega))
  have e0 : valR s m a = .error (gE s a 1) := by rw [valR_eq, if_pos c1]
  rw [e0]
  generalize gE s a 1 = E at *
  generalize gN s a 1 = N at *
  generalize gX s a 1 = X at *
  clear hs h0 e0
  go_enter Tryd.func30, Tryd.ntmps30
  go_wp2_with fail
  refine (CN.out _).mono ?_
  rintro e w1 ⟨rfl, h1⟩
  first | subst h1 | skip
  go_wp2_with fail
  exact bodyPost_ret (v := .tuple #[.agg #[.int .i64 0, .int .i64 0, .string ⟨#[]⟩, .slice none 0 0], .int .i64 0, .int .i64 E]) (by simp [results, Tryd.results30, go_sem]) rfl ⟨rfl, ((Below.refl _ _).alloc (Nat.le_refl _) _).alloc (by simp) _⟩

set_option maxRecDepth 100000 in
theorem readNum (m d : Nat) (s : ByteArray) (a : Int) (w : World) (hs : s.size ≤ maxLen) (h0 : 0 ≤ a ∧ a ≤ (s.size : Int)) (c1 : gE s a 1 = 0) (k1 : gN s a 1 = 1) :
    Calls Tryd.prog 30 #[.string s, .int .i64 a, .int .i64 (d : Int)] w fun e w' => Told (valR s m a) w.heap.size e w' ∧ Below w.heap.size w w' := by
  have hX := gX_range s a 1
  have hX2 := gX_range s (gX s a 1) 1
  have CN := hid (fun W => Wg.getRef s a 1 W hs (by omega) (by unfold maxLen at hs; omega))
  have CM := hid (fun W => Wg.getRef s (gX s a 1) 1 W hs (by omega) (by unfold maxLen at hs; omega))
  have CK := hid (fun W => Wg.getRef s (gX s (gX s a 1) 1) (gN s (gX s a 1) 1) W hs (by omega) (by unfold maxLen at hs; omega))
  have e0 : valR s m a = overN (numR s (gX s a 1)) := by rw [valR_eq, if_neg (by omega), if_pos k1]
  rw [e0]
  rw [k1, c1] at CN
  clear e0 k1 c1
  unfold maxLen at hs
  generalize gX s a 1 = X at *
  have hN := (gN_range s X 1).1
  have hN2 := gN_1 s X
  by_cases c2 : gE s X 1 = 0
  · rw [c2] at CM
    by_cases c3 : 8 < gN s X 1
    · have e0 : numR s X = .error 4 := by unfold numR; rw [if_neg (by omega), if_pos c3]
      rw [e0]
      generalize gN s X 1 = N at *
      generalize gX s X 1 = X2 at *
      clear e0 c2 CK
      go_enter Tryd.func30, Tryd.ntmps30
      go_wp2_with fail
      refine (CN.out _).mono ?_
      rintro e w1 ⟨rfl, rfl⟩
      go_wp2_with fail
      refine (CM.out _).mono ?_
      rintro e w1 ⟨rfl, rfl⟩
      go_wp2_with fail
      exact bodyPost_ret (v := .tuple #[.agg #[.int .i64 0, .int .i64 0, .string ⟨#[]⟩, .slice none 0 0], .int .i64 0, .int .i64 4]) (by simp [results, Tryd.results30, go_sem]) rfl ⟨rfl, ((Below.refl _ _).alloc (Nat.le_refl _) _).alloc (by simp) _⟩
    by_cases c4 : gN s X 1 = 0
    · have e0 : numR s X = .ok (0, gX s X 1) := by unfold numR; rw [if_neg (by omega), if_neg c3, if_pos c4]
      rw [e0]
      rw [c4] at CM
      generalize gX s X 1 = X2 at *
      clear e0 c2 CK c3 c4 hN hN2
      go_enter Tryd.func30, Tryd.ntmps30
      go_wp2_with fail
      refine (CN.out _).mono ?_
      rintro e w1 ⟨rfl, rfl⟩
      go_wp2_with fail
      refine (CM.out _).mono ?_
      rintro e w1 ⟨rfl, rfl⟩
      go_wp2_with fail
      exact bodyPost_ret (v := .tuple #[.agg #[.int .i64 0, .int .i64 0, .string ⟨#[]⟩, .slice none 0 0], .int .i64 X2, .int .i64 0]) (by simp [results, Tryd.results30, go_sem]) rfl ⟨⟨none, 0, rfl, rd_nil _ _⟩, ((Below.refl _ _).alloc (Nat.le_refl _) _).alloc (by simp) _⟩
    by_cases c5 : gE s (gX s X 1) (gN s X 1) = 0
    · rw [c5] at CK
      have c6 : ¬ (gN s X 1 < 1 ∨ 8 < gN s X 1 ∨ gX s X 1 < 0 ∨ (s.size : Int) < gX s X 1) := by omega
      have c7 : ¬ (s.size : Int) - gX s X 1 < gN s X 1 := fun h => by have := (g_short c6 h).1; omega
      obtain ⟨k, hk⟩ : ∃ k : Nat, gN s X 1 = ((k + 1 : Nat) : Int) := ⟨(gN s X 1).toNat - 1, by omega⟩
      have hnum : gN s (gX s X 1) (gN s X 1) = num s (gX s X 1).toNat (k + 1) := by rw [(g_ok c6 c7).2.1, hk]; rfl
      have hz := head_zero s (gX s X 1).toNat k (by omega)
      rw [← hnum] at hz
      have hM := gN_range s (gX s X 1) (gN s X 1)
      obtain ⟨q, hq⟩ : ∃ q : Nat, gX s X 1 = (q : Int) := ⟨(gX s X 1).toNat, by omega⟩
      have hqt : (gX s X 1).toNat = q := by omega
      rw [hqt] at hz
      have hbt := get_bt s
      have hql : q < s.size := by omega
      have CU := hid (fun W => Wk.unfoldRef (gN s (gX s X 1) (gN s X 1)) W hM.1 hM.2)
      have hbr := bt_range s q
      by_cases c8 : bt s q = 0
      · have e0 : numR s X = .error 4 := by unfold numR; rw [if_neg (by omega), if_neg c3, if_neg c4, if_neg (by omega), if_pos (by have := hz.1 c8; omega)]
        rw [e0]
        generalize gN s (gX s X 1) (gN s X 1) = N2 at *
        generalize gX s (gX s X 1) (gN s X 1) = X3 at *
        rw [hq] at CM CK
        generalize gN s X 1 = N at *
        clear e0 c2 hz hnum c6 c7 c5 hqt hk
        go_enter Tryd.func30, Tryd.ntmps30
        go_wp2_with fail
        refine (CN.out _).mono ?_
        rintro e w1 ⟨rfl, rfl⟩
        go_wp2_with fail
        refine (CM.out _).mono ?_
        rintro e w1 ⟨rfl, rfl⟩
        go_wp2_with fail
        refine (CK.out _).mono ?_
        rintro e w1 ⟨rfl, rfl⟩
        go_wp2_with fail
        exact bodyPost_ret (v := .tuple #[.agg #[.int .i64 0, .int .i64 0, .string ⟨#[]⟩, .slice none 0 0], .int .i64 0, .int .i64 4]) (by simp [results, Tryd.results30, go_sem]) rfl ⟨rfl, ((Below.refl _ _).alloc (Nat.le_refl _) _).alloc (by simp) _⟩
      · have e0 : numR s X = .ok (gN s (gX s X 1) (gN s X 1), gX s (gX s X 1) (gN s X 1)) := by unfold numR; rw [if_neg (by omega), if_neg c3, if_neg c4, if_neg (by omega), if_neg (by intro h; exact c8 (hz.2 (by omega)))]
        rw [e0]
        generalize gN s (gX s X 1) (gN s X 1) = N2 at *
        generalize gX s (gX s X 1) (gN s X 1) = X3 at *
        rw [hq] at CM CK
        generalize gN s X 1 = N at *
        clear e0 c2 hz hnum c6 c7 c5 hqt hk
        go_enter Tryd.func30, Tryd.ntmps30
        go_wp2_with fail
        refine (CN.out _).mono ?_
        rintro e w1 ⟨rfl, rfl⟩
        go_wp2_with fail
        refine (CM.out _).mono ?_
        rintro e w1 ⟨rfl, rfl⟩
        go_wp2_with fail
        refine (CK.out _).mono ?_
        rintro e w1 ⟨rfl, rfl⟩
        go_wp2_with fail
        refine (CU.out _).mono ?_
        rintro e w1 ⟨rfl, h1⟩
        subst h1
        go_wp2_with fail
        exact bodyPost_ret (v := .tuple #[.agg #[.int .i64 0, .int .i64 (unfoldI N2), .string ⟨#[]⟩, .slice none 0 0], .int .i64 X3, .int .i64 0]) (by simp [results, Tryd.results30, go_sem]) rfl ⟨⟨none, 0, rfl, rd_nil _ _⟩, ((Below.refl _ _).alloc (Nat.le_refl _) _).alloc (by simp) _⟩
    · have e0 : numR s X = .error (gE s (gX s X 1) (gN s X 1)) := by unfold numR; rw [if_neg (by omega), if_neg c3, if_neg c4, if_pos c5]
      rw [e0]
      generalize gN s (gX s X 1) (gN s X 1) = N2 at *
      generalize gX s (gX s X 1) (gN s X 1) = X3 at *
      generalize gE s (gX s X 1) (gN s X 1) = E3 at *
      generalize gN s X 1 = N at *
      generalize gX s X 1 = X2 at *
      clear e0 c2
      go_enter Tryd.func30, Tryd.ntmps30
      go_wp2_with fail
      refine (CN.out _).mono ?_
      rintro e w1 ⟨rfl, rfl⟩
      go_wp2_with fail
      refine (CM.out _).mono ?_
      rintro e w1 ⟨rfl, rfl⟩
      go_wp2_with fail
      refine (CK.out _).mono ?_
      rintro e w1 ⟨rfl, rfl⟩
      go_wp2_with fail
      exact bodyPost_ret (v := .tuple #[.agg #[.int .i64 0, .int .i64 0, .string ⟨#[]⟩, .slice none 0 0], .int .i64 0, .int .i64 E3]) (by simp [results, Tryd.results30, go_sem]) rfl ⟨rfl, ((Below.refl _ _).alloc (Nat.le_refl _) _).alloc (by simp) _⟩
  · have e0 : numR s X = .error (gE s X 1) := by unfold numR; rw [if_pos c2]
    rw [e0]
    generalize gN s X 1 = N at *
    generalize gX s X 1 = X2 at *
    generalize gE s X 1 = E2 at *
    clear e0 CK
    go_enter Tryd.func30, Tryd.ntmps30
    go_wp2_with fail
    refine (CN.out _).mono ?_
    rintro e w1 ⟨rfl, rfl⟩
    go_wp2_with fail
    refine (CM.out _).mono ?_
    rintro e w1 ⟨rfl, rfl⟩
    go_wp2_with fail
    exact bodyPost_ret (v := .tuple #[.agg #[.int .i64 0, .int .i64 0, .string ⟨#[]⟩, .slice none 0 0], .int .i64 0, .int .i64 E2]) (by simp [results, Tryd.results30, go_sem]) rfl ⟨rfl, ((Below.refl _ _).alloc (Nat.le_refl _) _).alloc (by simp) _⟩

set_option maxRecDepth 100000 in
theorem readNone (m d : Nat) (s : ByteArray) (a : Int) (w : World) (hs : s.size ≤ maxLen) (h0 : 0 ≤ a ∧ a ≤ (s.size : Int)) (c1 : gE s a 1 = 0) (k1 : gN s a 1 ≠ 1) (k2 : gN s a 1 ≠ 2) (k3 : gN s a 1 ≠ 3) :
    Calls Tryd.prog 30 #[.string s, .int .i64 a, .int .i64 (d : Int)] w fun e w' => Told (valR s m a) w.heap.size e w' ∧ Below w.heap.size w w' := by
  have CN := hid (fun W => Wg.getRef s a 1 W hs (by omega) (by unfold maxLen at hs; omega))
  have e0 : valR s m a = .error 4 := by rw [valR_eq, if_neg (by omega), if_neg k1, if_neg k2, if_neg k3]
  rw [e0]
  rw [c1] at CN
  generalize gN s a 1 = N at *
  generalize gX s a 1 = X at *
  clear e0 c1 hs h0
  go_enter Tryd.func30, Tryd.ntmps30
  go_wp2_with fail
  refine (CN.out _).mono ?_
  rintro e w1 ⟨rfl, rfl⟩
  go_wp2_with fail
  exact bodyPost_ret (v := .tuple #[.agg #[.int .i64 0, .int .i64 0, .string ⟨#[]⟩, .slice none 0 0], .int .i64 0, .int .i64 4]) (by simp [results, Tryd.results30, go_sem]) rfl ⟨rfl, ((Below.refl _ _).alloc (Nat.le_refl _) _).alloc (by simp) _⟩

set_option maxRecDepth 100000 in
theorem readDeep (m d : Nat) (s : ByteArray) (a : Int) (w : World) (hs : s.size ≤ maxLen) (h0 : 0 ≤ a ∧ a ≤ (s.size : Int)) (c1 : gE s a 1 = 0) (k3 : gN s a 1 = 3) (hm : m = 0) (hd : d = 8) :
    Calls Tryd.prog 30 #[.string s, .int .i64 a, .int .i64 (d : Int)] w fun e w' => Told (valR s m a) w.heap.size e w' ∧ Below w.heap.size w w' := by
  have CN := hid (fun W => Wg.getRef s a 1 W hs (by omega) (by unfold maxLen at hs; omega))
  have e0 : valR s m a = .error 5 := by rw [valR_eq, if_neg (by omega), if_neg (by omega), if_neg (by omega), if_pos k3, hm]; rfl
  rw [e0]
  rw [c1, k3] at CN
  subst hd
  generalize gX s a 1 = X at *
  clear e0 c1 hs h0 k3 hm
  go_enter Tryd.func30, Tryd.ntmps30
  go_wp2_with fail
  refine (CN.out _).mono ?_
  rintro e w1 ⟨rfl, rfl⟩
  go_wp2_with fail
  exact bodyPost_ret (v := .tuple #[.agg #[.int .i64 0, .int .i64 0, .string ⟨#[]⟩, .slice none 0 0], .int .i64 0, .int .i64 5]) (by simp [results, Tryd.results30, go_sem]) rfl ⟨rfl, ((Below.refl _ _).alloc (Nat.le_refl _) _).alloc (by simp) _⟩

end Go.Proofs.YtkelipedpjmmaaaDoor.Wr
