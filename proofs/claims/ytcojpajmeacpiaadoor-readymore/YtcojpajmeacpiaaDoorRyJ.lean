/-
  The contract of the document's Behind ('IsB'), and of both Behinds where there is no such node. Conditions: the masks lie in memory.
-/
import Derived.Test.YtcojpajmeacpiaaDoorRyF
namespace Go.Proofs.YtcojpajmeacpiaaDoor.Wry
open Go.ChangeShapes Go.WideShapes Go.ChangeAt Go.RowKit Go.Shelf Go.Proofs.YtcojpajmeacpiaaDoor.M

/-! ### what the document's search holds -/
def BqS (M : List Nat) (a : Nat) (r : Nat → Bool) : Prop := ∀ j, r j = true → Rea M a j
def BqC (M : List Nat) (a : Nat) (r : Nat → Bool) : Prop := ∀ x y, wt M x y = true → y = a ∨ r y = true → r x = true
def BqO (M : List Nat) (a s : Nat) (r : Nat → Bool) : Prop := BqS M a r ∧ (s ≤ cnt r (nn M) ∨ BqC M a r)
def BqM (M : List Nat) (a s x : Nat) (r : Nat → Bool) : Prop := ∃ r0, BqO M a s r0 ∧ BqS M a r ∧ (∀ j, r0 j = true → r j = true) ∧ ∀ x' y, x' < x → wt M x' y = true → y = a ∨ r0 y = true → r x' = true
def BqN (M : List Nat) (a s x y : Nat) (r : Nat → Bool) : Prop := ∃ r0, BqO M a s r0 ∧ BqS M a r ∧ (∀ j, r0 j = true → r j = true) ∧ (∀ x' y, x' < x → wt M x' y = true → y = a ∨ r0 y = true → r x' = true) ∧ ∀ y', y' < y → wt M x y' = true → y' = a ∨ r0 y' = true → r x = true
theorem bq_all {M : List Nat} {a : Nat} {r : Nat → Bool} (h : BqC M a r) {j : Nat} (q : Rea M a j) : r j = true := by
  induction q with
  | one q => exact h _ _ q (.inl rfl)
  | step _ q ih => exact h _ _ q (.inr ih)
theorem bq_start (M : List Nat) (a : Nat) : BqO M a 0 (fun _ => false) := ⟨fun j h => (by cases h), .inl (Nat.zero_le _)⟩
theorem bq_m {M : List Nat} {a s : Nat} {r : Nat → Bool} (h : BqO M a s r) : BqM M a s 0 r := ⟨r, h, h.1, fun _ h => h, fun _ _ h => absurd h (Nat.not_lt_zero _)⟩
theorem bq_n {M : List Nat} {a s x : Nat} {r : Nat → Bool} (h : BqM M a s x r) : BqN M a s x 0 r := by
  obtain ⟨r0, h1, h2, h3, h4⟩ := h
  exact ⟨r0, h1, h2, h3, h4, fun _ h => absurd h (Nat.not_lt_zero _)⟩
theorem bq_row {M : List Nat} {a s x : Nat} {r : Nat → Bool} (h : BqN M a s x (nn M) r) : BqM M a s (x + 1) r := by
  obtain ⟨r0, h1, h2, h3, h4, h5⟩ := h
  refine ⟨r0, h1, h2, h3, fun x' y hx hw hy => ?_⟩
  by_cases e : x' = x
  · subst e; exact h5 y (wt_iff.1 hw).2.1 hw hy
  · exact h4 x' y (by omega) hw hy
theorem bq_round {M : List Nat} {a s : Nat} {r : Nat → Bool} (h : BqM M a s (nn M) r) : BqO M a (s + 1) r := by
  obtain ⟨r0, h1, h2, h3, h4⟩ := h
  refine ⟨h2, ?_⟩
  by_cases e : ∃ j, r0 j = false ∧ r j = true
  · obtain ⟨j, e1, e2⟩ := e
    rcases h1.2 with h5 | h5
    · have := cnt_more h3 (h2 j e2).lt.2 e1 e2
      exact .inl (by omega)
    · rw [bq_all h5 (h2 j e2)] at e1; cases e1
  · right
    intro x y hw hy
    refine h4 x y (wt_iff.1 hw).1 hw ?_
    rcases hy with hy | hy
    · exact .inl hy
    · right
      rcases e3 : r0 y with _ | _
      · exact absurd ⟨y, e3, hy⟩ e
      · rfl
theorem bq_skip {M : List Nat} {a s x y : Nat} {r : Nat → Bool} (h : BqN M a s x y r) (hs : wt M x y = false ∨ (y ≠ a ∧ r y = false)) : BqN M a s x (y + 1) r := by
  obtain ⟨r0, h1, h2, h3, h4, h5⟩ := h
  refine ⟨r0, h1, h2, h3, h4, fun y' hy' hw hr => ?_⟩
  by_cases e : y' = y
  · subst e
    rcases hs with hs | ⟨hs1, hs2⟩
    · rw [hs] at hw; cases hw
    · rcases hr with hr | hr
      · exact absurd hr hs1
      · rw [h3 _ hr] at hs2; cases hs2
  · exact h5 y' (by omega) hw hr
theorem bq_put {M : List Nat} {a s x y : Nat} {r : Nat → Bool} (h : BqN M a s x y r) (hw : wt M x y = true) (hr : y = a ∨ r y = true) : BqN M a s x (y + 1) (fun j => if j = x then true else r j) := by
  obtain ⟨r0, h1, h2, h3, h4, h5⟩ := h
  have hx : Rea M a x := by
    rcases hr with hr | hr
    · rw [hr] at hw; exact .one hw
    · exact .step (h2 y hr) hw
  have hup : ∀ j, r j = true → (if j = x then true else r j) = true := fun j hj => by split <;> first | rfl | exact hj
  refine ⟨r0, h1, fun j hj => ?_, fun j hj => hup j (h3 j hj), fun x' y hx' hw hy => hup x' (h4 x' y hx' hw hy), fun y' _ _ _ => by simp⟩
  by_cases e : j = x
  · rw [e]; exact hx
  · simp only [if_neg e] at hj; exact h2 j hj
theorem bq_end {M : List Nat} {a : Nat} {r : Nat → Bool} (h : BqO M a (nn M) r) : IsB M (a : Int) (bsm r (nn M)) := by
  have hlt : bsm r (nn M) < 4294967296 := by
    have h1 := bsm_lt r (nn M)
    have h2 : 2 ^ nn M ≤ 2 ^ 32 := Nat.pow_le_pow_right (by decide) (nn_le M)
    omega
  refine ⟨hlt, fun i => Iff.intro (fun q => ?_) (fun q => ?_)⟩
  · rw [bsm_bit, Bool.and_eq_true] at q
    exact ⟨Int.natCast_nonneg a, by rw [Int.toNat_natCast]; exact h.1 i q.2⟩
  · replace q := q.2
    rw [Int.toNat_natCast] at q
    rw [bsm_bit, decide_eq_true q.lt.2, Bool.true_and]
    rcases h.2 with h5 | h5
    · rcases e : r i with _ | _
      · have := cnt_more (r := r) (q := fun j => if j = i then true else r j) (n := nn M) (j := i) (fun j hj => by show (if j = i then true else r j) = true; split <;> first | rfl | exact hj) q.lt.2 e (by simp)
        have := cnt_le (fun j => if j = i then true else r j) (nn M)
        omega
      · rfl
    · exact bq_all h5 q

set_option maxRecDepth 100000 in
set_option maxHeartbeats 12800000 in
theorem behindR {w : World} {a : Option Addr} {M : List Nat} {cap at_ : Nat} (h : Ms w a M) (hM : MOk M) (ha : at_ < nn M) :
    Calls Tryd.prog 20 #[.slice a M.length cap, .int .i64 (at_ : Int)] w fun e w' => (∃ b : Nat, e = .returned (.int .u32 (b : Int)) ∧ IsB M (at_ : Int) b) ∧ Below w.heap.size w w' := by
  have hn := nn_le M
  have hnl := nn_len M
  have d0 : decide ((at_ : Int) < 0) = false := decide_eq_false (by omega)
  have d1 : decide ((nn M : Int) ≤ (at_ : Int)) = false := decide_eq_false (by omega)
  have d2 : decide (nn M ≤ at_) = false := decide_eq_false (by omega)
  have HM := hid h
  have hmk := hid (madeB (nn M) (by omega))
  have R1 := hid (World.rowIs_made w (.bool false) (nn M) 4)
  have hcnt := hid (countR M a cap w)
  have hbit := hid (fun (i k : Nat) (W : World) => bitR (mk M i) k W (mk_lt hM i))
  have hat := hid (fun (i : Nat) (hi : i < nn M) => mk_at hi)
  have hwt := hid (fun (i k : Nat) (hi : i < nn M) (hk : k < nn M) => (show wt M i k = (mk M i).testBit k by unfold wt; rw [decide_eq_true hi, decide_eq_true hk]; rfl))
  have hst := hid (bq_start M at_)
  have hrow := hid (fun s x r (q : BqN M at_ s x (nn M) r) => bq_row q)
  have hround := hid (fun s r (q : BqM M at_ s (nn M) r) => bq_round q)
  have hend := hid (fun r (q : BqO M at_ (nn M) r) => bq_end q)
  generalize nn M = n at *
  clear h
  go_enter Tryd.func20, Tryd.ntmps20
  go_wp2_with fail
  refine hcnt.out.mono ?_
  rintro e w1 ⟨rfl, rfl⟩
  have hmk' := hmk.out
  go_wp2_with fail
  clear hmk' hmk hcnt d0 d1 d2
  go_loopw [7] (fun iv wr => ∃ (s : Nat) (r : Nat → Bool), s ≤ n ∧ iv = .int .i64 (s : Int) ∧ Hid (BqO M at_ s r) ∧ Hid (wr.rowIs w.heap.size 4 n (fun j => .bool (r j))) ∧ Below w.heap.size w wr) (fun iv _ => n - (intOf iv).toNat)
  case atStart => exact ⟨0, _, Nat.zero_le _, rfl, hst, hid (R1.out.congr fun j _ => rfl), al w _⟩
  case round =>
    clear R1 hst
    obtain ⟨s, r, hs, rfl, hO, HR, hb⟩ := hrel
    by_cases cs : s < n
    · have hM' := hid (bq_m hO.out)
      clear hO
      go_wp2_with fail
      go_loopw [8] (fun iv wr => ∃ (x : Nat) (r : Nat → Bool), x ≤ n ∧ iv = .int .i64 (x : Int) ∧ Hid (BqM M at_ s x r) ∧ Hid (wr.rowIs w.heap.size 4 n (fun j => .bool (r j))) ∧ Below w.heap.size w wr) (fun iv _ => n - (intOf iv).toNat)
      case atStart => exact ⟨0, r, Nat.zero_le _, rfl, hM', HR, hb⟩
      case round =>
        clear hM' HR hb
        clear r
        obtain ⟨x, r, hx, rfl, hMx, HR, hb⟩ := hrel
        by_cases cx : x < n
        · have hN := hid (bq_n hMx.out)
          clear hMx
          go_wp2_with fail
          go_loopw [9] (fun iv wr => ∃ (y : Nat) (r : Nat → Bool), y ≤ n ∧ iv = .int .i64 (y : Int) ∧ Hid (BqN M at_ s x y r) ∧ Hid (wr.rowIs w.heap.size 4 n (fun j => .bool (r j))) ∧ Below w.heap.size w wr) (fun iv _ => n - (intOf iv).toNat)
          case atStart => exact ⟨0, r, Nat.zero_le _, rfl, hN, HR, hb⟩
          case round =>
            clear hN HR hb
            clear r
            obtain ⟨y, r, hy, rfl, hN, HR, hb⟩ := hrel
            by_cases cy : y < n
            · obtain ⟨g, o, rfl, hg, x0⟩ := (HM.out.below hb).at (hat.out x cx)
              have hxl : x < M.length := by omega
              have C := hid (hbit.out x y wr)
              have hw := hid (hwt.out x y cx cy)
              generalize mk M x = m at x0 C hw
              go_wp2_with fail
              refine C.out.mono ?_
              rintro e w1 ⟨rfl, rfl⟩
              clear C x0
              rcases e1 : m.testBit y with _ | _
              · have hN' := hid (bq_skip hN.out (.inl (by rw [hw.out, e1])))
                clear hN hw e1
                go_wp2_with fail
                go_roundw
                case rel => exact ⟨y + 1, r, cy, by go_num, hN', HR, hb⟩
                case measure => simp [intOf]; omega
              · have y0 := HR.out.cell cy
                have y1 := HR.out.cell cx
                have y2 := HR.out.frozen x
                by_cases e2 : y = at_
                · have hN' := hid (bq_put hN.out (by rw [hw.out, e1]) (.inl e2))
                  have t0 : ((y : Int) == (at_ : Int)) = true := by simp [e2]
                  have t1 : decide ((y : Int) = (at_ : Int)) = true := by simp [e2]
                  clear hN hw e1 e2
                  go_wp2_with fail
                  go_roundw
                  case rel => exact ⟨y + 1, _, cy, by go_num, hN', hid (set_row HR.out fun j => rfl), hb.setCell (p := ⟨w.heap.size, x, none⟩) (Nat.le_refl _) _⟩
                  case measure => simp [intOf]; omega
                · have t0 : ((y : Int) == (at_ : Int)) = false := by rw [beq_eq_false_iff_ne]; omega
                  have t1 : decide ((y : Int) = (at_ : Int)) = false := decide_eq_false (by omega)
                  rcases e3 : r y with _ | _
                  · have hN' := hid (bq_skip hN.out (.inr ⟨e2, e3⟩))
                    rw [e3] at y0
                    clear hN hw e1 e2 e3
                    go_wp2_with fail
                    go_roundw
                    case rel => exact ⟨y + 1, r, cy, by go_num, hN', HR, hb⟩
                    case measure => simp [intOf]; omega
                  · have hN' := hid (bq_put hN.out (by rw [hw.out, e1]) (.inr e3))
                    rw [e3] at y0
                    clear hN hw e1 e2 e3
                    go_wp2_with fail
                    go_roundw
                    case rel => exact ⟨y + 1, _, cy, by go_num, hN', hid (set_row HR.out fun j => rfl), hb.setCell (p := ⟨w.heap.size, x, none⟩) (Nat.le_refl _) _⟩
                    case measure => simp [intOf]; omega
            · have hM2 := hid (hrow.out s x r (by have := hN.out; rw [show y = n by omega] at this; exact this))
              clear hN
              go_wp2_with fail
              go_roundw
              case rel => exact ⟨x + 1, r, cx, by go_num, hM2, HR, hb⟩
              case measure => simp [intOf]; omega
        · have hO2 := hid (hround.out s r (by have := hMx.out; rw [show x = n by omega] at this; exact this))
          clear hMx
          go_wp2_with fail
          go_roundw
          case rel => exact ⟨s + 1, r, cs, by go_num, hO2, HR, hb⟩
          case measure => simp [intOf]; omega
    · have hE := hid (hend.out r (by have := hO.out; rw [show s = n by omega] at this; exact this))
      have C := hid (number hn HR.out)
      clear hO
      go_wp2_with fail
      refine C.out.mono ?_
      rintro e w1 ⟨rfl, rfl⟩
      go_wp2_with fail
      go_ret
      exact ⟨⟨_, rfl, hE.out⟩, hb⟩

set_option maxRecDepth 100000 in
theorem behindR0 {w : World} {a : Option Addr} {M : List Nat} {cap : Nat} {n : Int} (hn : n < 0 ∨ (nn M : Int) ≤ n) :
    Calls Tryd.prog 20 #[.slice a M.length cap, .int .i64 n] w fun e w' => (∃ b : Nat, e = .returned (.int .u32 (b : Int)) ∧ IsB M n b) ∧ Below w.heap.size w w' := by
  have hcnt := hid (countR M a cap w)
  have hI := hid (isB_no hn)
  rcases hn with hn | hn
  · go_enter Tryd.func20, Tryd.ntmps20
    go_wp2_with fail
    refine hcnt.out.mono ?_
    rintro e w1 ⟨rfl, rfl⟩
    go_wp2_with fail
    go_ret
    exact ⟨⟨0, rfl, hI.out⟩, Below.refl _ _⟩
  · have d0 : decide (n < 0) = false := decide_eq_false (by omega)
    go_enter Tryd.func20, Tryd.ntmps20
    go_wp2_with fail
    refine hcnt.out.mono ?_
    rintro e w1 ⟨rfl, rfl⟩
    go_wp2_with fail
    go_ret
    exact ⟨⟨0, rfl, hI.out⟩, Below.refl _ _⟩

set_option maxRecDepth 100000 in
theorem behind0 {w : World} {a : Option Addr} {M : List Nat} {cap : Nat} {n : Int} (hn : n < 0 ∨ (nn M : Int) ≤ n) :
    Calls Tryd.prog 19 #[.slice a M.length cap, .int .i64 n] w fun e w' => (∃ b : Nat, e = .returned (.int .u32 (b : Int)) ∧ IsB M n b) ∧ Below w.heap.size w w' := by
  have hcnt := hid (fun (W : World) => count M a cap W)
  have hI := hid (isB_no hn)
  have B0 := hid (al w (.cells #[.slice a M.length cap] 22))
  rcases hn with hn | hn
  · have d0 : decide (n < 0) = true := decide_eq_true hn
    go_enter Tryd.func19, Tryd.ntmps19
    go_wp2_with fail
    go_ret
    exact ⟨⟨0, rfl, hI.out⟩, B0.out⟩
  · have d0 : decide (n < 0) = false := decide_eq_false (by omega)
    go_enter Tryd.func19, Tryd.ntmps19
    go_wp2_with fail
    refine (hcnt.out _).mono ?_
    rintro e w1 ⟨rfl, rfl⟩
    go_wp2_with fail
    go_ret
    exact ⟨⟨0, rfl, hI.out⟩, B0.out⟩

end Go.Proofs.YtcojpajmeacpiaaDoor.Wry
