/-
  The contracts of Order and of the document's List, and of the laws' equal. Conditions: the masks lie in memory, and the table of the library.
-/
import Derived.Test.YtcojpajmeacpiaaDoorRyG
namespace Go.Proofs.YtcojpajmeacpiaaDoor.Wry
open Go.ChangeShapes Go.WideShapes Go.ChangeAt Go.RowKit Go.Shelf Go.Proofs.YtcojpajmeacpiaaDoor.M

theorem infoIs : (Tryd.prog.info? 3).map (fun i => (i.zero, i.size, i.bytes)) = some (some (.int .i64 0), 1, 8) := infoI

/-- One number more. -/
theorem app_facts {wr w2 : World} {W0 b : Nat} {v v' : Value} {o : List Nat} {i : Nat} {w : World} {t : TypeId} (hw : W0 = w.heap.size) (hb : Below W0 w wr) (own : wr.ownsRow W0 3 1 v o.length (nI o)) (hgrow : (wr.alloc (.cells #[.int .i64 (i : Int)] t)).grownBy w2 v.ownBlock)
    (own3 : w2.ownsRow W0 3 1 v' (o.length + 1) (nI o ++ [.int .i64 (i : Int)])) (_ : b = b) : w2.ownsRow W0 3 1 v' (o ++ [i]).length (nI (o ++ [i])) ∧ Below W0 w w2 := by
  subst hw
  refine ⟨by rw [nI_snoc]; simpa using own3, ?_⟩
  exact (hb.alloc hb.size _).grown hgrow (by have := hb.size; simp; omega) fun k hk => (own.lt k hk).1

set_option maxRecDepth 100000 in
set_option maxHeartbeats 8000000 in
theorem order {w : World} {a : Option Addr} {M : List Nat} {cap : Nat} (h : Ms w a M) (hM : MOk M) (hT : Tab w) :
    Calls Tryd.prog 11 #[.slice a M.length cap] w fun e w' => ∃ v, e = .returned v ∧ w'.ownsRow w.heap.size 3 1 v (od M).length (nI (od M)) ∧ Below w.heap.size w w' := by
  obtain ⟨i0, hi, hz0, hz1, hz2⟩ := info_parts infoI
  have hn := nn_le M
  have hT0 := hT.lt
  have hRd := hid (fun (W : World) (b : Below w.heap.size w W) (P : Nat) (hP : P < 4294967296) => ready (cap := cap) (h.below b) hM hP (hT.below hT0 b))
  have hLe := hid (fun (W : World) (b : Below w.heap.size w W) (P : Nat) => least (rdn_lt M P) (hT.below hT0 b))
  have hst : Hid ([] ++ ord M (nn M) 0 = od M) := hid rfl
  have hl0 := hid (lft_le M 0)
  clear h hT
  go_enter Tryd.func11, Tryd.ntmps11
  go_wp2_with fail
  go_loopw [3, 4] (fun v pv wr => ∃ (o : List Nat) (P f : Nat), pv = .int .u32 (P : Int) ∧ P < 4294967296 ∧ Hid (lft M P ≤ f) ∧ o.length + f = nn M ∧ Hid (o ++ ord M f P = od M) ∧ wr.ownsRow w.heap.size 3 1 v o.length (nI o) ∧ Below w.heap.size w wr) (fun _ pv _ => lft M (intOf pv).toNat)
  case atStart => exact ⟨[], 0, nn M, rfl, by decide, hl0, by simp, hst, World.ownsRow_nil _ _ _ _, Below.refl _ _⟩
  case round =>
    clear hst hl0
    obtain ⟨o, P, f, rfl, hP, hl, hf, ho, own, hb⟩ := hrel
    have C1 := hid (hRd.out _ hb P hP)
    go_wp2_with fail
    refine C1.out.mono ?_
    rintro e w1 ⟨rfl, b1⟩
    have hb1 := hb.trans (b1.mono hb.size)
    have own1 := own_below own b1
    have C2 := hid (hLe.out _ hb1 P)
    clear C1 own b1 hb
    go_wp2_with fail
    refine C2.out.mono ?_
    rintro e w2 ⟨rfl, b2⟩
    have hb2 := hb1.trans (b2.mono hb1.size)
    have own2 := own_below own1 b2
    clear C2 own1 b2 hb1
    by_cases c : rdn M P = 0
    · have he : Hid (o = od M) := hid (by have := ho.out; rw [ord_none c, List.append_nil] at this; exact this)
      have hd : decide (rdn M P ≠ 0) = false := decide_eq_false (fun q => q c)
      rw [hd]
      clear hd c ho hl
      go_wp2_with fail
      go_ret
      exact ⟨_, rfl, by rw [← he.out]; exact own2, hb2⟩
    · have hd : decide (rdn M P ≠ 0) = true := decide_eq_true c
      obtain ⟨q1, _, q2, _⟩ := rd_first c
      have hpl := lft_put q1 q2
      have hpos := lft_pos q1 q2
      have hlo := hl.out
      obtain ⟨f', rfl⟩ : ∃ f', f = f' + 1 := ⟨f - 1, by omega⟩
      have ho2 : Hid ((o ++ [Lib.ctz 32 (rdn M P)]) ++ ord M f' (P ||| 2 ^ Lib.ctz 32 (rdn M P)) = od M) := hid (by have := ho.out; rw [ord_some c] at this; rw [List.append_assoc]; exact this)
      have hle : lea (rdn M P) = Lib.ctz 32 (rdn M P) := by unfold lea; rw [if_neg c]
      rw [hd, hle]
      have hl2 : Hid (lft M (P ||| 2 ^ Lib.ctz 32 (rdn M P)) ≤ f') := hid (by omega)
      have hms : Hid (lft M (P ||| 2 ^ Lib.ctz 32 (rdn M P)) < lft M P) := hid (by omega)
      have hi32 : Lib.ctz 32 (rdn M P) < 32 := by omega
      clear hd hle ho hl hpl hpos hlo q2 c
      generalize Lib.ctz 32 (rdn M P) = i at *
      have hu := hid (u32_or_nat P (2 ^ i) hP (by have : 2 ^ i < 2 ^ 32 := Nat.pow_lt_pow_right (by decide) hi32; omega))
      have hpu := put_lt hP hi32
      have hpw := hid (pow_u32 hi32)
      have hsz := hb2.size
      go_wp2_with (at_builtin; refine wpList_append_own _ rfl _ _ 25 rfl w.heap.size 3 i0 (.int .i64 0) 1 8 Tryd.underlying25 hi hz0 hz1 hz2 rfl (by decide) _ _ _ rfl (own2.alloc _) ⟨w2.heap.size, 0, none⟩ 1 1 [.int .i64 (i : Int)] rfl rfl (cell_one_new _ _ _) (by simp [Value.oneCell']) (by unfold maxLen; omega) (by omega) (by simp; omega) ?_)
      intro v' w3 own3 hgrow _
      obtain ⟨own4, B4⟩ := app_facts (b := 0) rfl hb2 own2 hgrow own3 rfl
      clear own2 own3 hgrow hb2
      go_wp2_with fail
      trace_state
      go_roundw
      case rel => exact ⟨o ++ [i], P ||| 2 ^ i, f', by rw [← hu.out, ← hpw.out], hpu, hl2, by simp; omega, ho2, own4, B4⟩
      case measure => rw [hpw.out, hu.out]; have := hms.out; simpa [intOf] using this

set_option maxRecDepth 100000 in
set_option maxHeartbeats 8000000 in
theorem listR {w : World} {x : Nat} (hx : x < 4294967296) :
    Calls Tryd.prog 18 #[.int .u32 (x : Int)] w fun e w' => ∃ v, e = .returned v ∧ w'.ownsRow w.heap.size 3 1 v (bl x).length (nI (bl x)) ∧ Below w.heap.size w w' := by
  obtain ⟨i0, hi, hz0, hz1, hz2⟩ := info_parts infoI
  have hbit := hid (fun (k : Nat) (W : World) => bitR x k W hx)
  have hs : Hid (∀ i, (List.range (i + 1)).filter (fun i => x.testBit i) = if x.testBit i then (List.range i).filter (fun i => x.testBit i) ++ [i] else (List.range i).filter (fun i => x.testBit i)) := hid fun i => by
    rw [List.range_succ, List.filter_append]
    by_cases h : x.testBit i = true
    · rw [if_pos h]; simp [h]
    · rw [if_neg h]; simp [h]
  have hlen : Hid (∀ i, ((List.range i).filter (fun i => x.testBit i)).length ≤ i) := hid fun i => by
    have := List.length_filter_le (fun i => x.testBit i) (List.range i)
    rwa [List.length_range] at this
  obtain ⟨F, hF⟩ : ∃ F : Nat → List Nat, Hid (∀ i, F i = (List.range i).filter (fun i => x.testBit i)) := ⟨_, hid fun _ => rfl⟩
  have hF0 : F 0 = [] := by rw [hF.out]; rfl
  have hF32 : Hid (F 32 = bl x) := hid (by rw [hF.out]; rfl)
  have hsF : Hid (∀ i, F (i + 1) = if x.testBit i then F i ++ [i] else F i) := hid fun i => by rw [hF.out, hF.out]; exact hs.out i
  have hlF : Hid (∀ i, (F i).length ≤ i) := hid fun i => by rw [hF.out]; exact hlen.out i
  clear hs hlen hF
  rw [← hF32.out]
  go_enter Tryd.func18, Tryd.ntmps18
  go_wp2_with fail
  go_loopw [3, 4] (fun v iv wr => ∃ i : Nat, i ≤ 32 ∧ iv = .int .i64 (i : Int) ∧ wr.ownsRow w.heap.size 3 1 v (F i).length (nI (F i)) ∧ Below w.heap.size w wr) (fun _ iv _ => 32 - (intOf iv).toNat)
  case atStart => exact ⟨0, by omega, rfl, by rw [hF0]; exact World.ownsRow_nil _ _ _ _, Below.refl _ _⟩
  case round =>
    obtain ⟨i, hi32, rfl, own, hb⟩ := hrel
    have hsz := hb.size
    by_cases c : i < 32
    · have C := hid (hbit.out i wr)
      have hs := hid (hsF.out i)
      have hl := hlF.out i
      go_wp2_with fail
      refine C.out.mono ?_
      rintro e w1 ⟨rfl, rfl⟩
      clear C
      rcases e1 : x.testBit i with _ | _
      · rw [e1] at hs
        clear e1
        go_wp2_with fail
        go_roundw
        case rel => exact ⟨i + 1, c, by go_num, by rw [hs.out]; exact own, hb⟩
        case measure => simp [intOf]; omega
      · rw [e1] at hs
        clear e1
        go_wp2_with (at_builtin; refine wpList_append_own _ rfl _ _ 25 rfl w.heap.size 3 i0 (.int .i64 0) 1 8 Tryd.underlying25 hi hz0 hz1 hz2 rfl (by decide) _ _ _ rfl (own.alloc _) ⟨wr.heap.size, 0, none⟩ 1 1 [.int .i64 (i : Int)] rfl rfl (cell_one_new _ _ _) (by simp [Value.oneCell']) (by unfold maxLen; omega) (by omega) (by simp; omega) ?_)
        intro v' w3 own3 hgrow _
        obtain ⟨own4, B4⟩ := app_facts (b := 0) rfl hb own hgrow own3 rfl
        clear own own3 hgrow hb
        go_wp2_with fail
        go_roundw
        case rel => exact ⟨i + 1, c, by go_num, by rw [hs.out]; exact own4, B4⟩
        case measure => simp [intOf]; omega
    · obtain rfl : i = 32 := by omega
      go_wp2_with fail
      go_ret
      exact ⟨_, rfl, own, hb⟩

end Go.Proofs.YtcojpajmeacpiaaDoor.Wry
