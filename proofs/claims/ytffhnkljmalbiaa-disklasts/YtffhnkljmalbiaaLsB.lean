/-
  The walk of the law DiskLasts: each sector that lasts behind a loss of power is one of those that were written to it since it was flushed, or what lasted ahead; if all are kept, the last one; the law returns true, and nothing that was in memory has turned. Condition: none but that the arguments lie in memory as such do.
-/
import Derived.Test.YtffhnkljmalbiaaLsC
import Derived.Lib.MinMax
import Derived.Deep.RegionHeld3
import Derived.Deep.QuietTactic
import Derived.BigQuiet
import Derived.WalkSmall
import Derived.ArgAppend
namespace Go.Proofs.Ytffhnkljmalbiaa.Wd
open Go.ChangeShapes Go.WideShapes Go.ChangeAt Go.RowKit Go.Proofs.Ytffhnkljmalbiaa.M Go.Proofs.Ytffhnkljmalbiaa.Wv

theorem info51 : (Try.prog.info? 51).map (fun i => (i.zero, i.size, i.bytes)) = some (some (.slice none 0 0), 1, 24) := by kernel_rfl
theorem info9 : (Try.prog.info? 9).map (fun i => (i.zero, i.size, i.bytes)) = some (some (.string ⟨#[]⟩), 1, 16) := by kernel_rfl

theorem elem51 : Try.prog.elem 51 = 9 := by kernel_rfl
theorem cut1 (gp op n cp : Nat) (z : Int) (h : 0 < n) (hz : z = (n : Int) - 1) (hn : n ≤ cp) (u : World) :
    (Instr.slice 51 (.slice (some ⟨gp, op, none⟩) n cp) (some (.int .i64 z)) none none).run Try.prog u = .ok (.slice (some ⟨gp, op + (n - 1), none⟩) 1 (cp - (n - 1))) u := by
  have e : z.toNat = n - 1 := by omega
  have hr := run_slice_l (P := Try.prog) u 51 (some ⟨gp, op, none⟩) n cp (by rw [elem51]; exact Try.underlying51) .i64 z (by omega) (by omega)
  rw [hr, elem51, Try.sizeOf9 u, e]
  have e2 : n - (n - 1) = 1 := by omega
  have e3 : ¬ cp = n - 1 := by omega
  simp [Result.andThen, sliced, e2, e3, Addr.add]

/-- Whether a text is among the first t. -/
def hasT (L : Nat → ByteArray) (S : ByteArray) : Nat → Bool
  | 0 => false
  | t + 1 => hasT L S t || decide (L t = S)
theorem hasT_yes {L : Nat → ByteArray} {S : ByteArray} {u : Nat} (h : L u = S) : ∀ t, u < t → hasT L S t = true
  | 0, hu => by omega
  | t + 1, hu => by
    show (hasT L S t || decide (L t = S)) = true
    by_cases c : u = t
    · subst c
      rw [decide_eq_true h, Bool.or_true]
    · rw [hasT_yes h t (by omega), Bool.true_or]
theorem list_same (a b : ByteArray) : (a.toList == b.toList) = decide (a = b) := by
  by_cases h : a = b
  · rw [decide_eq_true h, h]
    simp
  · rw [decide_eq_false h]
    have : ¬ a.toList = b.toList := fun e => h (by
      rw [ByteArray.toList_eq, ByteArray.toList_eq] at e
      exact ByteArray.ext (Array.toList_inj.1 e))
    simpa using this

/-- Four slices made. -/
theorem made4 (u : World) : (Instr.makeSlice 50 (.int .i64 4) (.int .i64 4)).run Try.prog u = .ok (.slice (some ⟨u.heap.size, 0, none⟩) 4 4) (u.alloc (.cells (madeCells #[.slice none 0 0] 4) 51)) := by
  obtain ⟨i0, hi, hz0, hz1, hz2⟩ := info_parts info51
  have h := run_make (P := Try.prog) u 50 51 i0 (.slice none 0 0) Try.underlying50 hi hz0 .i64 .i64 4 4 (by omega) (by omega) (by rw [hz2]; omega) (by omega)
  simpa [hz1, Value.cells] using h
theorem row4 : madeCells #[.slice none 0 0] 4 = (r4 (mf 0 (fun _ => []) (fun _ => 0) (fun _ => 0) (fun _ => 0))).toArray := by
  apply Array.toList_inj.1
  apply List.ext_getElem
  · simp [madeCells, r4]
  · intro i h1 h2
    simp [madeCells, r4, mf, Nat.mod_one]
theorem my0 (w : World) : My (w.alloc (.cells (madeCells #[.slice none 0 0] 4) 51)) w.heap.size 0 (fun _ => []) (fun b => b = w.heap.size) (fun _ => 0) (fun _ => 0) (fun _ => 0) where
  row := by
    rw [heap_alloc_last, row4]
  each := fun i hi => by omega
  inj := fun i j hi => by omega
  ownM := rfl
  own := fun i hi => by omega
  lt := fun b hb => by rw [hb]; simp
  hJ := by omega

set_option maxRecDepth 100000 in
set_option maxHeartbeats 4000000 in
theorem lawLasts (ao : Option Addr) (len cap : Nat) (A : Nat → Av) (keep : Int) (w : World) (hcap : len ≤ cap) (_ : cap ≤ maxLen) (hA : Acts w ao len A) (hk0 : 0 ≤ keep) (hk1 : keep < 18446744073709551616) :
    Calls Try.prog 6 #[.slice ao len cap, .int .u64 keep] w fun e w' => e = .returned (.bool true) ∧ Below w.heap.size w w' := by
  have k2 : min (len : Int) 60 = ((min len 60 : Nat) : Int) := by omega
  obtain ⟨k, hk⟩ : ∃ k, k = min len 60 := ⟨_, rfl⟩
  have hk30 : k ≤ 60 := by omega
  have hkl : k ≤ len := by omega
  rw [← hk] at k2
  have HA := hid hA
  clear hk hA
  have NEW : Hid (∀ W, Below w.heap.size w W → Calls Try.prog 9 #[.slice (some ⟨W.heap.size, 0, none⟩) 1 1] (W.alloc (.cells #[.int .i64 4] 3)) fun e w' => e = .returned (.pointer (some ⟨W.heap.size + 1, 0, none⟩)) ∧ One w w' (W.heap.size + 1) (newD (fun _ => 4) 1) (Gr no (W.alloc (.cells #[.int .i64 4] 3)) w') ∧ Below W.heap.size W w') := fun W hW => by
    have bA : Below W.heap.size W (W.alloc (.cells #[.int .i64 4] 3)) := (Below.refl _ _).alloc (Nat.le_refl _) _
    have C := One.new (hW.trans (bA.mono hW.size)) (some ⟨W.heap.size, 0, none⟩) 1 1 (fun _ => 4) (by omega) (by omega) (fun j hj => ⟨W.heap.size, 0, rfl, by simp, by
      match j, hj with
      | 0, _ => exact blk_cell (l := [_]) (heap_alloc_last W _) rfl⟩)
    rw [show (W.alloc (.cells #[.int .i64 4] 3)).heap.size = W.heap.size + 1 by simp] at C
    exact C.mono fun e w' ⟨h1, h2, h3⟩ => ⟨h1, h2, bA.trans (h3.mono (by simp))⟩
  have hmk := made4
  go_enter Try.func6, Try.ntmps6
  go_wp2_with fail
  refine (NEW.out w (Below.refl _ _)).mono ?_
  rintro e w1 ⟨rfl, o1, b1⟩
  have O1 := hid o1
  clear o1 b1
  go_wp2_with fail
  refine (NEW.out w1 O1.out.bel).mono ?_
  rintro e w2 ⟨rfl, o2, b2⟩
  have T2 : Hid (∃ F G, One w w2 (w.heap.size + 1) (newD (fun _ => 4) 1) F ∧ One w w2 (w1.heap.size + 1) (newD (fun _ => 4) 1) G ∧ ∀ b, F b → ¬ G b) := ⟨_, _, O1.out.below b2, o2, fun b hf hg => by
    have h1 := O1.out.lt hf
    rcases hg with hg | hg
    · exact hg
    · have := hg.1; simp at this; omega⟩
  obtain ⟨D, hD⟩ : ∃ D, D = w.heap.size + 1 := ⟨_, rfl⟩
  obtain ⟨E, hE⟩ : ∃ E, E = w1.heap.size + 1 := ⟨_, rfl⟩
  rw [← hD, ← hE]
  rw [← hD, ← hE] at T2
  clear o2 b2 O1 NEW hD hE
  have START : Hid (∃ F G H, Lz w (w2.alloc (.cells (madeCells #[.slice none 0 0] 4) 51)) D E w2.heap.size 0 (newD (fun _ => 4) 1) (newD (fun _ => 4) 1) (fun _ => [noB]) F G H) := by
    obtain ⟨F, G, q1, q2, q3⟩ := T2.out
    have bA : Below w2.heap.size w2 (w2.alloc (.cells (madeCells #[.slice none 0 0] 4) 51)) := (Below.refl _ _).alloc (Nat.le_refl _) _
    exact ⟨F, G, fun b => b = w2.heap.size, q1.below bA, q2.below bA, q3, fun b hb hf => by have := q1.lt hf; omega, fun b hb hf => by have := q2.lt hf; omega, ⟨_, _, _, (my0 w2).congr fun i hi => by omega⟩, fun b hb => by rw [hb]; exact q1.bel.size⟩
  obtain ⟨M, hM⟩ : ∃ M, M = w2.heap.size := ⟨_, rfl⟩
  rw [← hM] at START
  have HM := hid hM
  clear T2 hM
  go_wp2
  rw [← HM.out]
  clear HM
  go_loopw [29] (fun iv wr => ∃ i : Nat, i ≤ 4 ∧ iv = .int .i64 (i : Int) ∧ ∃ F G H, Lz w wr D E M i (newD (fun _ => 4) 1) (newD (fun _ => 4) 1) (fun _ => [noB]) F G H) (fun iv _ => 4 - (intOf iv).toNat)
  case atStart => exact ⟨0, Nat.zero_le _, rfl, START.out⟩
  case round =>
    clear START hmk
    obtain ⟨i, hi, rfl, F, G, H, z⟩ := hrel
    by_cases hlt : i < 4
    · have CS := hid fun W => sector ⟨#[]⟩ W (by decide)
      rw [secB_none] at CS
      go_wp2_with fail
      refine (CS.out _).mono ?_
      rintro e w3 ⟨rfl, b3⟩
      have z3 := z.below b3
      obtain ⟨g, o, c, m⟩ := z3.my
      have bA : Below w3.heap.size w3 (w3.alloc (.cells #[.string noB] 9)) := (Below.refl _ _).alloc (Nat.le_refl _) _
      obtain ⟨H', Z'⟩ := z3.turn (J' := i + 1) m (i := i) (x := [noB]) (g1 := w3.heap.size) (o1 := 0) (c1 := 1) (by omega) (by omega) (fun j h1 h2 => by omega) (fun j h => by omega) (Kept.of_below bA) (bA.block _ (blk_lt m.row)) (fun j hj _ => bA.block _ (m.lt _ (m.own j hj))) (.inr (Nat.le_refl _))
        ⟨[.string noB], heap_alloc_last w3 _, rfl, Nat.le_refl _, fun t ht => by
          obtain rfl : t = 0 := by simpa using ht
          rfl⟩
      have ZZ := hid (Z'.congr (l' := fun _ => [noB]) fun j _ => by
        by_cases e : j = i
        · rw [e, upd_at]
        · rw [upd_off _ _ e])
      have mA := m.kept bA.size fun k hk => bA.block k (m.lt k hk)
      have hc := mA.any (show i < 4 from hlt)
      have hf := mA.free i
      clear Z' m mA bA z3 z b3
      generalize mf i (fun _ => [noB]) g o c i = V at hc
      go_wp2
      go_roundw
      case rel => exact ⟨i + 1, by omega, by go_num, _, _, _, ZZ.out⟩
      case measure => simp [intOf] <;> omega
    · obtain rfl : i = 4 := by omega
      have A0 : Hid (∃ (d : Dk) (l : Nat → List ByteArray) (F G H : Nat → Prop), Pl 0 d ∧ Lz w wr D E M 4 d d l F G H ∧ ∀ i, i < 4 → l i = mayOf d i) := ⟨_, _, F, G, H, Pl.new.1, z, fun i _ => (Pl.new.2 i).symm⟩
      clear z
      rw [show ((4 : Nat) : Int) = 4 from rfl]
      go_wp2
      go_loopw [44] (fun iv wr => ∃ j : Nat, j ≤ k ∧ iv = .int .i64 (j : Int) ∧ ∃ (d : Dk) (l : Nat → List ByteArray) (F G H : Nat → Prop), Pl j d ∧ Lz w wr D E M 4 d d l F G H ∧ ∀ i, i < 4 → l i = mayOf d i) (fun iv _ => k - (intOf iv).toNat)
      case atStart => exact ⟨0, Nat.zero_le _, rfl, A0.out⟩
      case round =>
        clear A0
        obtain ⟨j, hj, rfl, d, l, F, G, H, hpl, z, hl⟩ := hrel
        by_cases hlt : j < k
        · obtain ⟨ga, off, rfl, hga, a0, a1, a2, a3, a4, a5⟩ := act_cells HA.out z.o1.bel (by omega : j < len)
          have hok := HA.out.1 j (by omega)
          have hdz := hok.data
          obtain ⟨s1, s2⟩ := hok.sec
          generalize (A j).act = y0 at *
          generalize (A j).reg = y1 at *
          generalize (A j).sec = y2 at *
          generalize (A j).num = y3 at *
          generalize (A j).data = x at *
          generalize (A j).ka = ka at *
          generalize (A j).K = K at *
          generalize (A j).kc = kc at *
          clear hok
          obtain ⟨p, hp4, s3⟩ : ∃ p : Nat, p < 4 ∧ max 0 y2 % 4 = (p : Int) := ⟨(max 0 y2 % 4).toNat, by omega, by omega⟩
          have Z0 := hid (z.below ((Below.refl _ _).alloc (Nat.le_refl _) (.cells #[.int .i64 y0, .int .i64 y1, .int .i64 y2, .int .i64 y3, .string x, .slice ka K.length kc] 33)))
          have PL := hid hpl
          have HL := hid hl
          clear z hpl hl k2
          by_cases v2 : y0.tmod 10 = 2
          · have CF1 := hid (Z0.out.o1.flush (fun m hm => by have := PL.out.q1 m hm; omega) 0)
            go_wp2_with fail
            refine CF1.out.mono ?_
            rintro e1 w4 ⟨rfl, p1, p2⟩
            have Z1 := hid (Z0.out.left p1 p2)
            have CF2 := hid (Z1.out.o2.flush (fun m hm => by have := PL.out.q1 m hm; omega) 0)
            clear p1 p2 CF1 Z0
            go_wp2_with fail
            refine CF2.out.mono ?_
            rintro e1 w5 ⟨rfl, p1, p2⟩
            have Z2 := hid (Z1.out.right p1 p2)
            clear p1 p2 CF2 Z1
            obtain ⟨pl2, hz2⟩ := PL.out.flush
            have PL2 := hid pl2
            have HZ2 := hid hz2
            clear pl2 hz2
            go_wp2
            go_loopw [62] (fun iv wr => ∃ i : Nat, i ≤ 4 ∧ iv = .int .i64 (i : Int) ∧ ∃ (l' : Nat → List ByteArray) (F G H : Nat → Prop), Lz w wr D E M 4 (d.flush 0) (d.flush 0) l' F G H ∧ ∀ t, t < 4 → l' t = if t < i then mayOf (d.flush 0) t else mayOf d t) (fun iv _ => 4 - (intOf iv).toNat)
            case atStart => exact ⟨0, Nat.zero_le _, rfl, l, _, _, _, Z2.out, fun t ht => by rw [if_neg (by omega)]; exact HL.out t ht⟩
            case round =>
              clear Z2
              obtain ⟨i, hi, rfl, l', F', G', H', z, hl'⟩ := hrel
              by_cases hlt4 : i < 4
              · have zd := z.below (w' := wr.drew) ((Below.refl _ _).drew)
                obtain ⟨g, o, c, m⟩ := zd.my
                have hli : l' i = mayOf d i := by rw [hl' i hlt4, if_neg (by omega)]
                obtain ⟨hlast, hflu⟩ := HZ2.out i
                obtain ⟨H2, Z3⟩ := zd.cutLast m hlt4 (Z := ((d.r 0).set (fun _ => true)).s i) (by rw [hli]; exact hlast)
                have hn := PL.out.len i
                rw [← hli] at hn
                have FIN : Hid (∀ t, t < 4 → upd l' i [((d.r 0).set (fun _ => true)).s i] t = if t < i + 1 then mayOf (d.flush 0) t else mayOf d t) := fun t ht => by
                  by_cases e : t = i
                  · subst e
                    rw [upd_at, if_pos (by omega), hflu]
                  · rw [upd_off _ _ e, hl' t ht]
                    by_cases ct : t < i
                    · rw [if_pos ct, if_pos (by omega)]
                    · rw [if_neg ct, if_neg (by omega)]
                have hc := m.cell hlt4
                have hf := m.free i
                have hle := m.le hlt4
                have hsl := fun z hz => cut1 (g i) (o i) (l' i).length (c i) z hn.1 hz hle
                have hsl2 := hsl ((l' i).length - 1) rfl
                have hsub : wrap64 (((l' i).length : Int) - 1) = ((l' i).length : Int) - 1 := by unfold wrap64; omega
                have hsub2 : IntKind.i64.wrap (((l' i).length : Int) - 1) = ((l' i).length : Int) - 1 := by rw [IntKind.wrap_i64]; omega
                have ZZ := hid Z3
                clear hsl m zd z Z3 hflu hlast hli
                generalize (l' i).length = n at *
                generalize g i = gi at *
                generalize o i = oi at *
                generalize c i = ci at *
                go_wp2
                go_region
                all_goals (go_wp2; go_roundw)
                all_goals first | exact ⟨i + 1, by omega, by go_num, _, _, _, _, ZZ.out, FIN.out⟩ | (simp [intOf] <;> omega)
              · obtain rfl : i = 4 := by omega
                have ZZ : Hid (∃ (d : Dk) (l : Nat → List ByteArray) (F G H : Nat → Prop), Pl (j + 1) d ∧ Lz w wr D E M 4 d d l F G H ∧ ∀ i, i < 4 → l i = mayOf d i) := ⟨_, l', F', G', H', PL2.out, z, fun t ht => by rw [hl' t ht, if_pos ht]⟩
                clear z
                go_wp2
                go_roundw
                case rel => exact ⟨j + 1, by omega, by go_num, ZZ.out⟩
                case measure => simp [intOf] <;> omega
          · have nv2 : (y0.tmod 10 == 2) = false := by simpa using v2
            have hmn : min (x.size : Int) 50 = ((min x.size 50 : Nat) : Int) := by omega
            have CS := hid fun W => sector (x.extract 0 (min x.size 50)) W (by rw [ByteArray.size_extract]; unfold maxLen; omega)
            have hsx := secB_size (s := x.extract 0 (min x.size 50)) (by rw [ByteArray.size_extract]; omega)
            obtain ⟨u, hu⟩ : ∃ u, u = min x.size 50 := ⟨_, rfl⟩
            rw [← hu] at hmn CS hsx
            have hux : u ≤ x.size := by omega
            clear hu
            generalize secB (x.extract 0 u) = X at CS hsx
            go_wp2_with fail
            refine (CS.out _).mono ?_
            rintro e1 w4 ⟨rfl, b4⟩
            have Z1 := hid (Z0.out.below b4)
            obtain ⟨we, pl2, hm2⟩ := PL.out.write hp4 hsx
            have CW1 := hid (Z1.out.o1.write (fun m hm => by have := PL.out.q1 m hm; omega) 0 (p : Int) X)
            rw [we] at CW1
            clear b4 Z0 CS
            go_wp2_with fail
            refine CW1.out.mono ?_
            rintro e1 w5 ⟨rfl, p1, p2⟩
            have Z2 := hid (Z1.out.left p1 p2)
            have CW2 := hid (Z2.out.o2.write (fun m hm => by have := PL.out.q1 m hm; omega) 0 (p : Int) X)
            rw [we] at CW2
            clear p1 p2 CW1 Z1
            go_wp2_with fail
            refine CW2.out.mono ?_
            rintro e1 w6 ⟨rfl, p1, p2⟩
            have Z3 := hid (Z2.out.right p1 p2)
            have PL2 := hid pl2
            have HM2 := hid hm2
            have HLL := hid (PL.out.len p)
            clear p1 p2 CW2 Z2 we pl2 hm2
            obtain ⟨g, o, c, m⟩ := Z3.out.my
            have bA : Below w6.heap.size w6 (w6.alloc (.cells #[.string X] 9)) := (Below.refl _ _).alloc (Nat.le_refl _) _
            have Z4 := Z3.out.below bA
            have m4 := m.kept bA.size fun k hk => bA.block k (m.lt k hk)
            have hcM := m.cell hp4
            have hcM4 := hid (m4.cell hp4)
            have hfM4 := m4.free p
            have RO := hid fun hr => Z4.room m4 hp4 X hr
            have GO := hid fun (v' : Value) (w' : World) (ho : w'.ownsRow (w6.alloc (.cells #[.string X] 9)).heap.size 9 1 v' ((l p).length + 1) ((l p).map .string ++ [.string X])) (hg : (w6.alloc (.cells #[.string X] 9)).grownBy w' none) => Z4.grown m4 hp4 X ho hg
            have SP := hid fun t ht => m4.spare hp4 (t := t) ht
            have TX := hid fun t ht => m4.text hp4 (t := t) ht
            have hlc := m4.le hp4
            have hlen : (l p).length ≤ 61 := by rw [HL.out p hp4]; have := HLL.out.2; omega
            have END : Hid (∀ F G H' wX, Lz w wX D E M 4 (d.write 0 (p : Int) X) (d.write 0 (p : Int) X) (upd l p (l p ++ [X])) F G H' → ∃ (d : Dk) (l : Nat → List ByteArray) (F G H : Nat → Prop), Pl (j + 1) d ∧ Lz w wX D E M 4 d d l F G H ∧ ∀ i, i < 4 → l i = mayOf d i) := fun F G H' wX hZ => ⟨_, _, F, G, H', PL2.out, hZ, fun i hi => by
              rw [HM2.out i]
              by_cases e : p = i
              · subst e
                rw [upd_at, if_pos rfl, HL.out p hp4]
              · rw [upd_off _ _ (fun h => e h.symm), if_neg e, HL.out i hi]⟩
            have HLO : Hid (∀ t u, ((l p).map Value.string)[t]? = some u → t < (l p).length ∧ u = .string ((l p).getD t ⟨#[]⟩)) := fun t u hu => by
              rw [List.getElem?_map] at hu
              cases ht : (l p)[t]? with
              | none => rw [ht] at hu; cases hu
              | some y =>
                rw [ht] at hu
                refine ⟨(List.getElem?_eq_some_iff.1 ht).1, ?_⟩
                rw [List.getD_eq_getElem?_getD, ht]
                simpa using hu.symm
            have HLN : Hid (((l p).map Value.string).length = (l p).length) := List.length_map _
            obtain ⟨i0, hi0, hz0, hz1, hz2⟩ := info_parts info9
            clear m m4 Z4 bA Z3
            generalize g p = gp at *
            generalize o p = op at *
            generalize c p = cp at *
            generalize (l p).map Value.string = olds at *
            generalize (l p).length = n at *
            go_wp2_with (at_builtin; refine wpList_append_arg _ rfl _ _ 51 rfl 9 i0 (.string ⟨#[]⟩) 1 16 Try.underlying51 hi0 hz0 hz1 hz2 rfl (by decide) gp op n cp olds rfl ?lo ?olds ⟨w6.heap.size, 0, none⟩ 1 1 [.string X] rfl rfl ?c1 ?c2 ?spare ?mx ?bytes ?room ?grow)
            case lo => rw [HLN.out, Nat.mul_one]
            case olds =>
              intro t u hu
              obtain ⟨h1, rfl⟩ := HLO.out t u hu
              exact TX.out t h1
            case c1 =>
              intro t u hu
              match t, hu with
              | 0, hu => simp at hu; subst hu; simp [Addr.add]
            case c2 => intro u hu; simp at hu; subst hu; rfl
            case spare =>
              intro hr t ht
              obtain rfl : t = 0 := by simpa using ht
              rw [Nat.mul_one, Nat.add_zero]
              exact SP.out n (by omega)
            case mx => unfold maxLen; omega
            case bytes => omega
            case room =>
              intro hr
              obtain ⟨⟨H', Z5⟩, r1, r2⟩ := RO.out hr
              rw [hcM4.out] at r1
              have ZZ := hid (END.out _ _ _ _ Z5)
              change wpList _ _ _ _ _ (World.setCell _ _ _)
              clear Z5 RO GO SP TX HLO
              go_wp2
              go_roundw
              case rel => exact ⟨j + 1, by omega, by go_num, ZZ.out⟩
              case measure => simp [intOf] <;> omega
            case grow =>
              intro hr v' w7 hown hgrow
              obtain ⟨g', cap', rfl, ⟨H', Z5⟩, r1, r2⟩ := GO.out v' w7 (by rw [World.size_alloc]; exact hown) hgrow
              rw [hcM4.out] at r1
              have ZZ := hid (END.out _ _ _ _ Z5)
              clear Z5 RO GO SP TX HLO hown hgrow
              go_wp2
              go_roundw
              case rel => exact ⟨j + 1, by omega, by go_num, ZZ.out⟩
              case measure => simp [intOf] <;> omega
        · obtain rfl : j = k := by omega
          have PL := hid hpl
          have HL := hid hl
          have bA : Below wr.heap.size wr (wr.alloc (.cells #[.int .u64 keep] 49)) := (Below.refl _ _).alloc (Nat.le_refl _) _
          have Z0 := hid (z.below bA)
          have CC1 := hid (Z0.out.o1.crash (fun m hm => by have := PL.out.q1 m hm; omega) (K := [keep]) (ao := some ⟨wr.heap.size, 0, none⟩) (.inr ⟨wr.heap.size, 0, #[.int .u64 keep], 49, (0, 0), rfl, heap_alloc_last wr _, .inl (fun hf => by have := z.o1.lt hf; omega), fun t ht => by
            obtain rfl : t = 0 := by simpa using ht
            rfl⟩) (fun x hx => by
            rw [List.mem_singleton] at hx
            subst hx
            exact ⟨hk0, hk1⟩) 1)
          clear z hpl hl bA k2
          go_wp2_with fail
          refine CC1.out.mono ?_
          rintro e1 w4 ⟨rfl, p1, p2⟩
          have Z1 := hid (Z0.out.left p1 p2)
          clear p1 p2 CC1 Z0
          have bB : Below w4.heap.size w4 (w4.alloc (.cells #[.int .u64 18446744073709551615] 49)) := (Below.refl _ _).alloc (Nat.le_refl _) _
          have Z2 := hid (Z1.out.below bB)
          have CC2 := hid (Z2.out.o2.crash (fun m hm => by have := PL.out.q1 m hm; omega) (K := [18446744073709551615]) (ao := some ⟨w4.heap.size, 0, none⟩) (.inr ⟨w4.heap.size, 0, #[.int .u64 18446744073709551615], 49, (0, 0), rfl, heap_alloc_last w4 _, .inl (fun hf => by have := Z1.out.o2.lt hf; omega), fun t ht => by
            obtain rfl : t = 0 := by simpa using ht
            rfl⟩) (fun x hx => by
            rw [List.mem_singleton] at hx
            subst hx
            exact ⟨by decide, by decide⟩) 1)
          clear Z1 bB
          go_wp2_with fail
          refine CC2.out.mono ?_
          rintro e1 w5 ⟨rfl, p1, p2⟩
          have Z3 := hid (Z2.out.right p1 p2)
          clear p1 p2 CC2 Z2
          go_wp2
          go_loopw [120] (fun iv wr => ∃ i : Nat, i ≤ 4 ∧ iv = .int .i64 (i : Int) ∧ Below w5.heap.size w5 wr) (fun iv _ => 4 - (intOf iv).toNat)
          case atStart => exact ⟨0, Nat.zero_le _, rfl, Below.refl _ _⟩
          case round =>
            obtain ⟨i, hi4, rfl, hbel⟩ := hrel
            by_cases hlt4 : i < 4
            · have Z := Z3.out.below hbel
              obtain ⟨g, o, c, m⟩ := Z.my
              obtain ⟨r1, r2, r3⟩ := PL.out.crash [keep] hlt4
              obtain ⟨r4, r5, r6⟩ := PL.out.crash [18446744073709551615] hlt4
              have CR1 := hid (Z.o1.read r3 0 (i : Int))
              have CR2 := hid (Z.o2.read r6 0 (i : Int))
              rw [r1, r2] at CR1
              rw [r4, r5] at CR2
              have hmem := PL.out.keeps [keep] i
              have hlast := PL.out.last i
              have hli := HL.out i hlt4
              rw [← hli] at hmem hlast
              generalize stL (kb [keep] 0) (d.r 0).s (d.r 0).q (d.r 0).q.length i = S at CR1 hmem
              generalize stL (kb [18446744073709551615] 0) (d.r 0).s (d.r 0).q (d.r 0).q.length i = T at CR2 hlast
              have hlen := PL.out.len i
              rw [← hli] at hlen
              have hc := m.cell hlt4
              have hle := m.le hlt4
              have TX := fun t ht => m.text hlt4 (t := t) ht
              obtain ⟨n, hn⟩ : ∃ n, (l i).length = n + 1 := ⟨(l i).length - 1, by omega⟩
              have hx : wr.cell? ⟨g i, o i + n, none⟩ = some (.string T) := by
                rw [TX n (by omega)]
                rw [List.getLast?_eq_getElem?, hn] at hlast
                rw [List.getD_eq_getElem?_getD]
                have e : n + 1 - 1 = n := by omega
                rw [e] at hlast
                rw [hlast]
                rfl
              have TT : Hid (∀ t, t < n + 1 → wr.cell? ⟨g i, o i + t, none⟩ = some (.string ((l i).getD t ⟨#[]⟩))) := fun t ht => TX t (by omega)
              have MM : Hid (∃ u, u < n + 1 ∧ (l i).getD u ⟨#[]⟩ = S) := by
                obtain ⟨u, hu, he⟩ := List.getElem_of_mem hmem
                exact ⟨u, by omega, by rw [List.getD_eq_getElem?_getD, List.getElem?_eq_getElem hu, he]; rfl⟩
              rw [hn] at hc hle
              clear TX hlast hmem hli hlen r1 r2 r3 r4 r5 r6 m
              generalize g i = gi at *
              generalize o i = oi at *
              generalize c i = ci at *
              have hn60 : n ≤ 61 := by
                have := (PL.out.len i).2
                rw [← HL.out i hlt4, hn] at this
                omega
              clear hn
              have ZB := hid Z
              clear Z
              go_wp2_with fail
              refine CR1.out.mono ?_
              rintro e1 w7 ⟨rfl, rfl⟩
              go_wp2_with fail
              refine CR2.out.mono ?_
              rintro e1 w7 ⟨rfl, rfl⟩
              clear CR1 CR2
              go_wp2
              go_quiet (fail)
              go_wp2
              have hbel2 := hid hbel
              clear ZB hx
              obtain ⟨L, hL⟩ : ∃ L : Nat → ByteArray, L = fun t => (l i).getD t ⟨#[]⟩ := ⟨_, rfl⟩
              have TT2 : Hid (∀ t, t < n + 1 → wr.cell? ⟨gi, oi + t, none⟩ = some (.string (L t))) := by rw [hL]; exact TT.out
              have MM2 : Hid (∃ u, u < n + 1 ∧ L u = S) := by rw [hL]; exact MM.out
              clear hL TT MM hc
              rename_i wr0
              go_loopw [19, 162] (fun tv iv wq => ∃ t : Nat, t ≤ n + 1 ∧ iv = .int .i64 (t : Int) ∧ tv = .bool (hasT L S t) ∧ (∀ t, t < n + 1 → wq.cell? ⟨gi, oi + t, none⟩ = some (.string (L t))) ∧ Below w5.heap.size w5 wq) (fun _ iv _ => n + 1 - (intOf iv).toNat)
              case atStart => exact ⟨0, Nat.zero_le _, rfl, rfl, fun t ht => TT2.out t ht, below_drewN hbel2.out _⟩
              case round =>
                obtain ⟨t, ht1, rfl, rfl, tx, hb5⟩ := hrel
                by_cases hlt5 : t < n + 1
                · have hct := tx t hlt5
                  have HS : Hid (hasT L S (t + 1) = (hasT L S t || decide (L t = S))) := rfl
                  have TXX := hid tx
                  clear tx
                  cases hq : hasT L S t with
                  | true =>
                    rw [hq] at HS
                    go_wp2
                    go_roundw
                    case rel => exact ⟨t + 1, by omega, by go_num, by rw [HS.out]; rfl, TXX.out, hb5⟩
                    case measure => simp [intOf] <;> omega
                  | false =>
                    rw [hq] at HS
                    have hcmp := list_same (L t) S
                    by_cases e : L t = S
                    · rw [decide_eq_true e] at hcmp HS
                      have E := hid e
                      clear e
                      generalize L t = Y at hct hcmp E
                      go_wp2
                      go_roundw
                      case rel => exact ⟨t + 1, by omega, by go_num, by rw [HS.out]; rfl, TXX.out, hb5⟩
                      case measure => simp [intOf] <;> omega
                    · rw [decide_eq_false e] at hcmp HS
                      clear e
                      generalize L t = Y at hct hcmp
                      go_wp2
                      go_roundw
                      case rel => exact ⟨t + 1, by omega, by go_num, by rw [HS.out]; rfl, TXX.out, hb5⟩
                      case measure => simp [intOf] <;> omega
                · obtain rfl : t = n + 1 := by omega
                  obtain ⟨u, hu, he⟩ := MM2.out
                  rw [hasT_yes he _ hu]
                  clear he tx
                  go_wp2
                  go_roundw
                  case rel => exact ⟨i + 1, by omega, by go_num, hb5⟩
                  case measure => simp [intOf] <;> omega
            · obtain rfl : i = 4 := by omega
              have B5 := hid (Z3.out.o1.bel.trans (hbel.mono Z3.out.o1.bel.size))
              go_wp2_with fail
              refine (wakes _).mono ?_
              rintro e w8 ⟨rfl, b8⟩
              have B8 := hid (B5.out.trans (b8.mono B5.out.size))
              go_wp2
              go_ret
              exact ⟨rfl, B8.out⟩

end Go.Proofs.Ytffhnkljmalbiaa.Wd
