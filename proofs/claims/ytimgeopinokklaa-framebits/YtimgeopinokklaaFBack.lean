/-
  The walk of the law FrameBack: bodies, framed one behind the other, are read back, up to noughts behind them; the law returns true, and nothing that was in memory has turned. Conditions: none but that the slice lies in memory as slices do and that the number fits its kind.
-/
import Derived.Test.YtimgeopinokklaaRows
import Derived.Test.YtimgeopinokklaaMathY
import Derived.Test.YtimgeopinokklaaFAlls
import Derived.WalkKit
import Derived.ProofKit
import Derived.OpenShut
import Derived.WalkSpells
import Derived.Deep.QuietTactic
import Derived.BigQuiet
import Derived.WalkSmall
namespace Go.Proofs.Ytimgeopinokklaa.Wb2
open Go.ChangeShapes Go.WideShapes Go.ChangeAt Go.RowKit Go.Proofs.Ytimgeopinokklaa.M Go.Proofs.Ytimgeopinokklaa.Wl

/-- Of the first i texts those that can be framed. -/
def gl (y : Nat → ByteArray) : Nat → List ByteArray
  | 0 => []
  | i + 1 => if frE (y i) = 0 then gl y i ++ [y i] else gl y i
theorem gl_yes {y : Nat → ByteArray} {i : Nat} (h : frE (y i) = 0) : gl y (i + 1) = gl y i ++ [y i] := if_pos h
theorem gl_no {y : Nat → ByteArray} {i : Nat} (h : ¬ frE (y i) = 0) : gl y (i + 1) = gl y i := if_neg h
theorem gl_good (y : Nat → ByteArray) : ∀ i, Framable (gl y i)
  | 0 => fun b h => by cases h
  | i + 1 => by
    by_cases c : frE (y i) = 0
    · rw [gl_yes c]
      intro b hb
      rcases List.mem_append.1 hb with h | h
      · exact gl_good y i b h
      · rw [List.mem_singleton] at h
        subst h
        unfold frE at c
        by_cases c0 : (y i).size = 0
        · rw [if_pos c0] at c; cases c
        · rw [if_neg c0] at c
          by_cases c1 : 4096 < (y i).size
          · rw [if_pos c1] at c; cases c
          · omega
    · rw [gl_no c]
      exact gl_good y i
theorem gl_length (y : Nat → ByteArray) : ∀ i, (gl y i).length ≤ i
  | 0 => Nat.le_refl _
  | i + 1 => by
    have := gl_length y i
    by_cases c : frE (y i) = 0
    · rw [gl_yes c, List.length_append]; simp; omega
    · rw [gl_no c]; omega
/-- A list of texts as values. -/
def vs (l : List ByteArray) : List Value := l.map .string
theorem vs_snoc (l : List ByteArray) (b : ByteArray) : vs (l ++ [b]) = vs l ++ [.string b] := by simp [vs]
theorem vs_get {l : List ByteArray} {j : Nat} (h : j < l.length) : (vs l)[j]? = some (.string (l.getD j ⟨#[]⟩)) := by simp [vs, h]

/-- Noughts made and turned into a text. -/
theorem make_zs (z : Nat) (hz : z < 9) (u : World) : (Instr.makeSlice 39 (.int .i64 (z : Int)) (.int .i64 (z : Int))).run Try.prog u = .ok (.slice (some ⟨u.heap.size, 0, none⟩) z z) (u.alloc (.cells (madeCells #[.int .u8 0] z) 5)) := by
  obtain ⟨i0, hi, hz0, hz1, hz2⟩ := info_parts Wp.info8
  have h := run_make (P := Try.prog) u 39 5 i0 (.int .u8 0) Try.underlying39 hi hz0 .i64 .i64 (z : Int) (z : Int) (by omega) (Int.le_refl _) (by rw [hz2]; omega) (by omega)
  simpa [hz1, Value.cells] using h
theorem text_zs (z : Nat) (hz : z < 9) (u : World) : (convert 39 9 (.slice (some ⟨u.heap.size, 0, none⟩) z z)).run Try.prog (u.alloc (.cells (madeCells #[.int .u8 0] z) 5)) = .ok (.string (zs z)) (u.alloc (.cells (madeCells #[.int .u8 0] z) 5)) := by
  have hown : (u.alloc (.cells (madeCells #[.int .u8 0] z) 5)).ownsRow u.heap.size 5 1 (.slice (some ⟨u.heap.size, 0, none⟩) z z) z (madeCells #[.int .u8 0] z).toList :=
    World.ownsRow_lit (base := u.heap.size) (e := 5) (size := 1) u (madeCells #[.int .u8 0] z) z (Nat.le_refl _) (by unfold maxLen; omega) (by simp [size_madeCells])
  rw [made_bytes] at hown
  have h := run_convert_bytes_back (P := Try.prog) (u.alloc (.cells (madeCells #[.int .u8 0] z) 5)) 39 9 5 ⟨u.heap.size, 0, none⟩ z (List.replicate z (0 : UInt8)) Try.underlying39 Try.underlying5 Try.underlying9 (fun j hj => by
    have hj' : j < z := by simpa using hj
    have hc := hown.cellAt j (by omega)
    rw [Wp.add_at, hc]
    simp [hj'])
  rw [List.length_replicate] at h
  exact h

theorem backAt (al : Option Addr) (ll cl N z : Nat) (y : Nat → ByteArray) (m : Int) (w : World) (hy : ∀ i, (y i).size ≤ maxLen)
    (hcl : ll ≤ cl) (hll : ll ≤ 9223372036854775807) (eN : (if 20 < (ll : Int) then 20 else (ll : Int)) = (N : Int)) (hN : N ≤ 20) (hNl : N ≤ ll)
    (hm : max 0 m % 9 = (z : Int)) (hz : z < 9) (Hl : Lies w al ll y) :
    Calls Try.prog 7 #[.slice al ll cl, .int .i64 m] w fun e w' => e = .returned (.bool true) ∧ Below w.heap.size w w' := by
  have HL : Hid (Lies w al ll y) := Hl
  clear Hl
  have eN2 : min (ll : Int) 20 = (N : Int) := by rw [← eN]; split <;> omega
  obtain ⟨i0, hi, hz0, hz1, hz2⟩ := info_parts Wa.info9
  go_enter Try.func7, Try.ntmps7
  go_wp2
  go_loopw [5, 6, 20] (fun sv pv iv wr => ∃ i : Nat, i ≤ N ∧ iv = .int .i64 (i : Int) ∧ sv = .string (frs (gl y i)) ∧ wr.ownsRow w.heap.size 9 1 pv (gl y i).length (vs (gl y i)) ∧ Below w.heap.size w wr) (fun _ _ i _ => N - (intOf i).toNat)
  case atStart => exact ⟨0, Nat.zero_le _, rfl, rfl, World.ownsRow_nil _ _ _ _, Below.refl _ _⟩
  case round =>
    obtain ⟨i, hi', rfl, rfl, hown, hbel⟩ := hrel
    have hsz := hbel.size
    have hgl := gl_length y i
    have hgs := frs_size (gl y i) (gl_good y i)
    by_cases hlt : i < N
    · rcases HL.out with h | ⟨b, off, hal, hb, hc⟩
      · exfalso; omega
      · have hci : wr.cell? ⟨b, off + i, none⟩ = some (.string (y i)) := by rw [← hc i (by omega)]; exact hbel.cell (by exact hb)
        subst hal
        have hyi := hy i
        have C : Hid _ := fun w => Wf.put (y i) w hyi
        have HY : Hid (frE (y i) = 0 → gl y (i + 1) = gl y i ++ [y i]) := fun h => gl_yes h
        have HN : Hid (¬ frE (y i) = 0 → gl y (i + 1) = gl y i) := fun h => gl_no h
        clear eN eN2 hc hy hm
        generalize y i = Y at hci C HY HN hyi
        generalize gl y i = L at hown hgl hgs HY HN
        unfold maxLen at hyi
        by_cases c0 : Y.size = 0
        · obtain ⟨e1, e2⟩ := fr_none c0
          obtain rfl := Wf.none_of c0
          rw [e1, e2] at C
          rw [e1] at HN
          clear e1 e2 HY
          go_wp2_with (go_at_call 11; refine (C.out _).mono ?_; rintro e w1 ⟨rfl, b1⟩)
          go_roundw
          case rel => exact ⟨i + 1, by omega, by go_num, by rw [HN.out (by decide), app_empty], by rw [HN.out (by decide)]; exact Wa.own_below hown b1, hbel.trans (b1.mono hsz)⟩
          case measure => simp [intOf] <;> omega
        · by_cases c1 : 4096 < Y.size
          · obtain ⟨e1, e2⟩ := fr_long c0 c1
            have hne := Wf.full_of c0
            rw [e1, e2] at C
            rw [e1] at HN
            clear e1 e2 HY c0
            go_wp2_with (go_at_call 11; refine (C.out _).mono ?_; rintro e w1 ⟨rfl, b1⟩)
            go_roundw
            case rel => exact ⟨i + 1, by omega, by go_num, by rw [HN.out (by decide), app_empty], by rw [HN.out (by decide)]; exact Wa.own_below hown b1, hbel.trans (b1.mono hsz)⟩
            case measure => simp [intOf] <;> omega
          · obtain ⟨e1, e2⟩ := fr_ok c0 c1
            have hne := Wf.full_of c0
            have hle : decide ((Y.size : Int) ≤ 4096) = true := decide_eq_true (by omega)
            rw [e1, e2] at C
            have HS : Hid (gl y (i + 1) = L ++ [Y]) := HY.out e1
            have HF : Hid (frs (L ++ [Y]) = frs L ++ fr Y) := frs_snoc L Y
            have HV : Hid (vs (L ++ [Y]) = vs L ++ [.string Y]) := vs_snoc L Y
            have HK : Hid ((L ++ [Y]).length = L.length + 1) := List.length_append
            have hfs := fr_size Y
            generalize frs L = S at hgs HF
            generalize fr Y = F at C HF hfs
            generalize vs L = V at hown HV
            generalize L.length = n at hown HK hgl hgs
            generalize hL : L ++ [Y] = L' at HS HF HV HK
            clear hL e1 e2 HY HN c0
            go_wp2_with (first | (go_at_call 11; refine (C.out _).mono ?_; rintro e w1 ⟨rfl, b1⟩; have hown1 := Wa.own_below hown b1; have hz1' := b1.size) | (at_builtin; refine wpList_append_own _ rfl _ _ 36 rfl w.heap.size 9 i0 (.string ⟨#[]⟩) 1 16 Try.underlying36 hi hz0 hz1 hz2 rfl (by decide) _ _ _ rfl (hown1.alloc _) ⟨w1.heap.size, 0, none⟩ 1 1 [.string Y] rfl rfl ?c1 ?c2 ?c3 ?c4 ?c5 ?_))
            case c1 =>
              intro j u hj
              match j, hj with
              | 0, hj => simp at hj; subst hj; simp [Addr.add]
            case c2 => intro u hu; simp at hu; subst hu; rfl
            case c3 => unfold maxLen; omega
            case c4 => omega
            case c5 => simp; omega
            · intro v' w2 hown2 hgrow _
              have hlt2 := hown1.lt
              have B2 : Hid (Below w.heap.size w w2) := ((hbel.trans (b1.mono hsz)).alloc (by omega) _).grown hgrow (by simp; omega) fun k hk => (hlt2 k hk).1
              clear hown1 hgrow hlt2
              go_wp2
              go_roundw
              case rel => exact ⟨i + 1, by omega, by go_num, by rw [HS.out, HF.out], by rw [HS.out, HV.out, HK.out]; exact hown2, B2.out⟩
              case measure => simp [intOf] <;> omega
    · obtain rfl : i = N := by omega
      have hg := gl_good y i
      obtain ⟨F1, F2, F3⟩ := back_fst (n := z) hg
      have hzz := zs_size z
      have A : Hid _ := fun w => Wa.all (frs (gl y i) ++ zs z) w (by rw [size_app]; omega)
      have H3 : Hid (∀ j, j < (gl y i).length → bd (frs (gl y i) ++ zs z) j = (gl y i).getD j ⟨#[]⟩) := fun j hj => by rw [F3 j hj]; simp [List.getD, hj]
      have HF : Hid (Fst (frs (gl y i) ++ zs z) (gl y i).length) := F1
      have HP : Hid (pl (frs (gl y i) ++ zs z) (gl y i).length = (frs (gl y i)).size) := F2
      obtain ⟨a, cap, hv, hc, hm', L1⟩ := own_lies (f := fun j => (gl y i).getD j ⟨#[]⟩) hown (fun j hj => vs_get hj)
      subst hv
      clear F1 F2 F3 hg eN eN2 hy HL hown
      generalize frs (gl y i) = S at *
      generalize gl y i = L at *
      generalize L.length = n at *
      unfold maxLen at hm'
      have M1 := make_zs z hz wr
      have M2 := text_zs z hz wr
      go_wp2_with fail
      refine (A.out _).mono ?_
      rintro e w1 ⟨k, v, hF, rfl, own1, b1⟩
      obtain rfl := fst_one hF HF.out
      rw [HP.out]
      have b0 : Below wr.heap.size wr w1 := ((Below.refl _ _).alloc (Nat.le_refl _) _).trans (b1.mono (by simp))
      obtain ⟨a', cap', rfl, hc', hm2, L2⟩ := own_lies own1 (fun j hj => bds_get hj)
      have L1' := L1.below b0
      clear own1 M1 M2 A HF HP hF L1
      go_wp2_with fail
      refine (Ww.wakes _).mono ?_
      rintro e w3 ⟨rfl, b3⟩
      have H1 : Hid (Lies w3 a k fun j => L.getD j ⟨#[]⟩) := L1'.below b3
      have H2 : Hid (Lies w3 a' k (bd (S ++ zs z))) := L2.below b3
      have s0 := b0.size
      have B : Hid (Below w.heap.size w w3) := hbel.trans ((b0.mono (by omega)).trans (b3.mono (by omega)))
      clear L1' L2 b0 b1 b3 s0 hbel
      unfold maxLen at hm2
      go_wp2
      go_loopw [77] (fun iv wr => ∃ i : Nat, i ≤ k ∧ iv = .int .i64 (i : Int) ∧ Below w3.heap.size w3 wr) (fun i _ => k - (intOf i).toNat)
      case atStart => exact ⟨0, Nat.zero_le _, rfl, Below.refl _ _⟩
      case round =>
        obtain ⟨j, hj, rfl, hbel⟩ := hrel
        by_cases hlt : j < k
        · rcases H1.out with h | ⟨g, off, ha, hb, hcell⟩
          · exfalso; omega
          · rcases H2.out with h | ⟨g', off', ha', hb', hcell'⟩
            · exfalso; omega
            · have hci : wr.cell? ⟨g, off + j, none⟩ = some (.string (L.getD j ⟨#[]⟩)) := by rw [← hcell j hlt]; exact hbel.cell (by exact hb)
              have hci' : wr.cell? ⟨g', off' + j, none⟩ = some (.string (L.getD j ⟨#[]⟩)) := by rw [← H3.out j hlt, ← hcell' j hlt]; exact hbel.cell (by exact hb')
              generalize L.getD j ⟨#[]⟩ = x at hci hci'
              clear hcell hcell'
              subst ha ha'
              go_wp2
              go_quiet (fail)
              go_wp2
              go_roundw
              case rel => exact ⟨j + 1, by omega, by go_num, below_drewN hbel _⟩
              case measure => simp [intOf] <;> omega
        · obtain rfl : j = k := by omega
          go_wp2
          go_ret
          exact ⟨rfl, B.out.trans (hbel.mono B.out.size)⟩

end Go.Proofs.Ytimgeopinokklaa.Wb2
