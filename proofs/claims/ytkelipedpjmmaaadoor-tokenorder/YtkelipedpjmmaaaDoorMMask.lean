/-
  The walks of mac.byteAt, mac.masked, mac.Inner, mac.Outer and mac.Tag: what a key is laid as, and the tag, as 'lay' and 'tag' say; nothing that was in memory has turned. Conditions: keys and texts of at most 2^47 bytes and some; the table of the rounds' numbers holds what it was laid with.
-/
import Derived.Test.YtkelipedpjmmaaaDoorRows
import Derived.Test.YtkelipedpjmmaaaDoorQa
import Derived.Test.YtkelipedpjmmaaaDoorSWith
import Derived.WalkKit
import Derived.ProofKit
import Derived.OpenShut
import Derived.Laws.IdiomStrings
namespace Go.Proofs.YtkelipedpjmmaaaDoor.Wm
open Go.ChangeShapes Go.WideShapes Go.ChangeAt Go.RowKit Go.Proofs.YtkelipedpjmmaaaDoor.M Go.Proofs.YtkelipedpjmmaaaDoor.Wh

theorem byteAt (s : ByteArray) (i : Nat) (w : World) (_ : s.size ≤ 281474976710656) (_ : i ≤ 281474976710656) :
    Calls Tryd.prog 31 #[.string s, .int .i64 (i : Int)] w fun e w' => e = .returned (.int .u8 (bx s i : Int)) ∧ w = w' := by
  by_cases h : i < s.size
  · have hb : ∀ h, ((s[i]'h).toNat : Int) = (bx s i : Int) := fun h => by rw [bx_get h]
    go_enter Tryd.func31, Tryd.ntmps31
    go_wp2
    go_ret
    exact ⟨rfl, rfl⟩
  · rw [bx_none h]
    go_enter Tryd.func31, Tryd.ntmps31
    go_wp2
    go_ret
    exact ⟨rfl, rfl⟩

/-- A block of 64 bytes; nothing below it has turned. -/
def JK (w : World) (g : Nat) (b : List Nat) (W : World) : Prop := W.heap[g]? = some (.cells (c8 b) 113 (0, 0)) ∧ w.heap.size ≤ g ∧ Below w.heap.size w W
theorem JK.set {w W : World} {g : Nat} {b : List Nat} (h : JK w g b W) (i v : Nat) : JK w g (b.set i v) (W.setCell ⟨g, i, none⟩ (.int .u8 (v : Int))) := by
  obtain ⟨h1, h2, h3⟩ := h
  refine ⟨?_, h2, h3.setCell (p := ⟨_, _, none⟩) (by simp; omega) _⟩
  rw [heap_setCell_same W g i _ _ _ h1, c8_set]

theorem add_at (g j : Nat) : (⟨g, 0, none⟩ : Addr).add j = ⟨g, j, none⟩ := by
  unfold Addr.add
  split
  · rename_i h; rw [h]
  · simp
/-- The bytes of such a block as a text. -/
theorem text_of {w W : World} {g : Nat} {Y : ByteArray} {m cap : Nat} (hm : m < 256) (h : JK w g (ms Y m) W) :
    (convert 42 9 (.slice (some ⟨g, 0, none⟩) 64 cap)).run Tryd.prog W = .ok (.string (lyB Y m 64)) W := by
  have hl := lyL_len Y m 64
  have hh := run_convert_bytes_back (P := Tryd.prog) W 42 9 5 ⟨g, 0, none⟩ cap (lyL Y m 64) Tryd.underlying42 Tryd.underlying5 Tryd.underlying9 (fun j hj => by
    rw [hl] at hj
    rw [add_at, cell_of_row W g j _ _ _ h.1, c8_get _ _ (by rw [ms_len]; exact hj), ms_get Y m hj]
    have e := lyL_get Y m 64 j hj
    rw [List.getElem?_eq_getElem (by rw [hl]; exact hj)] at e
    rw [Option.some.inj e, of_byte (bx_lt _ _) hm])
  rw [hl] at hh
  exact hh

set_option maxRecDepth 100000 in
set_option maxHeartbeats 1000000 in
theorem masked (K : ByteArray) (m : Nat) (w : World) (hm : m < 256) (hK : K.size ≤ 140737488355328) (hT : Tab w) :
    Calls Tryd.prog 50 #[.string K, .int .u8 (m : Int)] w fun e w' => e = .returned (.string (lay K m)) ∧ Below w.heap.size w w' := by
  have HY : Hid (lay K m = lyB (ky K) m 64) := rfl
  have hys := ky_size K
  have CS : Hid (Calls Tryd.prog 32 #[.string K] w fun e w' => e = .returned (.string (dig K)) ∧ Below w.heap.size w w') := sum K w (by omega) hT
  have hd := dig_size K
  clear hT
  by_cases hk : 64 < K.size
  · rw [ky_long hk] at HY hys
    generalize dig K = Y at CS hd HY hys
    go_enter Tryd.func50, Tryd.ntmps50
    go_wp2_with fail
    refine CS.out.mono ?_
    rintro e w1 ⟨rfl, b1⟩
    have hJ : Hid (JK w w1.heap.size (fil (ms Y m) 0) (w1.alloc (.cells (c8 (List.replicate 64 0)) 113))) := ⟨heap_alloc_new w1 _, b1.size, b1.alloc b1.size _⟩
    rw [zeros64b] at hJ
    clear CS b1
    go_wp2
    generalize w1.heap.size = g at hJ ⊢
    go_loopw [12] (fun iv wr => ∃ i : Nat, i ≤ 64 ∧ iv = .int .i64 (i : Int) ∧ JK w g (fil (ms Y m) i) wr) (fun i _ => 64 - (intOf i).toNat)
    case atStart => exact ⟨0, Nat.zero_le _, rfl, hJ.out⟩
    case round =>
      clear hJ
      obtain ⟨i, hi, rfl, hj⟩ := hrel
      by_cases hi64 : i < 64
      · have C : Hid (∀ w, Calls Tryd.prog 31 #[.string Y, .int .i64 (i : Int)] w fun e w' => e = .returned (.int .u8 (bx Y i : Int)) ∧ w = w') := fun w => byteAt Y i w (by omega) (by omega)
        have hv := u8_xor_nat (bx Y i) m (bx_lt Y i) hm
        have kc := (cell_of_row wr g i _ _ _ hj.1).trans (c8_get (fil (ms Y m) i) i (by rw [fil_len]; exact hi64))
        have kz := frozen_of_row wr g i _ _ hj.1
        have hnx : fil (ms Y m) (i + 1) = (fil (ms Y m) i).set i ((ms Y m).getD i 0) := rfl
        rw [ms_get Y m hi64] at hnx
        generalize bx Y i = x at C hv hnx
        generalize x ^^^ m = v at hv hnx
        have HNX : Hid _ := hnx
        have hi1 : (i : Int) < 64 := by omega
        clear hnx
        go_wp2_with fail
        refine (C.out _).mono ?_
        rintro e w2 ⟨rfl, rfl⟩
        go_wp2
        go_roundw
        case rel =>
          refine ⟨i + 1, by omega, by go_num, ?_⟩
          rw [HNX.out]
          exact hj.set i v
        case measure => simp [intOf] <;> omega
      · have h64 : i = 64 := by omega
        have e64 : (i : Int) = 64 := by omega
        rw [h64, fil_full _ (ms_len Y m)] at hj
        rw [e64]
        have hcv := text_of (cap := 64) hm hj
        have HJ : Hid _ := hj
        generalize lyB Y m 64 = R at hcv HY
        clear hj
        go_wp2
        go_ret
        exact ⟨by rw [HY.out]; rfl, HJ.out.2.2⟩
  · rw [ky_short hk] at HY hys
    clear CS hd
    have hJ : Hid (JK w w.heap.size (fil (ms K m) 0) (w.alloc (.cells (c8 (List.replicate 64 0)) 113))) := ⟨heap_alloc_new w _, Nat.le_refl _, (Below.refl _ _).alloc (Nat.le_refl _) _⟩
    rw [zeros64b] at hJ
    go_enter Tryd.func50, Tryd.ntmps50
    go_wp2
    obtain ⟨g, hg⟩ : ∃ g, g = w.heap.size := ⟨_, rfl⟩
    rw [← hg]
    have hJ' : Hid (JK w g (fil (ms K m) 0) (w.alloc (.cells #[.int .u8 0, .int .u8 0, .int .u8 0, .int .u8 0, .int .u8 0, .int .u8 0, .int .u8 0, .int .u8 0, .int .u8 0, .int .u8 0, .int .u8 0, .int .u8 0, .int .u8 0, .int .u8 0, .int .u8 0, .int .u8 0, .int .u8 0, .int .u8 0, .int .u8 0, .int .u8 0, .int .u8 0, .int .u8 0, .int .u8 0, .int .u8 0, .int .u8 0, .int .u8 0, .int .u8 0, .int .u8 0, .int .u8 0, .int .u8 0, .int .u8 0, .int .u8 0, .int .u8 0, .int .u8 0, .int .u8 0, .int .u8 0, .int .u8 0, .int .u8 0, .int .u8 0, .int .u8 0, .int .u8 0, .int .u8 0, .int .u8 0, .int .u8 0, .int .u8 0, .int .u8 0, .int .u8 0, .int .u8 0, .int .u8 0, .int .u8 0, .int .u8 0, .int .u8 0, .int .u8 0, .int .u8 0, .int .u8 0, .int .u8 0, .int .u8 0, .int .u8 0, .int .u8 0, .int .u8 0, .int .u8 0, .int .u8 0, .int .u8 0, .int .u8 0] 113))) := by rw [hg]; exact hJ
    clear hJ hg
    go_loopw [12] (fun iv wr => ∃ i : Nat, i ≤ 64 ∧ iv = .int .i64 (i : Int) ∧ JK w g (fil (ms K m) i) wr) (fun i _ => 64 - (intOf i).toNat)
    case atStart => exact ⟨0, Nat.zero_le _, rfl, hJ'.out⟩
    case round =>
      clear hJ'
      obtain ⟨i, hi, rfl, hj⟩ := hrel
      by_cases hi64 : i < 64
      · have C : Hid (∀ w, Calls Tryd.prog 31 #[.string K, .int .i64 (i : Int)] w fun e w' => e = .returned (.int .u8 (bx K i : Int)) ∧ w = w') := fun w => byteAt K i w (by omega) (by omega)
        have hv := u8_xor_nat (bx K i) m (bx_lt K i) hm
        have kc := (cell_of_row wr g i _ _ _ hj.1).trans (c8_get (fil (ms K m) i) i (by rw [fil_len]; exact hi64))
        have kz := frozen_of_row wr g i _ _ hj.1
        have hnx : fil (ms K m) (i + 1) = (fil (ms K m) i).set i ((ms K m).getD i 0) := rfl
        rw [ms_get K m hi64] at hnx
        generalize bx K i = x at C hv hnx
        generalize x ^^^ m = v at hv hnx
        have HNX : Hid _ := hnx
        have hi1 : (i : Int) < 64 := by omega
        clear hnx
        go_wp2_with fail
        refine (C.out _).mono ?_
        rintro e w2 ⟨rfl, rfl⟩
        go_wp2
        go_roundw
        case rel =>
          refine ⟨i + 1, by omega, by go_num, ?_⟩
          rw [HNX.out]
          exact hj.set i v
        case measure => simp [intOf] <;> omega
      · have h64 : i = 64 := by omega
        have e64 : (i : Int) = 64 := by omega
        rw [h64, fil_full _ (ms_len K m)] at hj
        rw [e64]
        have hcv := text_of (cap := 64) hm hj
        have HJ : Hid _ := hj
        generalize lyB K m 64 = R at hcv HY
        clear hj
        go_wp2
        go_ret
        exact ⟨by rw [HY.out]; rfl, HJ.out.2.2⟩

theorem inner (K : ByteArray) (w : World) (hK : K.size ≤ 140737488355328) (hT : Tab w) :
    Calls Tryd.prog 34 #[.string K] w fun e w' => e = .returned (.string (lay K 54)) ∧ Below w.heap.size w w' := by
  have C : Hid (Calls Tryd.prog 50 #[.string K, .int .u8 54] w fun e w' => e = .returned (.string (lay K 54)) ∧ Below w.heap.size w w') := masked K 54 w (by decide) hK hT
  generalize lay K 54 = R at C
  go_enter Tryd.func34, Tryd.ntmps34
  go_wp2_with fail
  refine C.out.mono ?_
  rintro e w1 ⟨rfl, b1⟩
  go_wp2
  go_ret
  exact ⟨rfl, b1⟩
theorem outer (K : ByteArray) (w : World) (hK : K.size ≤ 140737488355328) (hT : Tab w) :
    Calls Tryd.prog 33 #[.string K] w fun e w' => e = .returned (.string (lay K 92)) ∧ Below w.heap.size w w' := by
  have C : Hid (Calls Tryd.prog 50 #[.string K, .int .u8 92] w fun e w' => e = .returned (.string (lay K 92)) ∧ Below w.heap.size w w') := masked K 92 w (by decide) hK hT
  generalize lay K 92 = R at C
  go_enter Tryd.func33, Tryd.ntmps33
  go_wp2_with fail
  refine C.out.mono ?_
  rintro e w1 ⟨rfl, b1⟩
  go_wp2
  go_ret
  exact ⟨rfl, b1⟩

theorem tag_ (K T : ByteArray) (w : World) (hK : K.size ≤ 140737488355328) (hs : T.size ≤ 140737488355328) (hT : Tab w) :
    Calls Tryd.prog 20 #[.string K, .string T] w fun e w' => e = .returned (.string (tag K T)) ∧ Below w.heap.size w w' := by
  have CO : Hid (∀ W, Tab W → Calls Tryd.prog 33 #[.string K] W fun e w' => e = .returned (.string (lay K 92)) ∧ Below W.heap.size W w') := fun W h => outer K W hK h
  have CI : Hid (∀ W, Tab W → Calls Tryd.prog 34 #[.string K] W fun e w' => e = .returned (.string (lay K 54)) ∧ Below W.heap.size W w') := fun W h => inner K W hK h
  have s1 := lay_size K 92
  have s2 := lay_size K 54
  have s3 : (lay K 54 ++ T).size = 64 + T.size := by rw [ByteArray.size_append, s2]
  have CD : Hid (∀ W, Tab W → Calls Tryd.prog 32 #[.string (lay K 54 ++ T)] W fun e w' => e = .returned (.string (dig (lay K 54 ++ T))) ∧ Below W.heap.size W w') := fun W h => sum _ W (by omega) h
  have s4 := dig_size (lay K 54 ++ T)
  have s5 : (lay K 92 ++ dig (lay K 54 ++ T)).size = 96 := by rw [ByteArray.size_append, s1, s4]
  have CE : Hid (∀ W, Tab W → Calls Tryd.prog 32 #[.string (lay K 92 ++ dig (lay K 54 ++ T))] W fun e w' => e = .returned (.string (tag K T)) ∧ Below W.heap.size W w') := fun W h => sum _ W (by omega) h
  generalize tag K T = R at CE
  generalize dig (lay K 54 ++ T) = D at CD CE s4 s5
  generalize lay K 54 = A at CI CD s2 s3
  generalize lay K 92 = B at CO CE s1 s5
  have HT : Hid (Tab w) := hT
  clear hT
  go_enter Tryd.func20, Tryd.ntmps20
  go_wp2_with fail
  refine (CO.out _ HT.out).mono ?_
  rintro e w1 ⟨rfl, b1⟩
  have h1 : Hid (Tab w1) := HT.out.below b1 HT.out.pos
  go_wp2_with fail
  refine (CI.out _ h1.out).mono ?_
  rintro e w2 ⟨rfl, b2⟩
  have h2 : Hid (Tab w2) := h1.out.below b2 h1.out.pos
  go_wp2_with fail
  refine (CD.out _ h2.out).mono ?_
  rintro e w3 ⟨rfl, b3⟩
  have h3 : Hid (Tab w3) := h2.out.below b3 h2.out.pos
  go_wp2_with fail
  refine (CE.out _ h3.out).mono ?_
  rintro e w4 ⟨rfl, b4⟩
  go_wp2
  go_ret
  have bb : Below w.heap.size w w3 := (b1.trans (b2.mono b1.size)).trans (b3.mono (Nat.le_trans b1.size b2.size))
  exact ⟨rfl, bb.trans (b4.mono bb.size)⟩

end Go.Proofs.YtkelipedpjmmaaaDoor.Wm
