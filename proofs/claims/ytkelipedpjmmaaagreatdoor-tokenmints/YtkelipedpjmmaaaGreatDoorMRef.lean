/-
  The walks of the document's laid, Inner, Outer, With and Tag (layer 5): what a key is laid as, and the tag, as 'lay' and 'tag' say; nothing that was in memory has turned. Conditions: keys and texts of less than 2^47 bytes.
-/
import Derived.Test.YtkelipedpjmmaaaGreatDoorRows
import Derived.Test.YtkelipedpjmmaaaGreatDoorQa
import Derived.Test.YtkelipedpjmmaaaGreatDoorSWith
import Derived.WalkKit
import Derived.ProofKit
import Derived.OpenShut
import Derived.Laws.IdiomStrings
namespace Go.Proofs.YtkelipedpjmmaaaGreatDoor.Wl
open Go.ChangeShapes Go.WideShapes Go.ChangeAt Go.RowKit Go.Proofs.YtkelipedpjmmaaaGreatDoor.M Go.Proofs.YtkelipedpjmmaaaGreatDoor.Wh

theorem one_byte (wr : World) (v : Nat) (hv : v < 256) : (convert 72 9 (.slice (some ⟨wr.heap.size, 0, none⟩) 1 1)).run Tryz.prog (wr.alloc (.cells #[.int .u8 (v : Int)] 5)) = .ok (.string ⟨#[UInt8.ofNat v]⟩) (wr.alloc (.cells #[.int .u8 (v : Int)] 5)) :=
  run_convert_bytes_back (P := Tryz.prog) _ 72 9 5 ⟨wr.heap.size, 0, none⟩ 1 [UInt8.ofNat v] Tryz.underlying72 Tryz.underlying5 Tryz.underlying9 (fun j hj => by
    match j, hj with
    | 0, _ =>
      rw [show (⟨wr.heap.size, 0, none⟩ : Addr).add 0 = ⟨wr.heap.size, 0, none⟩ from rfl, World.cell?_alloc_mark]
      simp
      omega)
theorem nought_xor {m : Nat} (hm : m < 256) : bits .xor .u8 0 (m : Int) = ((0 ^^^ m : Nat) : Int) := u8_xor_nat 0 m (by decide) hm

set_option maxRecDepth 100000 in
set_option maxHeartbeats 1000000 in
theorem laid (K : ByteArray) (m : Nat) (w : World) (hm : m < 256) (hK : K.size ≤ 140737488355328) :
    Calls Tryz.prog 48 #[.agg (c32 rns), .string K, .int .u8 (m : Int)] w fun e w' => e = .returned (.string (lay K m)) ∧ Below w.heap.size w w' := by
  have HY : Hid (lay K m = lyB (ky K) m 64) := rfl
  have hys := ky_size K
  have CS : Hid (∀ W, Calls Tryz.prog 49 #[.agg (c32 rns), .string K] W fun e w' => e = .returned (.string (dig K)) ∧ Below W.heap.size W w') := fun W => with_ rns K W rns_len (by omega)
  have hd := dig_size K
  have i2 : Hid ((Tryz.prog.info? 62).map (·.size) = some (c32 rns).size) := by rw [c32_size, rns_len]; exact info64w
  have H1 : Hid ((w.alloc (.cells (c32 rns) 62)).heap[w.heap.size]? = some (.cells (c32 rns) 62 (0, 0))) := heap_alloc_new w _
  have b0 : Below w.heap.size w (w.alloc (.cells (c32 rns) 62)) := (Below.refl _ _).alloc (Nat.le_refl _) _
  have LN : Hid (∀ Y i, lyB Y m i ++ ⟨#[UInt8.ofNat (bx Y i ^^^ m)]⟩ = lyB Y m (i + 1)) := fun Y i => lyB_next Y m i
  by_cases hk : 64 < K.size
  · rw [ky_long hk] at HY hys
    generalize dig K = Y at CS hd HY hys
    have z0 : Hid (lyB Y m 0 = ⟨#[]⟩) := rfl
    go_enter Tryz.func48, Tryz.ntmps48
    go_wp2_with (refine wpList_load_row rfl 62 _ rfl w.heap.size rfl 62 (c32 rns) (0, 0) _ H1.out Tryz.underlying62 rfl i2.out ?_)
    refine (CS.out _).mono ?_
    rintro e w1 ⟨rfl, b1⟩
    have bb : Below w.heap.size w w1 := b0.trans (b1.mono (by simp))
    clear b0 b1 CS H1
    go_wp2
    go_loopw [7, 8] (fun sv iv wr => ∃ i : Nat, i ≤ 64 ∧ iv = .int .i64 (i : Int) ∧ sv = .string (lyB Y m i) ∧ Below w.heap.size w wr) (fun _ i _ => 64 - (intOf i).toNat)
    case atStart => exact ⟨0, Nat.zero_le _, rfl, by rw [z0.out], bb⟩
    case round =>
      clear bb
      obtain ⟨i, hi, rfl, rfl, hbel⟩ := hrel
      have hsz := lyB_size Y m i
      by_cases hi64 : i < 64
      · have hx := bx_lt Y i
        have hv := u8_xor_nat (bx Y i) m hx hm
        have hvl := xor_byte hx hm
        have ho := one_byte wr (bx Y i ^^^ m) hvl
        have HN : Hid _ := LN.out Y i
        have bn := hbel.alloc hbel.size (.cells #[.int .u8 ((bx Y i ^^^ m : Nat) : Int)] 5)
        by_cases hY : i < Y.size
        · have hb : ∀ h, ((Y[i]'h).toNat : Int) = (bx Y i : Int) := fun h => by rw [bx_get h]
          generalize bx Y i = x at hx hv hvl ho HN bn hb
          generalize x ^^^ m = v at hv hvl ho HN bn
          generalize lyB Y m i = S at HN hsz
          have BN : Hid _ := bn
          clear bn
          go_wp2
          go_roundw
          case rel => exact ⟨i + 1, by omega, by go_num, by rw [HN.out], BN.out⟩
          case measure => simp [intOf] <;> omega
        · have hz := nought_xor hm
          have e0 := bx_none hY
          rw [e0] at hv ho HN bn hvl
          generalize 0 ^^^ m = v at hv hvl ho HN bn hz
          generalize lyB Y m i = S at HN hsz
          have BN : Hid _ := bn
          clear bn hv e0
          go_wp2
          go_roundw
          case rel => exact ⟨i + 1, by omega, by go_num, by rw [HN.out], BN.out⟩
          case measure => simp [intOf] <;> omega
      · obtain rfl : i = 64 := by omega
        generalize lyB Y m 64 = R at HY hsz
        go_wp2
        go_ret
        exact ⟨by rw [HY.out]; rfl, hbel⟩
  · rw [ky_short hk] at HY hys
    have z0 : Hid (lyB K m 0 = ⟨#[]⟩) := rfl
    have bb := b0
    clear CS hd H1 b0
    go_enter Tryz.func48, Tryz.ntmps48
    go_wp2
    go_loopw [7, 8] (fun sv iv wr => ∃ i : Nat, i ≤ 64 ∧ iv = .int .i64 (i : Int) ∧ sv = .string (lyB K m i) ∧ Below w.heap.size w wr) (fun _ i _ => 64 - (intOf i).toNat)
    case atStart => exact ⟨0, Nat.zero_le _, rfl, by rw [z0.out], bb⟩
    case round =>
      clear bb
      obtain ⟨i, hi, rfl, rfl, hbel⟩ := hrel
      have hsz := lyB_size K m i
      by_cases hi64 : i < 64
      · have hx := bx_lt K i
        have hv := u8_xor_nat (bx K i) m hx hm
        have hvl := xor_byte hx hm
        have ho := one_byte wr (bx K i ^^^ m) hvl
        have HN : Hid _ := LN.out K i
        have bn := hbel.alloc hbel.size (.cells #[.int .u8 ((bx K i ^^^ m : Nat) : Int)] 5)
        by_cases hY : i < K.size
        · have hb : ∀ h, ((K[i]'h).toNat : Int) = (bx K i : Int) := fun h => by rw [bx_get h]
          generalize bx K i = x at hx hv hvl ho HN bn hb
          generalize x ^^^ m = v at hv hvl ho HN bn
          generalize lyB K m i = S at HN hsz
          have BN : Hid _ := bn
          clear bn
          go_wp2
          go_roundw
          case rel => exact ⟨i + 1, by omega, by go_num, by rw [HN.out], BN.out⟩
          case measure => simp [intOf] <;> omega
        · have hz := nought_xor hm
          have e0 := bx_none hY
          rw [e0] at hv ho HN bn hvl
          generalize 0 ^^^ m = v at hv hvl ho HN bn hz
          generalize lyB K m i = S at HN hsz
          have BN : Hid _ := bn
          clear bn hv e0
          go_wp2
          go_roundw
          case rel => exact ⟨i + 1, by omega, by go_num, by rw [HN.out], BN.out⟩
          case measure => simp [intOf] <;> omega
      · obtain rfl : i = 64 := by omega
        generalize lyB K m 64 = R at HY hsz
        go_wp2
        go_ret
        exact ⟨by rw [HY.out]; rfl, hbel⟩

set_option maxRecDepth 100000 in
theorem withRef (K T : ByteArray) (w : World) (hK : K.size ≤ 140737488355328) (hs : T.size ≤ 140737488355264) :
    Calls Tryz.prog 32 #[.agg (c32 rns), .string K, .string T] w fun e w' => e = .returned (.string (tag K T)) ∧ Below w.heap.size w w' := by
  have CI : Hid (∀ w, Calls Tryz.prog 48 #[.agg (c32 rns), .string K, .int .u8 54] w fun e w' => e = .returned (.string (lay K 54)) ∧ Below w.heap.size w w') := fun w => laid K 54 w (by decide) hK
  have CO : Hid (∀ w, Calls Tryz.prog 48 #[.agg (c32 rns), .string K, .int .u8 92] w fun e w' => e = .returned (.string (lay K 92)) ∧ Below w.heap.size w w') := fun w => laid K 92 w (by decide) hK
  have s1 := lay_size K 92
  have s2 := lay_size K 54
  have s3 : (lay K 54 ++ T).size = 64 + T.size := by rw [ByteArray.size_append, s2]
  have CD : Hid (∀ W, Calls Tryz.prog 49 #[.agg (c32 rns), .string (lay K 54 ++ T)] W fun e w' => e = .returned (.string (dig (lay K 54 ++ T))) ∧ Below W.heap.size W w') := fun W => with_ rns _ W rns_len (by omega)
  have s4 := dig_size (lay K 54 ++ T)
  have s5 : (lay K 92 ++ dig (lay K 54 ++ T)).size = 96 := by rw [ByteArray.size_append, s1, s4]
  have CE : Hid (∀ W, Calls Tryz.prog 49 #[.agg (c32 rns), .string (lay K 92 ++ dig (lay K 54 ++ T))] W fun e w' => e = .returned (.string (tag K T)) ∧ Below W.heap.size W w') := fun W => with_ rns _ W rns_len (by omega)
  generalize tag K T = R at CE
  generalize dig (lay K 54 ++ T) = D at CD CE s4 s5
  generalize lay K 54 = A at CI CD s2 s3
  generalize lay K 92 = B at CO CE s1 s5
  have i2 : Hid ((Tryz.prog.info? 62).map (·.size) = some (c32 rns).size) := by rw [c32_size, rns_len]; exact info64w
  have H0 : Hid ((w.alloc (.cells (c32 rns) 62)).heap[w.heap.size]? = some (.cells (c32 rns) 62 (0, 0))) := heap_alloc_new w _
  have b0 : Below w.heap.size w (w.alloc (.cells (c32 rns) 62)) := (Below.refl _ _).alloc (Nat.le_refl _) _
  have KB : ∀ {W W' : World}, W.heap[w.heap.size]? = some (.cells (c32 rns) 62 (0, 0)) → Below W.heap.size W W' → W'.heap[w.heap.size]? = some (.cells (c32 rns) 62 (0, 0)) := fun h b => (b.block _ (Array.getElem?_eq_some_iff.1 h).1).trans h
  go_enter Tryz.func32, Tryz.ntmps32
  go_wp2_with (refine wpList_load_row rfl 62 _ rfl w.heap.size rfl 62 (c32 rns) (0, 0) _ H0.out Tryz.underlying62 rfl i2.out ?_)
  refine (CI.out _).mono ?_
  rintro e w1 ⟨rfl, b1⟩
  have H1 : Hid _ := KB H0.out b1
  have c1 : Below w.heap.size w w1 := b0.trans (b1.mono (by simp))
  go_wp2_with (refine wpList_load_row rfl 62 _ rfl w.heap.size rfl 62 (c32 rns) (0, 0) _ H1.out Tryz.underlying62 rfl i2.out ?_)
  refine (CO.out _).mono ?_
  rintro e w2 ⟨rfl, b2⟩
  have H2 : Hid _ := KB H1.out b2
  have c2 : Below w.heap.size w w2 := c1.trans (b2.mono c1.size)
  go_wp2_with (refine wpList_load_row rfl 62 _ rfl w.heap.size rfl 62 (c32 rns) (0, 0) _ H2.out Tryz.underlying62 rfl i2.out ?_)
  refine (CD.out _).mono ?_
  rintro e w3 ⟨rfl, b3⟩
  have H3 : Hid _ := KB H2.out b3
  have c3 : Below w.heap.size w w3 := c2.trans (b3.mono c2.size)
  go_wp2_with (refine wpList_load_row rfl 62 _ rfl w.heap.size rfl 62 (c32 rns) (0, 0) _ H3.out Tryz.underlying62 rfl i2.out ?_)
  refine (CE.out _).mono ?_
  rintro e w4 ⟨rfl, b4⟩
  go_wp2
  go_ret
  exact ⟨rfl, c3.trans (b4.mono c3.size)⟩

set_option maxRecDepth 100000 in
theorem tagRef (K T : ByteArray) (w : World) (hK : K.size ≤ 140737488355328) (hs : T.size ≤ 140737488355264) :
    Calls Tryz.prog 15 #[.string K, .string T] w fun e w' => e = .returned (.string (tag K T)) ∧ Below w.heap.size w w' := by
  have C : Hid (∀ w, Calls Tryz.prog 32 #[.agg (c32 rns), .string K, .string T] w fun e w' => e = .returned (.string (tag K T)) ∧ Below w.heap.size w w') := fun w => withRef K T w hK hs
  generalize tag K T = R at C
  have i2 : Hid ((Tryz.prog.info? 62).map (·.size) = some (c32 rns).size) := by rw [c32_size, rns_len]; exact info64w
  have hs0 : Hid ((c32 (List.replicate 64 0)).size = (c32 rns).size) := by rw [c32_size, c32_size]; rfl
  go_enter Tryz.func15, Tryz.ntmps15
  go_wp2_with fail
  refine (roots _).mono ?_
  rintro e w1 ⟨rfl, b1⟩
  have H1 : Hid ((w1.alloc (.cells (c32 rns) 62)).heap[w1.heap.size]? = some (.cells (c32 rns) 62 (0, 0))) := heap_alloc_new w1 _
  go_wp2_with (first
    | (refine store_new rfl 62 _ _ rfl w1.heap.size rfl (c32 rns) rfl rfl (c32 (List.replicate 64 0)) i2.out hs0.out (c32_one _) ?_)
    | (refine wpList_load_row rfl 62 _ rfl w1.heap.size rfl 62 (c32 rns) (0, 0) _ H1.out Tryz.underlying62 rfl i2.out ?_))
  refine (C.out _).mono ?_
  rintro e w2 ⟨rfl, b2⟩
  go_wp2
  go_ret
  exact ⟨rfl, (b1.alloc b1.size _).trans (b2.mono (by have := b1.size; simp <;> omega))⟩

end Go.Proofs.YtkelipedpjmmaaaGreatDoor.Wl
