/-
  Several texts in one. The walks of area.within, area.sectorOf, area.Make and of the document's Make: each returns what 'sec', 'mE', 'mB' say, and nothing that was in memory has turned. Conditions: none but that each number fits its kind and that the text's length is an int. The walk of area.sectorOf: it returns the sector of a cell within its bounds, as 'sec' says, and nothing that was in memory has turned. The walks of area.Make, area.Parse, of the document's Parse, and of the laws' wakes: each returns what 'mE', 'mB', 'pOk', 'cG', 'cI', 'cD' say, and nothing that was in memory has turned. Conditions: none but that each number fits its kind and that the text's length is an int. The walks of area.Parse and of the document's Parse: each returns what 'pOk', 'cG', 'cI', 'cD' say, and nothing that was in memory has turned. Condition: the text's length is an int. The walk of area.Parse: it returns what 'pOk', 'cG', 'cI', 'cD' say, and nothing that was in memory has turned. Condition: the text's length is an int. The walk of the law AreaParses: it returns true, and nothing that was in memory has turned. Condition: the text's length is an int.
-/
import Derived.Test.YtaojoecmbgmhoaaRows
import Derived.Test.YtaojoecmbgmhoaaPa
import Derived.Test.YtaojoecmbgmhoaaWa
import Derived.WalkKit
import Derived.ProofKit
import Derived.OpenShut
import Derived.Deep.RegionWith
import Derived.Laws.ResultCell
namespace Go.Proofs.Ytaojoecmbgmhoaa.War
open Go.ChangeShapes Go.WideShapes Go.ChangeAt Go.RowKit Go.Proofs.Ytaojoecmbgmhoaa.M

theorem within (g i : Int) (w : World) :
    Calls Try.prog 59 #[.int .i64 g, .int .i64 i] w fun e w' => e = .returned (.bool (decide (Wt g i))) ∧ w = w' := by
  by_cases c1 : 1 ≤ g
  · by_cases c2 : g ≤ 281474976710655
    · by_cases c3 : 0 ≤ i
      · by_cases c4 : i ≤ 65535
        · rw [decide_eq_true (show Wt g i from ⟨c1, c2, c3, c4⟩)]
          go_enter Try.func59, Try.ntmps59
          go_wp2
          go_ret
          exact ⟨rfl, rfl⟩
        · rw [decide_eq_false (show ¬ Wt g i from fun h => c4 h.2.2.2)]
          go_enter Try.func59, Try.ntmps59
          go_wp2
          go_ret
          exact ⟨rfl, rfl⟩
      · rw [decide_eq_false (show ¬ Wt g i from fun h => c3 h.2.2.1)]
        go_enter Try.func59, Try.ntmps59
        go_wp2
        go_ret
        exact ⟨rfl, rfl⟩
    · rw [decide_eq_false (show ¬ Wt g i from fun h => c2 h.2.1)]
      go_enter Try.func59, Try.ntmps59
      go_wp2
      go_ret
      exact ⟨rfl, rfl⟩
  · rw [decide_eq_false (show ¬ Wt g i from fun h => c1 h.1)]
    go_enter Try.func59, Try.ntmps59
    go_wp2
    go_ret
    exact ⟨rfl, rfl⟩

/-- A cell as a value. -/
def cv (g i : Int) (d : ByteArray) : Value := .agg #[.int .i64 g, .int .i64 i, .string d]

theorem cell3 (w w' : World) (T : Nat) (x y z : Value) (b : Below (w.alloc (.cells #[x, y, z] T)).heap.size (w.alloc (.cells #[x, y, z] T)) w') :
    w'.cell? ⟨w.heap.size, 0, none⟩ = some x ∧ w'.cell? ⟨w.heap.size, 1, none⟩ = some y ∧ w'.cell? ⟨w.heap.size, 2, none⟩ = some z := by
  refine ⟨?_, ?_, ?_⟩
  · rw [b.cell (by simp)]; exact World.cell?_alloc_mark ..
  · rw [b.cell (by simp)]; exact World.cell?_alloc_mark ..
  · rw [b.cell (by simp)]; exact World.cell?_alloc_mark ..

theorem one_beB (n : Nat) (h : n ≤ 55) : oneB (n : Int) = beB 1 (n : Int) := by
  have := one_be 0 (n : Int)
  have e : sh (n : Int) 0 % 256 = (n : Int) := by show (n : Int) % 256 = _; omega
  rw [e] at this
  rw [← this]
  apply ByteArray.ext
  simp [beB, be]

/-- The bytes of a text as cells, and noughts behind them. -/
def bz (t : ByteArray) (n : Nat) : Array Value := ((t ++ zz n).data.toList.map fun b : UInt8 => Value.int .u8 (b.toNat : Int)).toArray
theorem bz_size (t : ByteArray) (n : Nat) : (bz t n).size = t.size + n := by
  unfold bz
  rw [List.size_toArray, List.length_map, Array.length_toList]
  show (t ++ zz n).size = _
  rw [size_app, zz_size]
theorem bz_noughts : bz ⟨#[]⟩ 64 = #[.int .u8 0, .int .u8 0, .int .u8 0, .int .u8 0, .int .u8 0, .int .u8 0, .int .u8 0, .int .u8 0, .int .u8 0, .int .u8 0, .int .u8 0, .int .u8 0, .int .u8 0, .int .u8 0, .int .u8 0, .int .u8 0, .int .u8 0, .int .u8 0, .int .u8 0, .int .u8 0, .int .u8 0, .int .u8 0, .int .u8 0, .int .u8 0, .int .u8 0, .int .u8 0, .int .u8 0, .int .u8 0, .int .u8 0, .int .u8 0, .int .u8 0, .int .u8 0, .int .u8 0, .int .u8 0, .int .u8 0, .int .u8 0, .int .u8 0, .int .u8 0, .int .u8 0, .int .u8 0, .int .u8 0, .int .u8 0, .int .u8 0, .int .u8 0, .int .u8 0, .int .u8 0, .int .u8 0, .int .u8 0, .int .u8 0, .int .u8 0, .int .u8 0, .int .u8 0, .int .u8 0, .int .u8 0, .int .u8 0, .int .u8 0, .int .u8 0, .int .u8 0, .int .u8 0, .int .u8 0, .int .u8 0, .int .u8 0, .int .u8 0, .int .u8 0] := by
  kernel_rfl

theorem bz_list (t : ByteArray) (n : Nat) : (bz t n).toList = t.data.toList.map (fun b : UInt8 => Value.int .u8 (b.toNat : Int)) ++ List.replicate n (Value.int .u8 0) := by
  unfold bz
  rw [ByteArray.data_append, Array.toList_append, List.map_append]
  simp [zz]

/-- A text copied behind a text, over noughts. -/
theorem run_copy_on (W : World) (g t dT sT ty e c m : Nat) (hu : Try.prog.underlying dT = some (.slice e)) (he : (Try.prog.info? e).map (·.size) = some 1) (a s : ByteArray) (h : W.heap[g]? = some (.cells (bz a (s.size + m)) t (0, 0))) :
    (Builtin.copy_ #[dT, sT] ty #[.slice (some ⟨g, a.size, none⟩) (s.size + m) c, .string s]).run Try.prog W = .ok (goInt (s.size : Int)) (W.setRow g (bz (a ++ s) m)) := by
  have hl : (s.data.toList.map (fun b : UInt8 => Value.int IntKind.u8 (b.toNat : Int))).length = s.size := by
    rw [List.length_map, Array.length_toList]
    rfl
  have hla : (a.data.toList.map (fun b : UInt8 => Value.int IntKind.u8 (b.toNat : Int))).length = a.size := by
    rw [List.length_map, Array.length_toList]
    rfl
  have htk : List.take s.size (s.data.toList.map (fun b : UInt8 => Value.int IntKind.u8 (b.toNat : Int))) = s.data.toList.map (fun b : UInt8 => Value.int IntKind.u8 (b.toNat : Int)) :=
    List.take_of_length_le (by rw [hl]; exact Nat.le_refl _)
  have hst := run_storeCells_at Try.prog g a.size t (s.data.toList.map (fun b : UInt8 => Value.int IntKind.u8 (b.toNat : Int))) 0 (bz a (s.size + m)) W h (by rw [hl, bz_size]; omega) (fun v hv => by
    rw [List.mem_map] at hv
    obtain ⟨_, _, rfl⟩ := hv
    rfl)
  have hfin : (List.take (a.size + 0) (bz a (s.size + m)).toList ++ s.data.toList.map (fun b : UInt8 => Value.int IntKind.u8 (b.toNat : Int)) ++ List.drop (a.size + 0 + (s.data.toList.map (fun b : UInt8 => Value.int IntKind.u8 (b.toNat : Int))).length) (bz a (s.size + m)).toList).toArray = bz (a ++ s) m := by
    apply Array.toList_inj.1
    rw [bz_list (a ++ s) m, bz_list a, hl, Nat.add_zero, List.take_left' hla, List.drop_append, hla, List.drop_eq_nil_of_le (by rw [hla]; omega)]
    simp [ByteArray.data_append]
  rw [hfin] at hst
  cases hq : Try.prog.info? e with
  | none => simp [hq] at he
  | some i =>
    simp [Builtin.copy_, run_underlying hu, Builtin.lenOf, Builtin.firstCells, sizeOf, typeInfo, hq]
    rw [htk, hst]
    simp [Result.andThen]

theorem sizeByte1 : (Try.prog.info? 5).map (·.size) = some 1 := by kernel_rfl

/-- The same, all numbers spelt as the walk meets them. -/
theorem run_copy_at (W : World) (G o n k m : Nat) (v : Int) (a s : ByteArray) (ha : a.size = o) (hs : s.size = n) (hk : k = n + m) (hv : (n : Int) = v) (h : W.heap[G]? = some (.cells (bz a k) 122 (0, 0))) :
    (Builtin.copy_ #[52, 9] 3 #[.slice (some ⟨G, o, none⟩) k k, .string s]).run Try.prog W = .ok (goInt v) (W.setRow G (bz (a ++ s) m)) := by
  subst ha hs hk hv
  exact run_copy_on W G 122 52 9 3 5 _ m Try.underlying52 sizeByte1 a s h

theorem bz_zero (t : ByteArray) : bz t 0 = (t.data.toList.map fun b : UInt8 => Value.int .u8 (b.toNat : Int)).toArray := by
  apply Array.toList_inj.1
  rw [bz_list]
  simp
theorem bz_shift (t : ByteArray) (n : Nat) : bz t n = bz (t ++ zz n) 0 := by
  rw [bz_zero]
  rfl

/-- What lies where: the cell, and the bytes. -/
def JS (w : World) (g i : Int) (d t : ByteArray) (m : Nat) (W : World) : Prop :=
  W.heap[w.heap.size + 1]? = some (.cells (bz t m) 122 (0, 0)) ∧ W.heap[w.heap.size]? = some (.cells #[.int .i64 g, .int .i64 i, .string d] 99 (0, 0)) ∧ Below w.heap.size w W
theorem JS.below {w W W' : World} {g i : Int} {d t : ByteArray} {m : Nat} (h : JS w g i d t m W) (hb : Below W.heap.size W W') : JS w g i d t m W' := by
  obtain ⟨h1, h2, h3⟩ := h
  have K : ∀ {k : Nat} {o : Obj}, W.heap[k]? = some o → W'.heap[k]? = some o := fun hk => (hb.block _ (Array.getElem?_eq_some_iff.1 hk).1).trans hk
  exact ⟨K h1, K h2, h3.trans (hb.mono h3.size)⟩
theorem JS.drew {w W : World} {g i : Int} {d t : ByteArray} {m : Nat} (h : JS w g i d t m W) : JS w g i d t m W.drew := ⟨h.1, h.2.1, h.2.2.drew⟩
theorem JS.put {w W : World} {g i : Int} {d t : ByteArray} {m : Nat} (h : JS w g i d t m W) (t' : ByteArray) (m' : Nat) : JS w g i d t' m' (W.setRow (w.heap.size + 1) (bz t' m')) :=
  ⟨setRow_heap W _ _ _ _ _ h.1, (setRow_other W _ _ _ (by omega)).trans h.2.1, h.2.2.trans ⟨rfl, rfl, rfl, by simp [World.setRow], fun k hk => setRow_other W _ k _ (by omega)⟩⟩
theorem JS.cell {w W : World} {g i : Int} {d t : ByteArray} {m : Nat} (h : JS w g i d t m W) :
    W.cell? ⟨w.heap.size, 0, none⟩ = some (.int .i64 g) ∧ W.cell? ⟨w.heap.size, 1, none⟩ = some (.int .i64 i) ∧ W.cell? ⟨w.heap.size, 2, none⟩ = some (.string d) := by
  have := h.2.1
  refine ⟨?_, ?_, ?_⟩ <;> simp [World.cell?, this]

end Go.Proofs.Ytaojoecmbgmhoaa.War

namespace Go.Proofs.Ytaojoecmbgmhoaa.War
open Go.ChangeShapes Go.WideShapes Go.ChangeAt Go.RowKit Go.Proofs.Ytaojoecmbgmhoaa.M

/-- All the bytes as a text. -/
theorem text_of (W : World) (G m : Nat) (t s : ByteArray) (h : W.heap[G]? = some (.cells (bz t m) 122 (0, 0))) (hs : s = t ++ zz m) (hz : s.size = 64) :
    (convert 52 9 (.slice (some ⟨G, 0, none⟩) 64 64)).run Try.prog W = .ok (.string s) W := by
  rw [bz_shift, ← hs, bz_zero] at h
  have hl : s.data.toList.length = 64 := by rw [Array.length_toList]; exact hz
  have r := run_convert_bytes_back (P := Try.prog) W 52 9 5 ⟨G, 0, none⟩ 64 s.data.toList Try.underlying52 Try.underlying5 Try.underlying9 (fun j hj => by
    rw [Wp.add_at]
    have hj2 : j < s.data.size := by rw [Array.length_toList] at hj; exact hj
    simp [World.cell?, h]
    exact ⟨_, Array.getElem?_eq_getElem hj2, rfl⟩)
  rw [hl] at r
  simpa using r

set_option maxRecDepth 100000 in
set_option maxHeartbeats 2000000 in
theorem sectorOf (g i : Int) (d : ByteArray) (w : World) (h : Wt g i) (hd : d.size ≤ 55) :
    Calls Try.prog 60 #[cv g i d] w fun e w' => e = .returned (.string (sec g i d)) ∧ Below w.heap.size w w' := by
  obtain ⟨c1, c2, c3, c4⟩ := h
  unfold cv
  have K : Hid (sec g i d = beB 6 g ++ beB 2 i ++ beB 1 (d.size : Int) ++ d ++ zz (55 - d.size)) := rfl
  have C1 : Hid (∀ w, Calls Try.prog 40 #[.int .i64 6, .int .u64 g] w fun e w' => e = .returned (.string (beB 6 g)) ∧ Below w.heap.size w w') := fun w => Wp.putAny 6 g w (by omega) (by omega)
  have C2 : Hid (∀ w, Calls Try.prog 40 #[.int .i64 2, .int .u64 i] w fun e w' => e = .returned (.string (beB 2 i)) ∧ Below w.heap.size w w') := fun w => Wp.putAny 2 i w (by omega) (by omega)
  have C3 : Hid (∀ w, Calls Try.prog 40 #[.int .i64 1, .int .u64 (d.size : Int)] w fun e w' => e = .returned (.string (beB 1 (d.size : Int))) ∧ Below w.heap.size w w') := fun w => Wp.putAny 1 (d.size : Int) w (by omega) (by omega)
  have z1 : Hid ((beB 6 g).size = 6) := beB_size 6 g
  have z2 : Hid ((beB 2 i).size = 2) := beB_size 2 i
  have z3 : Hid ((beB 1 (d.size : Int)).size = 1) := beB_size 1 _
  generalize beB 6 g = x at K C1 z1
  generalize beB 2 i = y at K C2 z2
  generalize beB 1 (d.size : Int) = z at K C3 z3
  have u1 : IntKind.u64.wrap g = g := by rw [IntKind.wrap_u64]; omega
  have u2 : IntKind.u64.wrap i = i := by rw [IntKind.wrap_u64]; omega
  have u3 : IntKind.u64.wrap (d.size : Int) = (d.size : Int) := by rw [IntKind.wrap_u64]; omega
  have u8 : IntKind.i64.wrap 8 = 8 := by decide
  have u9 : IntKind.i64.wrap 9 = 9 := by decide
  go_enter Try.func60, Try.ntmps60
  go_wp2_with fail
  generalize hW : World.alloc (World.alloc w _) _ = W0
  have J0 : JS w g i d ⟨#[]⟩ 64 W0 := by
    refine ⟨?_, ?_, ?_⟩
    · rw [← hW, bz_noughts]
      exact heap_alloc2_new w _ _
    · rw [← hW]
      exact heap_alloc2_old w _ _
    · rw [← hW]
      exact ((Below.refl _ _).alloc (Nat.le_refl _) _).alloc (by simp) _
  clear hW
  obtain ⟨k0, _, _⟩ := J0.cell
  go_region_with (go_at_call 40; refine (C1.out _).mono ?_; rintro e w1 ⟨rfl, b1⟩; have J1 := J0.drew.below b1; have hcp := run_copy_at w1 (w.heap.size + 1) 0 6 64 58 6 ⟨#[]⟩ x rfl z1.out rfl rfl J1.1)
  have J2 := J1.put (⟨#[]⟩ ++ x) 58
  rw [nil_app] at J2
  rw [nil_app]
  generalize World.setRow w1 _ _ = W2 at J2
  clear J0 J1 hcp k0 b1
  obtain ⟨_, k1, _⟩ := J2.cell
  go_wp2
  go_region_with (go_at_call 40; refine (C2.out _).mono ?_; rintro e w3 ⟨rfl, b3⟩; have J3 := J2.drew.below b3; have hcp := run_copy_at w3 (w.heap.size + 1) 6 2 58 56 2 x y z1.out z2.out rfl rfl J3.1)
  have J4 := J3.put (x ++ y) 56
  generalize World.setRow w3 _ _ = W4 at J4
  clear J2 J3 hcp k1 b3
  obtain ⟨_, _, k2⟩ := J4.cell
  go_wp2
  go_region_with (go_at_call 40; refine (C3.out _).mono ?_; rintro e w5 ⟨rfl, b5⟩; have J5 := J4.drew.below b5; have hcp := run_copy_at w5 (w.heap.size + 1) 8 1 56 55 1 (x ++ y) z (by rw [size_app, z1.out, z2.out]) z3.out rfl rfl J5.1)
  have J6 := J5.put (x ++ y ++ z) 55
  generalize World.setRow w5 _ _ = W6 at J6
  clear J4 J5 hcp k2 b5
  obtain ⟨_, _, k2⟩ := J6.cell
  have hcp := run_copy_at W6.drew (w.heap.size + 1) 9 d.size 55 (55 - d.size) (d.size : Int) (x ++ y ++ z) d (by rw [size_app, size_app, z1.out, z2.out, z3.out]) rfl (by omega) rfl J6.drew.1
  have J7 := J6.drew.put (x ++ y ++ z ++ d) (55 - d.size)
  have hcv := text_of _ _ _ _ (sec g i d) J7.1 (by rw [K.out]) (sec_size hd)
  generalize World.setRow W6.drew _ _ = W7 at hcp J7 hcv
  clear J6 u1 u2 u3
  go_wp2
  go_region
  all_goals (go_wp2; go_ret; exact ⟨rfl, J7.2.2⟩)

end Go.Proofs.Ytaojoecmbgmhoaa.War

namespace Go.Proofs.Ytaojoecmbgmhoaa.War
open Go.ChangeShapes Go.WideShapes Go.ChangeAt Go.RowKit Go.Proofs.Ytaojoecmbgmhoaa.M

set_option maxRecDepth 100000 in
theorem make (g i : Int) (d : ByteArray) (w : World) (hs : d.size ≤ maxLen) :
    Calls Try.prog 66 #[cv g i d] w fun e w' => e = .returned (.tuple #[.string (mB g i d), .int .i64 (mE g i d)]) ∧ Below w.heap.size w w' := by
  unfold maxLen at hs
  have C : Hid _ := fun w => within g i w
  have b0 : ∀ T, Below w.heap.size w (w.alloc (.cells #[.int .i64 g, .int .i64 i, .string d] T)) := fun T => (Below.refl _ _).alloc (Nat.le_refl _) _
  by_cases c0 : Wt g i
  · rw [decide_eq_true c0] at C
    by_cases c5 : 55 < d.size
    · obtain ⟨e1, e2⟩ := m_long (d := d) c0 c5
      rw [e1, e2]
      clear e1 e2
      unfold cv
      go_enter Try.func66, Try.ntmps66
      go_wp2_with fail
      refine (C.out _).mono ?_
      rintro e w1 ⟨rfl, rfl⟩
      go_wp2
      go_ret2
      exact ⟨rfl, b0 _⟩
    · obtain ⟨e1, e2⟩ := m_ok (d := d) c0 c5
      rw [e1, e2]
      clear e1 e2
      have D : Hid _ := fun w => sectorOf g i d w c0 (by omega)
      generalize hS : sec g i d = S at D ⊢
      unfold cv at D ⊢
      clear hS
      go_enter Try.func66, Try.ntmps66
      go_wp2_with fail
      refine (C.out _).mono ?_
      rintro e w1 ⟨rfl, rfl⟩
      go_wp2_with fail
      refine (D.out _).mono ?_
      rintro e w1 ⟨rfl, b1⟩
      go_wp2
      go_ret2
      exact ⟨rfl, (b0 _).trans (b1.mono (by simp))⟩
  · rw [decide_eq_false c0] at C
    obtain ⟨e1, e2⟩ := m_arg (d := d) c0
    rw [e1, e2]
    clear e1 e2
    unfold cv
    go_enter Try.func66, Try.ntmps66
    go_wp2_with fail
    refine (C.out _).mono ?_
    rintro e w1 ⟨rfl, rfl⟩
    go_wp2
    go_ret2
    exact ⟨rfl, b0 _⟩

theorem wake_sec : mB 1 2 ⟨#[97, 98]⟩ = sec 1 2 ⟨#[97, 98]⟩ ∧ mE 1 2 ⟨#[97, 98]⟩ = 0 ∧ (sec 1 2 ⟨#[97, 98]⟩).size = 64 ∧ (sec 1 2 ⟨#[97, 98]⟩).extract 0 11 = ⟨#[0, 0, 0, 0, 0, 1, 0, 2, 2, 97, 98]⟩ := by decide +kernel

end Go.Proofs.Ytaojoecmbgmhoaa.War

namespace Go.Proofs.Ytaojoecmbgmhoaa.War
open Go.ChangeShapes Go.WideShapes Go.ChangeAt Go.RowKit Go.Proofs.Ytaojoecmbgmhoaa.M

theorem heads {s : ByteArray} (h : s.size = 64) : (gE s 0 6 = 0 ∧ gN s 0 6 = pG s ∧ gX s 0 6 = 6) ∧ (gE s 6 2 = 0 ∧ gN s 6 2 = pI s ∧ gX s 6 2 = 8) ∧ (gE s 8 1 = 0 ∧ gN s 8 1 = (pN s : Int) ∧ gX s 8 1 = 9) := by
  refine ⟨?_, ?_, ?_⟩
  · exact get_ok (s := s) (a := 0) (w := 6) (by omega) (by omega) (by omega)
  · exact get_ok (s := s) (a := 6) (w := 2) (by omega) (by omega) (by omega)
  · obtain ⟨h1, h2, h3⟩ := get_ok (s := s) (a := 8) (w := 1) (by omega) (by omega) (by omega)
    exact ⟨h1, h2.trans (pN_num s), h3⟩

theorem list_ne {a b : ByteArray} (h : ¬ a = b) : (a.toList == b.toList) = false := by
  have : ¬ a.toList = b.toList := fun e => h (by
    rw [ByteArray.toList_eq, ByteArray.toList_eq] at e
    exact ByteArray.ext (Array.toList_inj.1 e))
  simpa using this

/-- A piece of a text. -/
theorem cut (s D : ByteArray) (i j : Int) (a b : Nat) (hi : i = (a : Int)) (hj : j = (b : Int)) (h1 : a ≤ b) (h2 : b ≤ s.size) (hD : s.extract a b = D) (u : World) :
    (Instr.slice 9 (.string s) (some (.int .i64 i)) (some (.int .i64 j)) none).run Try.prog u = .ok (.string D) u := by
  subst hi hj hD
  have e1 : (0 : Int) ≤ (b : Int) ∧ (b : Int) ≤ (s.size : Int) := ⟨by omega, by omega⟩
  have e2 : (0 : Int) ≤ (a : Int) ∧ (a : Int) ≤ (b : Int) := ⟨by omega, by omega⟩
  simp [Instr.slice, Instr.sliceBounds, Instr.sliceBound, asIntOf, run_underlying Try.underlying9, h1, h2]

/-- Where a cell stands in a world that grew. -/
theorem at3 {W : World} {b : Nat} {T : TypeId} {x y z : Value} (h : W.heap[b]? = some (.cells #[x, y, z] T (0, 0))) :
    W.cell? ⟨b, 0, none⟩ = some x ∧ W.cell? ⟨b, 1, none⟩ = some y ∧ W.cell? ⟨b, 2, none⟩ = some z ∧ ∀ j, W.frozen? ⟨b, j, none⟩ = false := by
  refine ⟨?_, ?_, ?_, fun j => ?_⟩ <;> simp [World.cell?, World.frozen?, h]

/-- A cell laid over a cell. -/
theorem set3 {W : World} {b : Nat} {T : TypeId} {x y z : Value} (h : W.heap[b]? = some (.cells #[x, y, z] T (0, 0))) (x' y' z' : Value) :
    (W.setCell ⟨b, 0, none⟩ x').cell? ⟨b, 0, none⟩ = some x' ∧ ((W.setCell ⟨b, 0, none⟩ x').setCell ⟨b, 1, none⟩ y').cell? ⟨b, 1, none⟩ = some y' ∧
      (((W.setCell ⟨b, 0, none⟩ x').setCell ⟨b, 1, none⟩ y').setCell ⟨b, 2, none⟩ z').cell? ⟨b, 2, none⟩ = some z' := by
  have h0 := heap_setCell_same W b 0 _ _ x' h
  have h1 := heap_setCell_same _ b 1 _ _ y' h0
  have h2 := heap_setCell_same _ b 2 _ _ z' h1
  refine ⟨?_, ?_, ?_⟩
  · simp [World.cell?, h0]
  · simp [World.cell?, h1]
  · simp [World.cell?, h2]
theorem below3 {w W : World} {b : Nat} (h : Below w.heap.size w W) (hb : w.heap.size ≤ b) (x y z : Value) : Below w.heap.size w (((W.setCell ⟨b, 0, none⟩ x).setCell ⟨b, 1, none⟩ y).setCell ⟨b, 2, none⟩ z) :=
  ((h.setCell hb _).setCell hb _).setCell hb _

end Go.Proofs.Ytaojoecmbgmhoaa.War

namespace Go.Proofs.Ytaojoecmbgmhoaa.War
open Go.ChangeShapes Go.WideShapes Go.ChangeAt Go.RowKit Go.Proofs.Ytaojoecmbgmhoaa.M

set_option maxRecDepth 100000 in
set_option maxHeartbeats 1000000 in
theorem parse (s : ByteArray) (w : World) (hs : s.size ≤ maxLen) :
    Calls Try.prog 49 #[.string s] w fun e w' => e = .returned (.tuple #[cv (cG s) (cI s) (cD s), .bool (pOk s)]) ∧ Below w.heap.size w w' := by
  unfold maxLen at hs
  have B0 : Below w.heap.size w (w.alloc (.cells #[.int .i64 0, .int .i64 0, .string ⟨#[]⟩] 99)) := (Below.refl _ _).alloc (Nat.le_refl _) _
  by_cases c0 : s.size = 64
  · obtain ⟨⟨a1, a2, a3⟩, ⟨a4, a5, a6⟩, a7, a8, a9⟩ := heads c0
    have C1 : Hid _ := fun w => Wg.get s 0 6 w (by unfold maxLen; omega) (by omega) (by omega)
    have C2 : Hid _ := fun w => Wg.get s 6 2 w (by unfold maxLen; omega) (by omega) (by omega)
    have C3 : Hid _ := fun w => Wg.get s 8 1 w (by unfold maxLen; omega) (by omega) (by omega)
    rw [a1, a2, a3] at C1
    rw [a4, a5, a6] at C2
    rw [a7, a8, a9] at C3
    clear a1 a2 a3 a4 a5 a6 a7 a8 a9
    have hG := pG_range s
    have hI := pI_range s
    by_cases c1 : pN s ≤ 55
    · have hD := pD_size c0 c1
      have M : Hid _ := fun w => make (pG s) (pI s) (pD s) w (by unfold maxLen; omega)
      have N' : Hid _ := fun w => Wc.clone (pD s) w (by omega)
      have y1 : Hid (mE (pG s) (pI s) (pD s) = 0 → mB (pG s) (pI s) (pD s) = sec (pG s) (pI s) (pD s)) := fun h => if_pos h
      have y2 : Hid (¬ mE (pG s) (pI s) (pD s) = 0 → pOk s = false) := fun h => p_err h
      have y3 : Hid (¬ sec (pG s) (pI s) (pD s) = s → pOk s = false) := fun h => p_other h
      have y4 : Hid (mE (pG s) (pI s) (pD s) = 0 → sec (pG s) (pI s) (pD s) = s → pOk s = true) := fun h h2 => p_mk c0 c1 h h2
      have y5 : Hid _ := @p_no s
      have y6 : Hid _ := @p_yes s
      have n1 : (pN s : Int) ≤ 55 := by omega
      have n2 : ¬ 55 < (pN s : Int) := by omega
      have hsl := cut s (pD s) 9 (9 + (pN s : Int)) 9 (9 + pN s) rfl (by omega) (by omega) (by omega) rfl
      generalize sec (pG s) (pI s) (pD s) = S at y1 y3 y4
      generalize mE (pG s) (pI s) (pD s) = E at M y1 y2 y4
      generalize mB (pG s) (pI s) (pD s) = T at M y1
      generalize pG s = G at *
      generalize pI s = I at *
      generalize pD s = D at *
      generalize pN s = N at *
      unfold cv at M
      go_enter Try.func49, Try.ntmps49
      go_wp2_with fail
      refine (C1.out _).mono ?_
      rintro e w1 ⟨rfl, rfl⟩
      go_wp2_with fail
      refine (C2.out _).mono ?_
      rintro e w2 ⟨rfl, rfl⟩
      go_wp2_with fail
      refine (C3.out _).mono ?_
      rintro e w2 ⟨rfl, rfl⟩
      go_wp2_with fail
      refine (N'.out _).mono ?_
      rintro e w4 ⟨rfl, b4⟩
      have z4 := b4.size
      rw [World.size_alloc] at z4
      go_wp2_with fail
      refine (M.out _).mono ?_
      rintro e w3 ⟨rfl, b3⟩
      have R0 : w3.heap[w.heap.size]? = some (.cells #[.int .i64 0, .int .i64 0, .string ⟨#[]⟩] 99 (0, 0)) := (b3.block _ (by simp <;> omega)).trans ((heap_alloc_old w4 _ (by omega)).trans ((b4.block _ (by simp)).trans (heap_alloc_new w _)))
      have R1 : w3.heap[w4.heap.size]? = some (.cells #[.int .i64 G, .int .i64 I, .string D] 99 (0, 0)) := (b3.block _ (by simp)).trans (heap_alloc_new w4 _)
      have B3 : Below w.heap.size w w3 := (B0.trans (b4.mono (by simp))).trans ((((Below.refl _ _).alloc (Nat.le_refl _) _).trans (b3.mono (by simp))).mono (by omega))
      obtain ⟨r0, r1, r2, rf⟩ := at3 R0
      obtain ⟨k0, k1, k2, kf⟩ := at3 R1
      have HB : Hid _ := B3
      have HR : Hid _ := R0
      clear b3 b4 B3 B0 R0 R1 hsl C1 C2 C3 M N'
      by_cases cE : E = 0
      · subst cE
        obtain rfl := y1.out rfl
        by_cases cS : T = s
        · have hp := y4.out rfl cS
          have HP : Hid _ := And.intro hp (y6.out hp)
          clear hp y1 y2 y3 y4 y5 y6
          subst cS
          obtain ⟨f0, f1, f2⟩ := set3 HR.out (.int .i64 G) (.int .i64 I) (.string D)
          go_wp2
          exact bodyPost_ret (v := .tuple #[cv G I D, .bool true]) (by simp [results, Try.results49, go_sem, cv, f0, f1, f2]) rfl ⟨by rw [HP.out.1, HP.out.2.1, HP.out.2.2.1, HP.out.2.2.2], below3 HB.out (Nat.le_refl _) _ _ _⟩
        · have hp := y3.out cS
          have HP : Hid _ := And.intro hp (y5.out hp)
          have hne := list_ne cS
          clear hp y1 y2 y3 y4 y5 y6 cS
          obtain ⟨f0, f1, f2⟩ := set3 HR.out (.int .i64 0) (.int .i64 0) (.string ⟨#[]⟩)
          go_wp2
          exact bodyPost_ret (v := .tuple #[cv 0 0 ⟨#[]⟩, .bool false]) (by simp [results, Try.results49, go_sem, cv, f0, f1, f2]) rfl ⟨by rw [HP.out.1, HP.out.2.1, HP.out.2.2.1, HP.out.2.2.2], below3 HB.out (Nat.le_refl _) _ _ _⟩
      · have hp := y2.out cE
        have HP : Hid _ := And.intro hp (y5.out hp)
        have hne : (E == 0) = false := by simpa using cE
        clear hp y1 y2 y3 y4 y5 y6
        obtain ⟨f0, f1, f2⟩ := set3 HR.out (.int .i64 0) (.int .i64 0) (.string ⟨#[]⟩)
        go_wp2
        exact bodyPost_ret (v := .tuple #[cv 0 0 ⟨#[]⟩, .bool false]) (by simp [results, Try.results49, go_sem, cv, f0, f1, f2]) rfl ⟨by rw [HP.out.1, HP.out.2.1, HP.out.2.2.1, HP.out.2.2.2], below3 HB.out (Nat.le_refl _) _ _ _⟩
    · have hp := p_big c1
      obtain ⟨e1, e2, e3⟩ := p_no hp
      rw [e1, e2, e3, hp]
      clear e1 e2 e3 hp
      have c2 : 55 < (pN s : Int) := by omega
      have c3 : (pN s : Int) ≤ 255 := by rw [pN_int]; exact (bt_range s 8).2
      generalize pN s = N at *
      generalize pG s = G at *
      generalize pI s = I at *
      go_enter Try.func49, Try.ntmps49
      go_wp2_with fail
      refine (C1.out _).mono ?_
      rintro e w1 ⟨rfl, rfl⟩
      go_wp2_with fail
      refine (C2.out _).mono ?_
      rintro e w2 ⟨rfl, rfl⟩
      go_wp2_with fail
      refine (C3.out _).mono ?_
      rintro e w2 ⟨rfl, rfl⟩
      go_wp2
      exact bodyPost_ret (v := .tuple #[cv 0 0 ⟨#[]⟩, .bool false]) (by simp [results, Try.results49, go_sem, cv]) rfl ⟨rfl, B0⟩
  · have hp := p_short c0
    obtain ⟨e1, e2, e3⟩ := p_no hp
    rw [e1, e2, e3, hp]
    clear e1 e2 e3 hp
    have hne : ((s.size : Int) == 64) = false := by simp; omega
    go_enter Try.func49, Try.ntmps49
    go_wp2
    exact bodyPost_ret (v := .tuple #[cv 0 0 ⟨#[]⟩, .bool false]) (by simp [results, Try.results49, go_sem, cv]) rfl ⟨rfl, B0⟩

end Go.Proofs.Ytaojoecmbgmhoaa.War

namespace Go.Proofs.Ytaojoecmbgmhoaa.War
open Go.ChangeShapes Go.WideShapes Go.ChangeAt Go.RowKit Go.Proofs.Ytaojoecmbgmhoaa.M

end Go.Proofs.Ytaojoecmbgmhoaa.War
