/-
  The walks of area.within, area.sectorOf, area.Make and of the document's Make: each returns what 'sec', 'mE', 'mB' say, and nothing that was in memory has turned. Conditions: none but that each number fits its kind and that the text's length is an int.
-/
import Derived.Test.YtcnonioiggniiaaRows
import Derived.Test.YtcnonioiggniiaaPa
import Derived.Test.YtcnonioiggniiaaPut
import Derived.WalkKit
import Derived.ProofKit
import Derived.OpenShut
import Derived.Deep.RegionWith
namespace Go.Proofs.Ytcnonioiggniiaa.War
open Go.ChangeShapes Go.WideShapes Go.ChangeAt Go.RowKit Go.Proofs.Ytcnonioiggniiaa.M

theorem within (g i : Int) (w : World) :
    Calls Try.prog 71 #[.int .i64 g, .int .i64 i] w fun e w' => e = .returned (.bool (decide (Wt g i))) ∧ w = w' := by
  by_cases c1 : 1 ≤ g
  · by_cases c2 : g ≤ 281474976710655
    · by_cases c3 : 0 ≤ i
      · by_cases c4 : i ≤ 65535
        · rw [decide_eq_true (show Wt g i from ⟨c1, c2, c3, c4⟩)]
          go_enter Try.func71, Try.ntmps71
          go_wp2
          go_ret
          exact ⟨rfl, rfl⟩
        · rw [decide_eq_false (show ¬ Wt g i from fun h => c4 h.2.2.2)]
          go_enter Try.func71, Try.ntmps71
          go_wp2
          go_ret
          exact ⟨rfl, rfl⟩
      · rw [decide_eq_false (show ¬ Wt g i from fun h => c3 h.2.2.1)]
        go_enter Try.func71, Try.ntmps71
        go_wp2
        go_ret
        exact ⟨rfl, rfl⟩
    · rw [decide_eq_false (show ¬ Wt g i from fun h => c2 h.2.1)]
      go_enter Try.func71, Try.ntmps71
      go_wp2
      go_ret
      exact ⟨rfl, rfl⟩
  · rw [decide_eq_false (show ¬ Wt g i from fun h => c1 h.1)]
    go_enter Try.func71, Try.ntmps71
    go_wp2
    go_ret
    exact ⟨rfl, rfl⟩

/-- A cell as a value. -/
def cv (g i : Int) (d : ByteArray) : Value := .agg #[.int .i64 g, .int .i64 i, .string d]

theorem cell3 (w w' : World) (T : Nat) (x y z : Value) (b : Below (w.alloc (.cells #[x, y, z] T)).heap.size (w.alloc (.cells #[x, y, z] T)) w') :
    w'.cell? ⟨w.heap.size, 0, none⟩ = some x ∧ w'.cell? ⟨w.heap.size, 1, none⟩ = some y ∧ w'.cell? ⟨w.heap.size, 2, none⟩ = some z := by
  refine ⟨?_, ?_, ?_⟩
  · rw [b.cell (by simp)]; exact World.cell?_alloc_mark ..
  · rw [b.cell (by simp)]; exact World.cell?_alloc_mark ..
  · rw [b.cell (by simp)]; exact World.cell?_alloc_mark ..

theorem one_beB (n : Nat) (h : n ≤ 55) : oneB (n : Int) = beB 1 (n : Int) := by
  have := one_be 0 (n : Int)
  have e : sh (n : Int) 0 % 256 = (n : Int) := by show (n : Int) % 256 = _; omega
  rw [e] at this
  rw [← this]
  apply ByteArray.ext
  simp [beB, be]

/-- The bytes of a text as cells, and noughts behind them. -/
def bz (t : ByteArray) (n : Nat) : Array Value := ((t ++ zz n).data.toList.map fun b : UInt8 => Value.int .u8 (b.toNat : Int)).toArray
theorem bz_size (t : ByteArray) (n : Nat) : (bz t n).size = t.size + n := by
  unfold bz
  rw [List.size_toArray, List.length_map, Array.length_toList]
  show (t ++ zz n).size = _
  rw [size_app, zz_size]
theorem bz_noughts : bz ⟨#[]⟩ 64 = #[.int .u8 0, .int .u8 0, .int .u8 0, .int .u8 0, .int .u8 0, .int .u8 0, .int .u8 0, .int .u8 0, .int .u8 0, .int .u8 0, .int .u8 0, .int .u8 0, .int .u8 0, .int .u8 0, .int .u8 0, .int .u8 0, .int .u8 0, .int .u8 0, .int .u8 0, .int .u8 0, .int .u8 0, .int .u8 0, .int .u8 0, .int .u8 0, .int .u8 0, .int .u8 0, .int .u8 0, .int .u8 0, .int .u8 0, .int .u8 0, .int .u8 0, .int .u8 0, .int .u8 0, .int .u8 0, .int .u8 0, .int .u8 0, .int .u8 0, .int .u8 0, .int .u8 0, .int .u8 0, .int .u8 0, .int .u8 0, .int .u8 0, .int .u8 0, .int .u8 0, .int .u8 0, .int .u8 0, .int .u8 0, .int .u8 0, .int .u8 0, .int .u8 0, .int .u8 0, .int .u8 0, .int .u8 0, .int .u8 0, .int .u8 0, .int .u8 0, .int .u8 0, .int .u8 0, .int .u8 0, .int .u8 0, .int .u8 0, .int .u8 0, .int .u8 0] := by
  kernel_rfl

theorem bz_list (t : ByteArray) (n : Nat) : (bz t n).toList = t.data.toList.map (fun b : UInt8 => Value.int .u8 (b.toNat : Int)) ++ List.replicate n (Value.int .u8 0) := by
  unfold bz
  rw [ByteArray.data_append, Array.toList_append, List.map_append]
  simp [zz]

/-- A text copied behind a text, over noughts. -/
theorem run_copy_on (W : World) (g t dT sT ty e c m : Nat) (hu : Try.prog.underlying dT = some (.slice e)) (he : (Try.prog.info? e).map (·.size) = some 1) (a s : ByteArray) (h : W.heap[g]? = some (.cells (bz a (s.size + m)) t (0, 0))) :
    (Builtin.copy_ #[dT, sT] ty #[.slice (some ⟨g, a.size, none⟩) (s.size + m) c, .string s]).run Try.prog W = .ok (goInt (s.size : Int)) (W.setRow g (bz (a ++ s) m)) := by
  have hl : (s.data.toList.map (fun b : UInt8 => Value.int IntKind.u8 (b.toNat : Int))).length = s.size := by
    rw [List.length_map, Array.length_toList]
    rfl
  have hla : (a.data.toList.map (fun b : UInt8 => Value.int IntKind.u8 (b.toNat : Int))).length = a.size := by
    rw [List.length_map, Array.length_toList]
    rfl
  have htk : List.take s.size (s.data.toList.map (fun b : UInt8 => Value.int IntKind.u8 (b.toNat : Int))) = s.data.toList.map (fun b : UInt8 => Value.int IntKind.u8 (b.toNat : Int)) :=
    List.take_of_length_le (by rw [hl]; exact Nat.le_refl _)
  have hst := run_storeCells_at Try.prog g a.size t (s.data.toList.map (fun b : UInt8 => Value.int IntKind.u8 (b.toNat : Int))) 0 (bz a (s.size + m)) W h (by rw [hl, bz_size]; omega) (fun v hv => by
    rw [List.mem_map] at hv
    obtain ⟨_, _, rfl⟩ := hv
    rfl)
  have hfin : (List.take (a.size + 0) (bz a (s.size + m)).toList ++ s.data.toList.map (fun b : UInt8 => Value.int IntKind.u8 (b.toNat : Int)) ++ List.drop (a.size + 0 + (s.data.toList.map (fun b : UInt8 => Value.int IntKind.u8 (b.toNat : Int))).length) (bz a (s.size + m)).toList).toArray = bz (a ++ s) m := by
    apply Array.toList_inj.1
    rw [bz_list (a ++ s) m, bz_list a, hl, Nat.add_zero, List.take_left' hla, List.drop_append, hla, List.drop_eq_nil_of_le (by rw [hla]; omega)]
    simp [ByteArray.data_append]
  rw [hfin] at hst
  cases hq : Try.prog.info? e with
  | none => simp [hq] at he
  | some i =>
    simp [Builtin.copy_, run_underlying hu, Builtin.lenOf, Builtin.firstCells, sizeOf, typeInfo, hq]
    rw [htk, hst]
    simp [Result.andThen]

theorem sizeByte1 : (Try.prog.info? 5).map (·.size) = some 1 := by kernel_rfl

/-- The same, all numbers spelt as the walk meets them. -/
theorem run_copy_at (W : World) (G o n k m : Nat) (v : Int) (a s : ByteArray) (ha : a.size = o) (hs : s.size = n) (hk : k = n + m) (hv : (n : Int) = v) (h : W.heap[G]? = some (.cells (bz a k) 141 (0, 0))) :
    (Builtin.copy_ #[67, 9] 3 #[.slice (some ⟨G, o, none⟩) k k, .string s]).run Try.prog W = .ok (goInt v) (W.setRow G (bz (a ++ s) m)) := by
  subst ha hs hk hv
  exact run_copy_on W G 141 67 9 3 5 _ m Try.underlying67 sizeByte1 a s h

theorem bz_zero (t : ByteArray) : bz t 0 = (t.data.toList.map fun b : UInt8 => Value.int .u8 (b.toNat : Int)).toArray := by
  apply Array.toList_inj.1
  rw [bz_list]
  simp
theorem bz_shift (t : ByteArray) (n : Nat) : bz t n = bz (t ++ zz n) 0 := by
  rw [bz_zero]
  rfl

/-- What lies where: the cell, and the bytes. -/
def JS (w : World) (g i : Int) (d t : ByteArray) (m : Nat) (W : World) : Prop :=
  W.heap[w.heap.size + 1]? = some (.cells (bz t m) 141 (0, 0)) ∧ W.heap[w.heap.size]? = some (.cells #[.int .i64 g, .int .i64 i, .string d] 122 (0, 0)) ∧ Below w.heap.size w W
theorem JS.below {w W W' : World} {g i : Int} {d t : ByteArray} {m : Nat} (h : JS w g i d t m W) (hb : Below W.heap.size W W') : JS w g i d t m W' := by
  obtain ⟨h1, h2, h3⟩ := h
  have K : ∀ {k : Nat} {o : Obj}, W.heap[k]? = some o → W'.heap[k]? = some o := fun hk => (hb.block _ (Array.getElem?_eq_some_iff.1 hk).1).trans hk
  exact ⟨K h1, K h2, h3.trans (hb.mono h3.size)⟩
theorem JS.drew {w W : World} {g i : Int} {d t : ByteArray} {m : Nat} (h : JS w g i d t m W) : JS w g i d t m W.drew := ⟨h.1, h.2.1, h.2.2.drew⟩
theorem JS.put {w W : World} {g i : Int} {d t : ByteArray} {m : Nat} (h : JS w g i d t m W) (t' : ByteArray) (m' : Nat) : JS w g i d t' m' (W.setRow (w.heap.size + 1) (bz t' m')) :=
  ⟨setRow_heap W _ _ _ _ _ h.1, (setRow_other W _ _ _ (by omega)).trans h.2.1, h.2.2.trans ⟨rfl, rfl, rfl, by simp [World.setRow], fun k hk => setRow_other W _ k _ (by omega)⟩⟩
theorem JS.cell {w W : World} {g i : Int} {d t : ByteArray} {m : Nat} (h : JS w g i d t m W) :
    W.cell? ⟨w.heap.size, 0, none⟩ = some (.int .i64 g) ∧ W.cell? ⟨w.heap.size, 1, none⟩ = some (.int .i64 i) ∧ W.cell? ⟨w.heap.size, 2, none⟩ = some (.string d) := by
  have := h.2.1
  refine ⟨?_, ?_, ?_⟩ <;> simp [World.cell?, this]

end Go.Proofs.Ytcnonioiggniiaa.War
