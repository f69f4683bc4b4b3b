/-
  The walks of mac.Derive, of the document's Str, Num and Derive, and of the law MacDerives: the key that 'der' says; the law returns true. Nothing that was in memory has turned. Conditions: keys and purposes fit a machine; for the code the table of the rounds' numbers holds what it was laid with.
-/
import Derived.Test.YtkelipedpjmmaaaGreatDoorRows
import Derived.Test.YtkelipedpjmmaaaGreatDoorLawMac
import Derived.Test.YtkelipedpjmmaaaGreatDoorMade
import Derived.Test.YtkelipedpjmmaaaGreatDoorPutV
import Derived.Test.YtkelipedpjmmaaaGreatDoorRefOne
namespace Go.Proofs.YtkelipedpjmmaaaGreatDoor.M

/-- The list of a purpose and a number; its bytes, or its error; the key that comes of it. -/
def dF (P : ByteArray) (n : Int) : F := .cons 1 0 P .nil (.cons 0 n ⟨#[]⟩ .nil .nil)
def der (K P : ByteArray) (n : Int) : ByteArray := match Wu.encV 2 0 ⟨#[]⟩ (dF P n) with
  | .ok a => tag K ⟨a.toArray⟩
  | .error _ => ⟨#[]⟩
theorem dF_ok {P : ByteArray} {n : Int} (hP : P.size ≤ 140737488355328) (h1 : -9223372036854775808 ≤ n) (h2 : n < 9223372036854775808) : (dF P n).ok :=
  ⟨by decide, by decide, hP, trivial, by decide, ⟨h1, h2⟩, by decide, trivial, trivial⟩
theorem dV_ok {P : ByteArray} {n : Int} (hP : P.size ≤ 140737488355328) (h1 : -9223372036854775808 ≤ n) (h2 : n < 9223372036854775808) : (F.cons 2 0 ⟨#[]⟩ (dF P n) .nil).ok :=
  ⟨by decide, by decide, by decide, dF_ok hP h1 h2, trivial⟩
theorem dF_wt {P : ByteArray} {n : Int} (hP : P.size ≤ 140737488355328) (h1 : -9223372036854775808 ≤ n) (h2 : n < 9223372036854775808) : wt1 2 0 ⟨#[]⟩ (dF P n).wt ≤ 8201 := by
  have h := wt_nodes (dF_ok hP h1 h2)
  have e : (dF P n).nodes = 2 := rfl
  unfold wt1
  simp
  omega
theorem dE_long {P : ByteArray} {n : Int} (h : 4096 < P.size) : Wu.encV 2 0 ⟨#[]⟩ (dF P n) = .error 5 := by
  simp [Wu.encV, dF, encF, enc1, cat, F.len, h]
theorem dE_short {P : ByteArray} {n : Int} (h : ¬ 4096 < P.size) : ∃ a, Wu.encV 2 0 ⟨#[]⟩ (dF P n) = .ok a := by
  simp [Wu.encV, dF, encF, enc1, cat, F.len, h]
theorem dE_size {P : ByteArray} {n : Int} (hP : P.size ≤ 140737488355328) (h1 : -9223372036854775808 ≤ n) (h2 : n < 9223372036854775808) {a : List UInt8} (h : Wu.encV 2 0 ⟨#[]⟩ (dF P n) = .ok a) : (⟨a.toArray⟩ : ByteArray).size ≤ 8201 := by
  have e := enc1_size (fun b hb => encF_size hb) (show enc1 2 0 ⟨#[]⟩ (dF P n).len 0 (encF (dF P n) 1) = .ok a from h)
  have h3 := dF_wt hP h1 h2
  show a.toArray.size ≤ 8201
  simp
  omega
theorem der_long {K P : ByteArray} {n : Int} (h : 4096 < P.size) : der K P n = ⟨#[]⟩ := by
  unfold der
  rw [dE_long h]
theorem der_short {K P : ByteArray} {n : Int} {a : List UInt8} (h : Wu.encV 2 0 ⟨#[]⟩ (dF P n) = .ok a) : der K P n = tag K ⟨a.toArray⟩ := by
  unfold der
  rw [h]

end Go.Proofs.YtkelipedpjmmaaaGreatDoor.M
namespace Go.Proofs.YtkelipedpjmmaaaGreatDoor.Wm
open Go.ChangeShapes Go.WideShapes Go.ChangeAt Go.RowKit Go.Proofs.YtkelipedpjmmaaaGreatDoor.M Go.Proofs.YtkelipedpjmmaaaGreatDoor.Wh

theorem strRef (s : ByteArray) (w : World) : Calls Tryz.prog 34 #[.string s] w fun e w' => e = .returned (.agg #[.int .i64 1, .int .i64 0, .string s, .slice none 0 0]) ∧ Below w.heap.size w w' := by
  go_enter Tryz.func34, Tryz.ntmps34
  go_wp2_with fail
  exact bodyPost_ret (v := .agg #[.int .i64 1, .int .i64 0, .string s, .slice none 0 0]) (by simp [results, Tryz.results34, go_sem]) rfl ⟨rfl, (Below.refl _ _).alloc (Nat.le_refl _) _⟩
theorem numRef (n : Int) (w : World) : Calls Tryz.prog 29 #[.int .i64 n] w fun e w' => e = .returned (.agg #[.int .i64 0, .int .i64 n, .string ⟨#[]⟩, .slice none 0 0]) ∧ Below w.heap.size w w' := by
  go_enter Tryz.func29, Tryz.ntmps29
  go_wp2_with fail
  exact bodyPost_ret (v := .agg #[.int .i64 0, .int .i64 n, .string ⟨#[]⟩, .slice none 0 0]) (by simp [results, Tryz.results29, go_sem]) rfl ⟨rfl, (Below.refl _ _).alloc (Nat.le_refl _) _⟩

/-- What Put answers of the list. -/
theorem put_cases (P : ByteArray) (n : Int) (hP : P.size ≤ 140737488355328) (h1 : -9223372036854775808 ≤ n) (h2 : n < 9223372036854775808) :
    ∃ (B : ByteArray) (c : Int), B.size ≤ 8201 ∧
      Hid (∀ W A pa ca, Rd W A (.slice pa 2 ca) (dF P n) → Calls Tryz.prog 10 #[.agg #[.int .i64 2, .int .i64 0, .string ⟨#[]⟩, .slice pa 2 ca]] W fun e w' => e = .returned (.tuple #[.string B, .int .i64 c]) ∧ Below W.heap.size W w') ∧
      Hid (∀ W A L, Rd W A L (dF P n) → Calls Tryz.prog 30 #[.agg #[.int .i64 2, .int .i64 0, .string ⟨#[]⟩, L]] W fun e w' => e = .returned (.tuple #[.string B, .int .i64 c]) ∧ Below W.heap.size W w') ∧
      ((c = 0 ∧ Hid (∀ K, der K P n = tag K B)) ∨ (c = 5 ∧ Hid (∀ K, der K P n = ⟨#[]⟩))) := by
  have C1 : ∀ W A pa ca, Rd W A (.slice pa 2 ca) (dF P n) → _ := fun W A pa ca hR => Wu.put 2 0 ⟨#[]⟩ (dF P n) pa ca A W (dV_ok hP h1 h2) hR (Nat.le_trans (dF_wt hP h1 h2) (by decide))
  have C2 : ∀ W A L, Rd W A L (dF P n) → _ := fun W A L hR => Wo.putRef 2 0 ⟨#[]⟩ (dF P n) L A W (dV_ok hP h1 h2) hR (Nat.le_trans (dF_wt hP h1 h2) (by decide))
  by_cases h : 4096 < P.size
  · rw [dE_long h] at C1 C2
    exact ⟨⟨#[]⟩, 5, by decide, C1, C2, .inr ⟨rfl, fun K => der_long h⟩⟩
  · obtain ⟨a, ha⟩ := dE_short (n := n) h
    rw [ha] at C1 C2
    exact ⟨⟨a.toArray⟩, 0, dE_size hP h1 h2 ha, C1, C2, .inl ⟨rfl, fun K => der_short ha⟩⟩

set_option maxRecDepth 100000 in
set_option maxHeartbeats 1000000 in
theorem derive (K P : ByteArray) (n : Int) (w : World) (hK : K.size ≤ 140737488355328) (hP : P.size ≤ 140737488355328) (h1 : -9223372036854775808 ≤ n) (h2 : n < 9223372036854775808) (hT : Tab w) :
    Calls Tryz.prog 16 #[.string K, .string P, .int .i64 n] w fun e w' => e = .returned (.string (der K P n)) ∧ Below w.heap.size w w' := by
  obtain ⟨B, c, hB, CP, _, hc⟩ := put_cases P n hP h1 h2
  have OK : Hid (dF P n).ok := dF_ok hP h1 h2
  have HT : Hid (Tab w) := hT
  have CT : Hid (∀ w, Tab w → Calls Tryz.prog 13 #[.string K, .string B] w fun e w' => e = .returned (.string (tag K B)) ∧ Below w.heap.size w w') := fun w h => tag_ _ _ w (by omega) (by omega) h
  clear hT
  go_enter Tryz.func16, Tryz.ntmps16
  go_wp2_with fail
  refine (Wy.str P _ (by omega)).mono ?_
  rintro e w1 ⟨rfl, b1⟩
  go_wp2_with fail
  refine (Wy.num n _).mono ?_
  rintro e w2 ⟨rfl, b2⟩
  have c2 : Below w.heap.size w w2 := b1.trans (b2.mono b1.size)
  have hg := heap_alloc_new w2 (.cells #[.int .i64 1, .int .i64 0, .string P, .slice none 0 0, .int .i64 0, .int .i64 n, .string ⟨#[]⟩, .slice none 0 0] 39)
  have c3 : Below w.heap.size w (w2.alloc (.cells #[.int .i64 1, .int .i64 0, .string P, .slice none 0 0, .int .i64 0, .int .i64 n, .string ⟨#[]⟩, .slice none 0 0] 39)) := c2.alloc c2.size _
  have RV : Hid (Rd (w2.alloc (.cells #[.int .i64 1, .int .i64 0, .string P, .slice none 0 0, .int .i64 0, .int .i64 n, .string ⟨#[]⟩, .slice none 0 0] 39)) (fun _ => True) (.slice (some ⟨w2.heap.size, 0, none⟩) 2 2) (dF P n)) :=
    rd_row (A := fun _ => True) (f := dF P n) hg trivial (fun _ h => h) ⟨_, _, rfl, ⟨_, _, rfl, rfl, rd_nil _ _⟩, rd_nil _ _⟩ (Nat.le_refl _) (by decide)
  clear hg
  go_wp2_with fail
  refine (Wy.all (dF P n) _ _ _ (show (2 : Nat) ≤ 1000000 by decide) OK.out RV.out).mono ?_
  rintro e w3 ⟨pa, ca, rfl, ra, b3⟩
  have R3 : Hid (Rd w3 (fun g => (w2.alloc (.cells #[.int .i64 1, .int .i64 0, .string P, .slice none 0 0, .int .i64 0, .int .i64 n, .string ⟨#[]⟩, .slice none 0 0] 39)).heap.size ≤ g) (.slice pa 2 ca) (dF P n)) := ra
  have c4 : Below w.heap.size w w3 := c3.trans (b3.mono c3.size)
  have e2 : (dF P n).len = 2 := rfl
  rw [e2]
  clear ra b3 RV c3 b1 b2 c2 OK e2
  go_wp2_with fail
  refine (CP.out _ _ _ _ R3.out).mono ?_
  rintro e w5 ⟨rfl, b5⟩
  have c5 : Below w.heap.size w w5 := c4.trans (b5.mono c4.size)
  have h5 : Hid (Tab w5) := HT.out.below c5 HT.out.pos
  clear R3 CP b5 c4
  rcases hc with ⟨rfl, hd⟩ | ⟨rfl, hd⟩
  · go_wp2_with fail
    refine (CT.out _ h5.out).mono ?_
    rintro e w6 ⟨rfl, b6⟩
    go_wp2
    go_ret
    exact ⟨by rw [hd.out K]; rfl, c5.trans (b6.mono c5.size)⟩
  · go_wp2
    go_ret
    exact ⟨by rw [hd.out K]; rfl, c5⟩

theorem cells4 {w : World} {b : Nat} {x0 x1 x2 x3 : Value} {T : TypeId} (h : w.heap[b]? = some (.cells #[x0, x1, x2, x3] T (0, 0))) : w.cell? ⟨b, 0, none⟩ = some x0 ∧ w.cell? ⟨b, 1, none⟩ = some x1 ∧ w.cell? ⟨b, 2, none⟩ = some x2 ∧ w.cell? ⟨b, 3, none⟩ = some x3 := by
  refine ⟨?_, ?_, ?_, ?_⟩ <;> simp [World.cell?, h]

set_option maxRecDepth 100000 in
set_option maxHeartbeats 1000000 in
theorem deriveRef (K P : ByteArray) (n : Int) (w : World) (hK : K.size ≤ 140737488355328) (hP : P.size ≤ 140737488355328) (h1 : -9223372036854775808 ≤ n) (h2 : n < 9223372036854775808) :
    Calls Tryz.prog 17 #[.string K, .string P, .int .i64 n] w fun e w' => e = .returned (.string (der K P n)) ∧ Below w.heap.size w w' := by
  obtain ⟨B, c, hB, _, CP, hc⟩ := put_cases P n hP h1 h2
  have CT : Hid (∀ w, Calls Tryz.prog 15 #[.string K, .string B] w fun e w' => e = .returned (.string (tag K B)) ∧ Below w.heap.size w w') := fun w => Wl.tagRef _ _ w (by omega) (by omega)
  go_enter Tryz.func17, Tryz.ntmps17
  go_wp2_with fail
  refine (strRef P _).mono ?_
  rintro e w1 ⟨rfl, b1⟩
  go_wp2_with fail
  refine (numRef n _).mono ?_
  rintro e w2 ⟨rfl, b2⟩
  have c1 : Below w.heap.size w (w1.alloc (.cells #[.int .i64 1, .int .i64 0, .string P, .slice none 0 0] 57)) := b1.alloc b1.size _
  have c2 : Below w.heap.size w w2 := c1.trans (b2.mono c1.size)
  have g1 : w2.heap[w1.heap.size]? = some (.cells #[.int .i64 1, .int .i64 0, .string P, .slice none 0 0] 57 (0, 0)) := (b2.block _ (by simp)).trans (heap_alloc_new w1 _)
  have l1 : w1.heap.size < w2.heap.size := (Array.getElem?_eq_some_iff.1 g1).1
  have g2 : (w2.alloc (.cells #[.int .i64 0, .int .i64 n, .string ⟨#[]⟩, .slice none 0 0] 57)).heap[w1.heap.size]? = some (.cells #[.int .i64 1, .int .i64 0, .string P, .slice none 0 0] 57 (0, 0)) := (heap_alloc_old _ _ l1).trans g1
  have c3 : Below w.heap.size w (w2.alloc (.cells #[.int .i64 0, .int .i64 n, .string ⟨#[]⟩, .slice none 0 0] 57)) := c2.alloc c2.size _
  obtain ⟨k0, k1, k2, k3⟩ := cells4 g2
  obtain ⟨m0, m1, m2, m3⟩ := cells4 (heap_alloc_new w2 (.cells #[.int .i64 0, .int .i64 n, .string ⟨#[]⟩, .slice none 0 0] 57))
  clear g1 g2 b1 b2 c1 c2
  go_wp2_with fail
  have c4 : Below w.heap.size w ((w2.alloc (.cells #[.int .i64 0, .int .i64 n, .string ⟨#[]⟩, .slice none 0 0] 57)).alloc (.cells #[.int .i64 1, .int .i64 0, .string P, .slice none 0 0, .int .i64 0, .int .i64 n, .string ⟨#[]⟩, .slice none 0 0] 57)) := c3.alloc c3.size _
  have RV : Hid (Rd ((w2.alloc (.cells #[.int .i64 0, .int .i64 n, .string ⟨#[]⟩, .slice none 0 0] 57)).alloc (.cells #[.int .i64 1, .int .i64 0, .string P, .slice none 0 0, .int .i64 0, .int .i64 n, .string ⟨#[]⟩, .slice none 0 0] 57)) (fun _ => True) (.slice (some ⟨w2.heap.size + 1, 0, none⟩) 2 2) (dF P n)) :=
    rd_row (A := fun _ => True) (f := dF P n) (heap_alloc2_new w2 _ _) trivial (fun _ h => h) ⟨_, _, rfl, ⟨_, _, rfl, rfl, rd_nil _ _⟩, rd_nil _ _⟩ (Nat.le_refl _) (by decide)
  refine (CP.out _ _ _ RV.out).mono ?_
  rintro e w5 ⟨rfl, b5⟩
  have c5 : Below w.heap.size w w5 := c4.trans (b5.mono c4.size)
  clear RV CP b5 c4 c3 k0 k1 k2 k3 m0 m1 m2 m3
  rcases hc with ⟨rfl, hd⟩ | ⟨rfl, hd⟩
  · go_wp2_with fail
    refine (CT.out _).mono ?_
    rintro e w6 ⟨rfl, b6⟩
    go_wp2
    go_ret
    exact ⟨by rw [hd.out K]; rfl, c5.trans (b6.mono c5.size)⟩
  · go_wp2
    go_ret
    exact ⟨by rw [hd.out K]; rfl, c5⟩

theorem der_size {K P : ByteArray} {n : Int} (h : ¬ 4096 < P.size) : (der K P n).size = 32 := by
  obtain ⟨a, ha⟩ := dE_short (n := n) h
  rw [der_short ha, tag_size]

end Go.Proofs.YtkelipedpjmmaaaGreatDoor.Wm
