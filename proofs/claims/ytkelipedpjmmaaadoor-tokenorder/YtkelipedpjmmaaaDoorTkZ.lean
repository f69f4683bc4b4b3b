/-
  A text as bytes of its own in memory ('By'): of one byte stored, and turned back into a text; a token with one byte of its tag turned has another tag. Nothing is asked but the bounds that each fact names.
-/
import Derived.Test.YtkelipedpjmmaaaDoorRows
import Derived.Test.YtkelipedpjmmaaaDoorQc
import Derived.WalkKit
import Derived.ProofKit
import Derived.OpenShut
import Derived.Laws.IdiomStrings
import Derived.Laws.AppendOwn
namespace Go.Proofs.YtkelipedpjmmaaaDoor.M

/-- A byte of a text. -/
def bn (s : ByteArray) (j : Nat) : Nat := (bt s j).toNat
theorem bn_int (s : ByteArray) (j : Nat) : (bn s j : Int) = bt s j := by have := (bt_range s j).1; unfold bn; omega
theorem bn_lt (s : ByteArray) (j : Nat) : bn s j < 256 := by have := bt_range s j; unfold bn; omega
/-- A text with one byte put in another's place. -/
def setB (s : ByteArray) (i : Nat) (v : UInt8) : ByteArray := ⟨(s.data.toList.set i v).toArray⟩
theorem setB_size (s : ByteArray) (i : Nat) (v : UInt8) : (setB s i v).size = s.size := by
  show (s.data.toList.set i v).toArray.size = s.data.size
  simp
theorem setB_right (a b : ByteArray) {i : Nat} (v : UInt8) (h : a.size ≤ i) : setB (a ++ b) i v = a ++ setB b (i - a.size) v := by
  apply ByteArray.ext
  apply Array.toList_inj.1
  show ((a ++ b).data.toList.set i v).toArray.toList = (a ++ setB b (i - a.size) v).data.toList
  rw [ByteArray.data_append, ByteArray.data_append]
  simp only [Array.toList_append]
  rw [List.set_append_right _ _ (by simpa using h)]
  have e : a.data.toList.length = a.size := Array.length_toList
  rw [e]
  rfl
theorem bt_set (s : ByteArray) (i j : Nat) (v : UInt8) : bt (setB s i v) j = if i = j ∧ j < s.size then (v.toNat : Int) else bt s j := by
  unfold bt
  by_cases c : j < s.size
  · rw [dif_pos (by rw [setB_size]; exact c), dif_pos c]
    have e : (setB s i v)[j]'(by rw [setB_size]; exact c) = (s.data.toList.set i v)[j]'(by simpa using c) := rfl
    rw [e, List.getElem_set]
    by_cases c2 : i = j
    · rw [if_pos c2, if_pos ⟨c2, c⟩]
    · rw [if_neg c2, if_neg (fun h => c2 h.1)]
      rfl
  · rw [dif_neg (by rw [setB_size]; exact c), dif_neg c, if_neg (fun h => c h.2)]
theorem setB_other {s : ByteArray} {i : Nat} {v : UInt8} (hi : i < s.size) (h : ¬ v.toNat = bn s i) : ¬ setB s i v = s := fun e => by
  have h2 := bt_set s i i v
  rw [e, if_pos ⟨rfl, hi⟩] at h2
  have h3 := bn_int s i
  omega
theorem flip_lt {x r : Nat} (hx : x < 256) (hr : r < 8) : x ^^^ 2 ^ r < 256 := by
  have h : (2 : Nat) ^ r < 2 ^ 8 := Nat.pow_lt_pow_right (by decide) hr
  exact Nat.xor_lt_two_pow (n := 8) hx h
theorem flip_ne (x r : Nat) : ¬ x ^^^ 2 ^ r = x := fun h => by
  have e := Nat.testBit_xor x (2 ^ r) r
  rw [h, Nat.testBit_two_pow, decide_eq_true rfl, Bool.xor_true] at e
  cases hd : x.testBit r <;> rw [hd] at e <;> cases e
theorem flip_byte {x u : Nat} (hx : x < 256) (hu : u < 8) : (UInt8.ofNat (x ^^^ 2 ^ u)).toNat = x ^^^ 2 ^ u := by
  rw [UInt8.toNat_ofNat']
  exact Nat.mod_eq_of_lt (flip_lt hx hu)
theorem flip_val {x u : Nat} (hx : x < 256) (hu : u < 8) : bits .xor .u8 (x : Int) (2 ^ u % 256) = ((UInt8.ofNat (x ^^^ 2 ^ u)).toNat : Int) := by
  have h : (2 : Nat) ^ u < 2 ^ 8 := Nat.pow_lt_pow_right (by decide) hu
  have e : (2 : Int) ^ u % 256 = ((2 ^ u : Nat) : Int) := by
    rw [show (2 : Int) ^ u = ((2 ^ u : Nat) : Int) by simp]
    generalize (2 : Nat) ^ u = t at h
    omega
  rw [e, u8_xor_nat x (2 ^ u) hx h, flip_byte hx hu]
/-- A token with a byte of its tag turned. -/
theorem vf_turned {K : ByteArray} {a b c d : Int} (h : Mt a b c d) {now ep : Int} {q : Nat} {v : UInt8} (hq : q < 32) (hv : ¬ v.toNat = bn (mint K a b c d) ((cB a b c d).size + q)) : vfE K (setB (mint K a b c d) ((cB a b c d).size + q) v) now ep = 20 := by
  have hz := tag_size K (cB a b c d)
  have e : setB (mint K a b c d) ((cB a b c d).size + q) v = cB a b c d ++ setB (tag K (cB a b c d)) q v := by
    unfold mint
    rw [setB_right _ _ _ (by omega), show (cB a b c d).size + q - (cB a b c d).size = q by omega]
  have h2 : ¬ setB (mint K a b c d) ((cB a b c d).size + q) v = mint K a b c d := setB_other (by rw [mint_size]; omega) hv
  rw [e]
  refine vf_wrong h (by rw [setB_size, hz]) (fun he => h2 ?_)
  rw [e, he]
  rfl

end Go.Proofs.YtkelipedpjmmaaaDoor.M
namespace Go.Proofs.YtkelipedpjmmaaaDoor.Wtk
open Go.ChangeShapes Go.WideShapes Go.ChangeAt Go.RowKit Go.Proofs.YtkelipedpjmmaaaDoor.M

/-- A text's bytes lie in memory. -/
def By (W : World) (g : Nat) (S : ByteArray) : Prop := g < W.heap.size ∧ ∀ j, j < S.size → W.cell? ⟨g, j, none⟩ = some (.int .u8 (bn S j : Int))
theorem By.below {W W' : World} {g : Nat} {S : ByteArray} (h : By W g S) (b : Below W.heap.size W W') : By W' g S := ⟨Nat.lt_of_lt_of_le h.1 b.size, fun j hj => (b.cell (p := ⟨g, j, none⟩) h.1).trans (h.2 j hj)⟩
theorem By.drew {W : World} {g : Nat} {S : ByteArray} (h : By W g S) : By W.drew g S := h
theorem By.set {W : World} {g p : Nat} {S : ByteArray} (h : By W g S) (v : UInt8) (hp : p < S.size) : By (W.setCell ⟨g, p, none⟩ (.int .u8 (v.toNat : Int))) g (setB S p v) := by
  refine ⟨by have := h.1; simpa [World.setCell] using this, fun j hj => ?_⟩
  rw [setB_size] at hj
  have e : (bn (setB S p v) j : Int) = if p = j ∧ j < S.size then (v.toNat : Int) else bt S j := by rw [bn_int, bt_set]
  rw [e]
  by_cases c : p = j
  · subst c
    rw [World.cell?_setCell_same' W ⟨g, p, none⟩ _ (by rw [h.2 p hp]; rfl), if_pos ⟨rfl, hp⟩]
  · rw [World.cell?_setCell_other (a := ⟨g, p, none⟩) (b := ⟨g, j, none⟩) (w := W) (h := fun h => c (by injection h)), h.2 j hj, if_neg (fun h => c h.1), bn_int]
theorem add_g (g j : Nat) : (⟨g, 0, none⟩ : Addr).add j = ⟨g, j, none⟩ := by
  unfold Addr.add
  split
  · rename_i h; rw [h]
  · simp
theorem By.text {W : World} {g : Nat} {S : ByteArray} (h : By W g S) (r cap : Nat) (hr : r ≤ S.size) :
    (convert 42 9 (.slice (some ⟨g, 0, none⟩) r cap)).run Tryd.prog W = .ok (.string (S.extract 0 r)) W := by
  have hl : (S.extract 0 r).data.toList.length = r := by
    rw [ByteArray.data_extract]
    simp
    exact Nat.min_eq_left hr
  have h2 := run_convert_bytes_back (P := Tryd.prog) W 42 9 5 ⟨g, 0, none⟩ cap (S.extract 0 r).data.toList Tryd.underlying42 Tryd.underlying5 Tryd.underlying9 (fun j hj => by
    have hj' : j < r := by rw [hl] at hj; exact hj
    rw [add_g, h.2 j (by omega), bn_int, ← get_bt S j (by omega)]
    simp [ByteArray.data_extract]
    rfl)
  rw [hl] at h2
  exact h2
/-- A text turned into bytes of its own. -/
theorem bytes_of (S : ByteArray) (u : World) : ∃ cap u', (convert 9 42 (.string S)).run Tryd.prog u = .ok (.slice (some ⟨u.heap.size, 0, none⟩) S.size cap) u' ∧ S.size ≤ cap ∧
    By u' u.heap.size S ∧ (∀ j, j < S.size → u'.frozen? ⟨u.heap.size, j, none⟩ = false) ∧ Below u.heap.size u u' := by
  refine ⟨_, _, run_bytes_of_string u 9 42 5 S Tryd.underlying9 Tryd.underlying42 Tryd.underlying5, ?_, ⟨?_, fun j hj => ?_⟩, fun j hj => ?_, ?_⟩
  · exact grownCap_ge _ _ _ _
  · show u.heap.size < (u.heap.push _).size
    rw [Array.size_push]
    omega
  · have h := World.cell?_alloc_mark u.drew (bytesRow S (grownCap u S.size 0 5)) 5 ((bytesRow S (grownCap u S.size 0 5)).size, (bytesRow S (grownCap u S.size 0 5)).size + 1) j
    rw [bytesRow_at S _ j hj] at h
    have e := get_bt S j hj
    rw [bn_int, ← e]
    exact h
  · have h := World.frozen?_alloc_mark u.drew (bytesRow S (grownCap u S.size 0 5)) 5 (bytesRow S (grownCap u S.size 0 5)).size ((bytesRow S (grownCap u S.size 0 5)).size + 1) j
    have hz : S.size ≤ (bytesRow S (grownCap u S.size 0 5)).size := by
      unfold bytesRow
      rw [Array.size_append, Array.size_map]
      exact Nat.le_add_right _ _
    rw [decide_eq_false (by omega), Bool.false_and] at h
    exact h
  · exact ((Below.refl _ _).drew).alloc (Nat.le_refl _) _

end Go.Proofs.YtkelipedpjmmaaaDoor.Wtk
