/-
  The walk of GraphNames' own literal: a text with its letters turned on. Nothing that was in memory has turned. Condition: the text is of at most 2^47 bytes.
-/
import Derived.Test.YtdhghjfenkjeaaaGpX
import Derived.Test.YtdhghjfenkjeaaaGpM
import Derived.Laws.IdiomStrings
import Derived.Laws.AppendOwn
import Derived.Lib.MinMax
namespace Go.Proofs.Ytdhghjfenkjeaaa.Wgt
open Go.ChangeShapes Go.WideShapes Go.ChangeAt Go.RowKit Go.Proofs.Ytdhghjfenkjeaaa.M Go.Proofs.Ytdhghjfenkjeaaa.Wgp Go.Proofs.Ytdhghjfenkjeaaa.Wg

/-- Bytes that lie in memory. -/
def Lb (W : World) (g : Nat) (l : List UInt8) : Prop := g < W.heap.size ∧ (∀ (j : Nat) c, l[j]? = some c → W.cell? ⟨g, j, none⟩ = some (.int .u8 (c.toNat : Int))) ∧ ∀ j, j < l.length → W.frozen? ⟨g, j, none⟩ = false
theorem Lb.set {W : World} {g p : Nat} {l : List UInt8} (h : Lb W g l) (v : UInt8) (hp : p < l.length) : Lb (W.setCell ⟨g, p, none⟩ (.int .u8 (v.toNat : Int))) g (l.set p v) := by
  refine ⟨by have := h.1; simpa [World.setCell] using this, fun j c hj => ?_, fun j hj => ?_⟩
  · rw [List.getElem?_set] at hj
    by_cases e : p = j
    · subst e
      rw [if_pos rfl, if_pos hp] at hj
      injection hj with hj
      subst hj
      rw [World.cell?_setCell_same' W ⟨g, p, none⟩ _ (by rw [h.2.1 p _ (List.getElem?_eq_getElem hp)]; rfl)]
    · rw [if_neg e] at hj
      rw [World.cell?_setCell_other (a := ⟨g, p, none⟩) (b := ⟨g, j, none⟩) (w := W) (h := fun h => e (by injection h))]
      exact h.2.1 j c hj
  · rw [List.length_set] at hj
    have := h.2.2 j hj
    simpa [go_sem] using this
theorem add_g (g j : Nat) : (⟨g, 0, none⟩ : Addr).add j = ⟨g, j, none⟩ := by
  unfold Addr.add
  split
  · rename_i h; rw [h]
  · simp
theorem Lb.text {W : World} {g : Nat} {l : List UInt8} (h : Lb W g l) (cap : Nat) :
    (convert 66 9 (.slice (some ⟨g, 0, none⟩) l.length cap)).run Try.prog W = .ok (.string ⟨l.toArray⟩) W := by
  exact run_convert_bytes_back (P := Try.prog) W 66 9 5 ⟨g, 0, none⟩ cap l Try.underlying66 Try.underlying5 Try.underlying9 (fun j hj => by
    rw [add_g]
    exact h.2.1 j _ (List.getElem?_eq_getElem hj))
/-- A text turned into bytes of its own. -/
theorem bytes_of (S : ByteArray) (u : World) : ∃ cap u', (convert 9 66 (.string S)).run Try.prog u = .ok (.slice (some ⟨u.heap.size, 0, none⟩) S.size cap) u' ∧ S.size ≤ cap ∧
    Lb u' u.heap.size S.data.toList ∧ Below u.heap.size u u' := by
  refine ⟨_, _, run_bytes_of_string u 9 66 5 S Try.underlying9 Try.underlying66 Try.underlying5, ?_, ⟨?_, fun j c hc => ?_, fun j hj => ?_⟩, ?_⟩
  · exact grownCap_ge _ _ _ _
  · show u.heap.size < (u.heap.push _).size
    rw [Array.size_push]
    omega
  · have hj : j < S.size := by have := (List.getElem?_eq_some_iff.1 hc).1; simpa using this
    have h := World.cell?_alloc_mark u.drew (bytesRow S (grownCap u S.size 0 5)) 5 ((bytesRow S (grownCap u S.size 0 5)).size, (bytesRow S (grownCap u S.size 0 5)).size + 1) j
    rw [bytesRow_at S _ j hj] at h
    have e : S[j] = c := by
      have := (List.getElem?_eq_some_iff.1 hc).2
      exact this
    rw [← e]
    exact h
  · have hj' : j < S.size := by simpa using hj
    have h := World.frozen?_alloc_mark u.drew (bytesRow S (grownCap u S.size 0 5)) 5 (bytesRow S (grownCap u S.size 0 5)).size ((bytesRow S (grownCap u S.size 0 5)).size + 1) j
    have hz : S.size ≤ (bytesRow S (grownCap u S.size 0 5)).size := by
      unfold bytesRow
      rw [Array.size_append, Array.size_map]
      exact Nat.le_add_right _ _
    rw [decide_eq_false (by omega), Bool.false_and] at h
    exact h
  · exact ((Below.refl _ _).drew).alloc (Nat.le_refl _) _

set_option maxRecDepth 100000 in
set_option maxHeartbeats 6400000 in
theorem turn {w : World} (P : Nat) (by_ : Int) (q : Nat) (s : ByteArray) (hs : s.size ≤ 140737488355328) (hq : (max 0 by_).tmod 26 = (q : Int)) (hq2 : q < 26) (hP : w.cell? ⟨P, 0, none⟩ = some (.int .i64 by_)) :
    Calls Try.prog 21 #[.string s, .pointer (some ⟨P, 0, none⟩)] w fun e w' => e = .returned (.string (tS q s)) ∧ Below w.heap.size w w' := by
  have lP := World.block_lt_of_cell? w _ hP
  simp only at lP
  obtain ⟨cap, u, hcv, hcap, hby, b2⟩ := bytes_of s w
  have HB := hid hby
  have hll : s.data.toList.length = s.size := by simp
  go_enter Try.func21, Try.ntmps21
  go_wp2_with fail
  clear hcv
  go_loopw [11] (fun iv wr => ∃ k : Nat, k ≤ s.size ∧ iv = .int .i64 (k : Int) ∧ Hid (Lb wr w.heap.size (tL q s.data.toList k)) ∧ Below w.heap.size w wr) (fun iv _ => s.size - (intOf iv).toNat)
  case atStart => exact ⟨0, Nat.zero_le _, rfl, hid (by rw [tL_zero]; exact hby), b2⟩
  case round =>
    clear HB hby b2
    obtain ⟨k, hk, rfl, HL, hb⟩ := hrel
    by_cases c : k < s.size
    · obtain ⟨ch, hch⟩ : ∃ ch, s.data.toList[k]? = some ch := ⟨s.data.toList[k]'(by omega), List.getElem?_eq_getElem (by omega)⟩
      have gl := HL.out.1
      have x0 := HL.out.2.1 k ch (tL_at hch)
      have x1 := HL.out.2.2 k (by rw [tL_length _ _ _ (by omega)]; omega)
      have hbc : ch.toNat < 256 := UInt8.toNat_lt _
      by_cases hc : 97 ≤ ch.toNat ∧ ch.toNat ≤ 122
      · have HV := hid (tb_yes (q := q) hc)
        have HS := hid (tL_set (q := q) hch)
        have y0 := (hb.cell (p := ⟨P, 0, none⟩) lP).trans hP
        obtain ⟨c1, c2⟩ := hc
        clear hch
        go_wp2_with fail
        go_roundw
        case rel =>
          have HE : 97 + ((ch.toNat : Int) - 97 + (q : Int)) % 26 = ((tb q ch).toNat : Int) := by rw [HV.out]; omega
          rw [HE]
          exact ⟨k + 1, c, by go_num, hid (by rw [← HS.out]; exact HL.out.set _ (by rw [tL_length _ _ _ (by omega)]; omega)), hb.setCell (p := ⟨w.heap.size, k, none⟩) (Nat.le_refl _) _⟩
        case measure => simp [intOf]; omega
      · have HS := hid (tL_stay (q := q) hch (tb_no hc))
        clear hch
        rcases Nat.lt_or_ge ch.toNat 97 with c1 | c1
        · clear hc
          go_wp2_with fail
          go_roundw
          case rel => exact ⟨k + 1, c, by go_num, by rw [HS.out]; exact HL, hb⟩
          case measure => simp [intOf]; omega
        · have c2 : 122 < ch.toNat := by omega
          clear hc
          go_wp2_with fail
          go_roundw
          case rel => exact ⟨k + 1, c, by go_num, by rw [HS.out]; exact HL, hb⟩
          case measure => simp [intOf]; omega
    · have e : k = s.size := by omega
      have HT := hid (HL.out.text cap)
      have e1 : tL q s.data.toList k = s.data.toList.map (tb q) := by rw [e, ← hll]; exact tL_end _ _
      rw [e1, List.length_map, hll] at HT
      have ht := HT.out
      clear HL HT
      go_wp2_with fail
      go_ret
      exact ⟨rfl, hb⟩

end Go.Proofs.Ytdhghjfenkjeaaa.Wgt
