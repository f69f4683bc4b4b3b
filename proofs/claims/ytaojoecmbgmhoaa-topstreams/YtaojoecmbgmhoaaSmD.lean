/-
  The walk of a stream's framesOf: the frames of bodies, one behind the other, or the first error of one; nothing that was in memory turns. Condition: at most 1048576 bodies.
-/
import Derived.Test.YtaojoecmbgmhoaaSmA
import Derived.Test.YtaojoecmbgmhoaaWb
import Derived.Test.YtaojoecmbgmhoaaArL
namespace Go.Proofs.Ytaojoecmbgmhoaa.Wst
open Go.ChangeShapes Go.WideShapes Go.ChangeAt Go.RowKit Go.Proofs.Ytaojoecmbgmhoaa.M Go.Proofs.Ytaojoecmbgmhoaa.Wd

/-- The i-th body. -/
def nth (l : List ByteArray) (i : Nat) : ByteArray := l.getD i ⟨#[]⟩
theorem nth_get {l : List ByteArray} {i : Nat} (h : i < l.length) : nth l i = l[i] := by
  unfold nth
  rw [List.getD_eq_getElem?_getD, List.getElem?_eq_getElem h]
  rfl
theorem drop_nth {l : List ByteArray} {i : Nat} (h : i < l.length) : l.drop i = nth l i :: l.drop (i + 1) := by
  rw [List.drop_eq_getElem_cons h, nth_get h]
theorem take_nth {l : List ByteArray} {i : Nat} (h : i < l.length) : l.take (i + 1) = l.take i ++ [nth l i] := by
  rw [List.take_succ_eq_append_getElem h, nth_get h]
/-- The text that comes of bodies: none, if one has an error. -/
def fB (l : List ByteArray) : ByteArray := if fE l = 0 then frs l else ⟨#[]⟩
theorem fE_take : ∀ (l : List ByteArray) (i : Nat), fE (l.take i) = 0 → i < l.length → (frE (nth l i) = 0 → fE (l.take (i + 1)) = 0) ∧ (¬ frE (nth l i) = 0 → fE l = frE (nth l i))
  | [], i, _, hi => by simp at hi
  | b :: l, 0, _, _ => by
    constructor
    · intro h
      have h : frE b = 0 := h
      show (if frE b = 0 then fE [] else frE b) = 0
      rw [if_pos h]
      rfl
    · intro h
      have h : ¬ frE b = 0 := h
      show (if frE b = 0 then fE l else frE b) = frE b
      rw [if_neg h]
  | b :: l, i + 1, h0, hi => by
    have hb : frE b = 0 := by
      by_cases c : frE b = 0
      · exact c
      · have h : (if frE b = 0 then fE (l.take i) else frE b) = 0 := h0
        rw [if_neg c] at h
        exact absurd h c
    have h1 : fE (l.take i) = 0 := by
      have h : (if frE b = 0 then fE (l.take i) else frE b) = 0 := h0
      rw [if_pos hb] at h
      exact h
    have ih := fE_take l i h1 (by simpa using hi)
    constructor
    · intro h
      show (if frE b = 0 then fE (l.take (i + 1)) else frE b) = 0
      rw [if_pos hb]
      exact ih.1 h
    · intro h
      show (if frE b = 0 then fE l else frE b) = frE (nth l i)
      rw [if_pos hb]
      exact ih.2 h

set_option maxRecDepth 100000 in
set_option maxHeartbeats 400000 in
theorem framesOf (l : List ByteArray) (p : Option Addr) (cap : Nat) (w : World) (hs : ∀ b ∈ l, b.size ≤ maxLen) (hn : l.length ≤ 1048576) (hL : War.Lies w p l.length (nth l)) :
    Calls Try.prog 36 #[.slice p l.length cap] w fun e w' => e = .returned (.tuple #[.string (fB l), .int .i64 (fE l)]) ∧ Below w.heap.size w w' := by
  have HL := hid hL
  have HY : Hid (∀ i, i < l.length → (nth l i).size ≤ maxLen) := fun i hi => by rw [nth_get hi]; exact hs _ (List.getElem_mem hi)
  clear hL hs
  obtain ⟨n, hN⟩ : ∃ n, n = l.length := ⟨_, rfl⟩
  have HN := hid hN
  rw [← hN]
  rw [← hN] at hn HL HY
  clear hN
  go_enter Try.func36, Try.ntmps36
  go_wp2
  go_loopw [11] (fun iv wr => ∃ i : Nat, i ≤ n ∧ iv = .int .i64 (i : Int) ∧ fE (l.take i) = 0 ∧ Lib.IsBuilder 108 5 w.heap.size w.heap.size (Lib.byteCells (frs (l.take i)).data.toList) wr ∧ Below w.heap.size w wr) (fun i _ => n - (intOf i).toNat)
  case atStart => exact ⟨0, Nat.zero_le _, rfl, rfl, .inl ⟨Nat.le_refl _, _, heap_alloc_new w _, ⟨rfl, .inl ⟨rfl, rfl⟩⟩, by simp [Value.ownBlock]⟩, (Below.refl _ _).alloc (Nat.le_refl _) _⟩
  case round =>
    obtain ⟨i, hi, rfl, hf, hb', hbel⟩ := hrel
    have hz := hbel.size
    have hbw : w.heap.size < wr.heap.size := by
      rcases hb' with ⟨_, _, h, _⟩ | ⟨_, _, h, _⟩
      · exact Wx.lt_of_heap h
      · exact Wx.lt_of_heap h
    have HSZ : Hid ((frs (l.take i)).size ≤ 4102 * i) := by
      have h1 := frs_size _ (fE_ok.1 hf)
      have h2 : (l.take i).length ≤ i := List.length_take_le ..
      show (frs (l.take i)).size ≤ 4102 * i
      exact Nat.le_trans h1 (Nat.mul_le_mul_left _ h2)
    have HF := hid hf
    clear hf
    by_cases hlt : i < n
    · rcases HL.out with h | ⟨b, off, ha, hb, hcell⟩
      · exfalso; omega
      · have hci : wr.cell? ⟨b, off + i, none⟩ = some (.string (nth l i)) := by rw [← hcell i hlt]; exact hbel.cell (by exact hb)
        have C := hid fun w => Wf.put (nth l i) w (HY.out i hlt)
        have HE := hid (fE_take l i HF.out (by rw [← HN.out]; exact hlt))
        have HT := hid (take_nth (l := l) (i := i) (by rw [← HN.out]; exact hlt))
        have FO := hid fun (h : frE (nth l i) = 0) => fr_ok (b := nth l i) (fun e => by have := frE_ok.1 h; omega) (fun e => by have := frE_ok.1 h; omega)
        have FS := hid fun h => (frE_ok (b := nth l i)).1 h
        clear hcell
        subst ha
        generalize nth l i = x at *
        by_cases c : frE x = 0
        · obtain ⟨f1, f2⟩ := FO.out c
          obtain ⟨f3, f4⟩ := FS.out c
          rw [c, f2] at C
          have N0 := hid (HE.out.1 c)
          have N1 : Hid (frs (l.take i) ++ fr x = frs (l.take (i + 1))) := by
            show _ = _
            rw [HT.out, frs_snoc]
          have hsz : (fr x).size ≤ 4102 := by rw [fr_size]; omega
          clear c f1 f2 HE FO FS
          generalize hT1 : frs (l.take (i + 1)) = t1 at *
          have HT1 := hid hT1
          clear hT1
          generalize frs (l.take i) = t0 at *
          generalize fr x = f at *
          go_wp2_with fail
          refine (C.out _).mono ?_
          rintro e w1 ⟨rfl, b1⟩
          have HB1 := Wx.builder_below hb' b1
          have B1 := hid (hbel.trans (b1.mono hz))
          clear hb'
          go_wp2_with fail
          refine (Wxs.write_of w.heap.size w.heap.size t0 f _ HB1 (by have := HSZ.out; omega) B1.out.size).mono ?_
          rintro e w2 ⟨rfl, HB2, b2, _⟩
          rw [N1.out] at HB2
          have G := hid (And.intro HB2 (B1.out.trans b2))
          clear HB1 HB2
          go_wp2
          go_roundw
          case rel => exact ⟨i + 1, by omega, by go_num, N0.out, by rw [HT1.out]; exact G.out.1, G.out.2⟩
          case measure => simp [intOf] <;> omega
        · have hE := HE.out.2 c
          have HR : Hid (fB l = ⟨#[]⟩ ∧ fE l = frE x) := by
            refine ⟨?_, hE⟩
            unfold fB
            rw [hE, if_neg c]
          have cb : (frE x == 0) = false := by simpa using c
          generalize frB x = f at *
          generalize frE x = E at *
          clear hE c
          go_wp2_with fail
          refine (C.out _).mono ?_
          rintro e w1 ⟨rfl, b1⟩
          have B1 := hid (hbel.trans (b1.mono hz))
          clear hb'
          go_wp2
          go_ret2
          refine ⟨?_, B1.out⟩
          rw [HR.out.1, HR.out.2]
          rfl
    · have hE : i = n := by omega
      have HR : Hid (fB l = frs (l.take i) ∧ fE l = 0) := by
        have e : l.take i = l := List.take_of_length_le (by rw [hE, HN.out]; exact Nat.le_refl _)
        have h0 := HF.out
        rw [e] at h0 ⊢
        refine ⟨?_, h0⟩
        unfold fB
        rw [if_pos h0]
      generalize frs (l.take i) = t0 at *
      go_wp2_with fail
      refine (Wxs.string_of w.heap.size w.heap.size t0 _ hb' hz).mono ?_
      rintro e w1 ⟨rfl, b1⟩
      have B1 := hid (hbel.trans b1)
      clear hb'
      go_wp2
      go_ret2
      refine ⟨?_, B1.out⟩
      rw [HR.out.1, HR.out.2]
      rfl

end Go.Proofs.Ytaojoecmbgmhoaa.Wst
