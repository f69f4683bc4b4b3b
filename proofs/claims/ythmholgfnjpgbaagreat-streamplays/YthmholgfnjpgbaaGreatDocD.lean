/-
  The walks of the document's Left and Append: a record more, or the error that it names. Conditions: the stream and its disk lie in memory, as 'Sw' says; the stream's records are such as have frames; its generation is at least 1.
-/
import Derived.Test.YthmholgfnjpgbaaGreatDocC
namespace Go.Proofs.YthmholgfnjpgbaaGreat.Wdc
open Go.ChangeShapes Go.WideShapes Go.ChangeAt Go.RowKit Go.Proofs.YthmholgfnjpgbaaGreat.M Go.Proofs.YthmholgfnjpgbaaGreat.Wd Go.Proofs.YthmholgfnjpgbaaGreat.Wst

theorem len_le_frs : ∀ (L : List ByteArray), L.length ≤ (frs L).size
  | [] => Nat.zero_le _
  | b :: L => by
    have := len_le_frs L
    show L.length + 1 ≤ (fr b ++ frs L).size
    rw [size_app, fr_size]
    omega
theorem Row.at_ {w : World} {G : Nat → Prop} {T : Nat} {v : Value} {L : List ByteArray} (h : Row w G T v L) : ∃ a cap, v = .slice a L.length cap ∧ L.length ≤ cap ∧ cap ≤ maxLen ∧ War.Lies w a L.length (nth L) := War.own_lies h.own fun _ hj => rcv_get hj
theorem own_frames {w : World} {L : List ByteArray} {a : Option Addr} {cap : Nat} (hF : Framable L) (hc : (frs L).size ≤ 200000) (li : War.Lies w a L.length (nth L)) :
    Calls Tryz.prog 43 #[.slice a L.length cap] w fun e w' => e = .returned (.tuple #[.string (frs L), .int .i64 0]) ∧ Below w.heap.size w w' := by
  have h1 := len_le_frs L
  have C := frames L a cap w (fun b hb => by have := (hF b hb).2; unfold maxLen; omega) (by omega) li
  rw [fE_ok.2 hF, fB_ok (fE_ok.2 hF)] at C
  exact C

set_option maxRecDepth 100000 in
set_option maxHeartbeats 400000 in
theorem left {w : World} {T E : Nat} {s : Sm} {d : Dk} {G : Nat → Prop} {v : Value} {L : Wr.Lr} (h : Wr.RkL w E d G L) (hT : Rs w T E s G v) (hR : Row w G T v s.L) (hs : Sw d s) (hF : Framable s.L) :
    Calls Tryz.prog 19 #[.pointer (some ⟨T, 0, none⟩)] w fun e w' => e = .returned (.int .i64 s.left) ∧ Below w.heap.size w w' := by
  obtain ⟨a, cap, rfl, _, _, li⟩ := hR.at_
  have hn := (h.ok.r s.i hs.hi).n
  have hh : s.h ≤ 2047 := by rw [hs.h]; omega
  have hc := hs.cap
  have CF := hid (own_frames (cap := cap) hF (by omega) li)
  have k5 := hT.cell (i := 5) (u := .slice a s.L.length cap) rfl
  have K2 := hid fun (W : World) (hW : Below w.heap.size w W) => (hT.below hW).cell (i := 2) (u := .int .i64 (s.h : Int)) rfl
  have HX : Hid (s.left = (s.h : Int) * 55 - 1 - ((frs s.L).size : Int)) := by
    show 55 * (s.h : Int) - 1 - ((frs s.L).size : Int) = _
    omega
  clear h hT hR hs li hF
  generalize s.h = H at *
  generalize frs s.L = f at *
  go_enter Tryz.func19, Tryz.ntmps19
  go_wp2_with fail
  refine CF.out.mono ?_
  rintro e w1 ⟨rfl, b1⟩
  have k2 := K2.out w1 b1
  go_wp2
  go_ret
  refine ⟨?_, b1⟩
  rw [HX.out]
  rfl

/-- One record more in the stream's list. -/
theorem rc_push {w w1 w2 : World} {T E : Nat} {s s2 : Sm} {d : Dk} {G : Nat → Prop} {v : Value} {e : Ending} {o : Obj} {b : ByteArray} {g cap : Nat} (hR : Row w G T v s.L) (h : LaP G T E s v 0 d w e w1) (own2 : w2.ownsRow 0 9 1 (.slice (some ⟨g, 0, none⟩) (s.L.length + 1) cap) (s.L.length + 1) (rcv s.L ++ [.string b])) (gr : (w1.alloc o).grownBy w2 v.ownBlock) (hg : v.ownBlock = some g ∨ g = w1.heap.size + 1) (hs2 : s2 = { s with L := s.L ++ [b] }) :
    (w2.cell? ⟨T, 5, none⟩ = some v ∧ w2.frozen? ⟨T, 5, none⟩ = false) ∧ RcP G T E v s2 0 d w (.returned (.int .i64 0)) (w2.setCell ⟨T, 5, none⟩ (.slice (some ⟨g, 0, none⟩) (s.L.length + 1) cap)) := by
  obtain ⟨_, ⟨L', h2⟩, h3, h4⟩ := h
  have bA : Below w1.heap.size w1 (w1.alloc o) := (Below.refl _ _).alloc (Nat.le_refl _) o
  have zA : (w1.alloc o).heap.size = w1.heap.size + 1 := by simp
  have hz1 := gr.size
  have hz4 := h4.size
  have keep : ∀ k, k < w1.heap.size → ¬ v.ownBlock = some k → w2.heap[k]? = w1.heap[k]? := fun k hk hne => by
    rw [gr.block k (by omega) (fun c => hne c.symm), bA.block k hk]
  have vlt : ∀ k, v.ownBlock = some k → k < w.heap.size := fun k hk => (hR.own.lt k hk).2
  have hT2 : w2.heap[T]? = some (.cells (rcs E s v).toArray 55 (0, 0)) := (keep T h3.lt fun c => (hR.ap T c).2 rfl).trans h3.at_
  have gG : ¬ Gr G w w1 g ∧ g ≠ T := by
    rcases hg with hg | hg
    · exact ⟨fun c => c.elim (hR.ap g hg).1 fun c => by have := vlt g hg; omega, (hR.ap g hg).2⟩
    · exact ⟨fun c => by have := h2.lt g c; omega, by have := h3.lt; omega⟩
  refine ⟨⟨blk_cell hT2 rfl, blk_free hT2 5⟩, rfl, Gr G w w1, .slice (some ⟨g, 0, none⟩) (s.L.length + 1) cap, ⟨L', h2.kept (by simp [World.setCell]; omega) fun k hk => ?_⟩, ⟨?_, h3.nf⟩, ⟨?_, fun k hk => ?_⟩, fun k c => ?_, ?_⟩
  · rw [Below.heap_setCell _ _ _ _ (show k ≠ T from fun c => h3.nf (by rw [← c]; exact hk))]
    exact keep k (h2.lt k hk) fun c => hk.elim (hR.ap k c).1 fun hk => by have := vlt k c; omega
  · have := blk_set hT2 5 (.slice (some ⟨g, 0, none⟩) (s.L.length + 1) cap)
    rw [hs2]
    exact this
  · rw [hs2]
    show World.ownsRow _ 0 _ 1 _ (s.L ++ [b]).length (rcv (s.L ++ [b]))
    have e1 : (s.L ++ [b]).length = s.L.length + 1 := by simp
    have e2 : rcv (s.L ++ [b]) = rcv s.L ++ [.string b] := by simp [rcv]
    rw [e1, e2]
    obtain ⟨q1, q2 | ⟨g', c', cur, p1, p2, p3, p4⟩⟩ := own2
    · exact absurd q2.2 (by omega)
    · have eg : g = g' := by injection p1 with p1; injection p1 with p1; injection p1
      subst eg
      exact ⟨q1, .inr ⟨g, c', cur, p1, p2, by rw [Below.heap_setCell _ _ _ _ (show g ≠ T from gG.2)]; exact p3, p4⟩⟩
  · have eg : g = k := by simpa [Value.ownBlock] using hk
    rw [← eg]
    exact gG
  · rcases c with (c | c) | c | c
    · exact .inl (.inl c)
    · exact .inr c.1
    · exact .inl (.inr (.inl c))
    · have eg : g = k := by simpa [Value.ownBlock] using c
      rw [← eg]
      rcases hg with hg | hg
      · exact .inl (.inr (.inr hg))
      · exact .inr (by omega)
  · refine ⟨gr.os.trans h4.os, gr.tape.trans h4.tape, gr.output.trans h4.output, by simp [World.setCell]; omega, fun k hk c => ?_⟩
    rw [Below.heap_setCell _ _ _ _ (show k ≠ T from fun e => c (.inr (.inl e))), keep k (by omega) (fun e => c (.inr (.inr e)))]
    exact h4.block k hk fun e => c (.inl e)

theorem elemS2 : Tryz.prog.elem 31 = 9 := by kernel_rfl
theorem cut_from (gp op n cp f : Nat) (z : Int) (hz : z = (f : Int)) (h1 : f < n) (h2 : n ≤ cp) (u : World) :
    (Instr.slice 31 (.slice (some ⟨gp, op, none⟩) n cp) (some (.int .i64 z)) none none).run Tryz.prog u = .ok (.slice (some ⟨gp, op + f, none⟩) (n - f) (cp - f)) u := by
  have e : z.toNat = f := by omega
  have hr := run_slice_l (P := Tryz.prog) u 31 (some ⟨gp, op, none⟩) n cp (by rw [elemS2]; exact Tryz.underlying31) .i64 z (by omega) (by omega)
  rw [hr, elemS2, Tryz.sizeOf9 u, e]
  have e3 : ¬ cp = f := by omega
  simp [Result.andThen, sliced, e3, Addr.add]

end Go.Proofs.YthmholgfnjpgbaaGreat.Wdc
