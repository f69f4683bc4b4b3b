/-
  The contract of Masks. Conditions: at most 20 nodes, which lie in memory.
-/
import Derived.Test.YtainajjklakaeaaGpD
import Derived.Deep.OwnRows
import Derived.Test.YtainajjklakaeaaMathMs
namespace Go.Proofs.Ytainajjklakaeaa.Wgp
open Go.ChangeShapes Go.WideShapes Go.ChangeAt Go.RowKit Go.Proofs.Ytainajjklakaeaa.M Go.Proofs.Ytainajjklakaeaa.Wg

theorem ofInt_u32 (a : Nat) (h : a < 4294967296) : (BitVec.ofInt 32 (a : Int)).toNat = a := by
  rw [BitVec.toNat_ofInt]
  omega
theorem u32_or_nat (a b : Nat) (ha : a < 4294967296) (hb : b < 4294967296) : bits .or .u32 (a : Int) (b : Int) = ((a ||| b : Nat) : Int) := by
  have hx : a ||| b < 2 ^ 32 := Nat.or_lt_two_pow (by omega) (by omega)
  show IntKind.u32.wrap ((BitVec.ofInt 32 (a : Int) ||| BitVec.ofInt 32 (b : Int)).toNat : Int) = _
  rw [BitVec.toNat_or, ofInt_u32 a ha, ofInt_u32 b hb, IntKind.wrap_u32]
  omega

/-- The i-th mask. -/
def mrow (L : List Nd) (i : Nat) : Nat := match L[i]? with
  | some x => bsm (mbt L x.deps) L.length
  | none => 0
theorem mrow_of {L : List Nd} {i : Nat} {x : Nd} (hx : L[i]? = some x) : mrow L i = bsm (mbt L x.deps) L.length := by unfold mrow; rw [hx]
/-- The masks as far as they have come. -/
def mV (L : List Nd) (at_ c : Nat) (j : Nat) : Value := .int .u32 ((if j < at_ then mrow L j else if j = at_ then c else 0 : Nat) : Int)

theorem info32 : (Try.prog.info? 71).map (fun i => (i.zero, i.size, i.bytes)) = some (some (.int .u32 0), 1, 4) := by kernel_rfl
theorem made32 (n : Nat) (hn : n ≤ 1048576) (u : World) : (Instr.makeSlice 69 (.int .i64 (n : Int)) (.int .i64 (n : Int))).run Try.prog u = .ok (.slice (some ⟨u.heap.size, 0, none⟩) n n) (u.alloc (.cells (madeCells #[.int .u32 0] n) 71)) := by
  obtain ⟨i0, hi, hz0, hz1, hz2⟩ := info_parts info32
  have h := run_make (P := Try.prog) u 69 71 i0 (.int .u32 0) Try.underlying69 hi hz0 .i64 .i64 (n : Int) (n : Int) (by omega) (by omega) (by rw [hz2]; omega) (by omega)
  simpa [hz1, Value.cells] using h

set_option maxRecDepth 100000 in
set_option maxHeartbeats 6400000 in
theorem masks {w : World} {a : Option Addr} {L : List Nd} {cap : Nat} (nm : ByteArray) (h : Ns w a L) (hl : L.length ≤ 20) (hok : ∀ x ∈ L, NdOk x) :
    Calls Try.prog 19 #[.agg #[.string nm, .slice a L.length cap]] w fun e w' => e = .returned (.slice (some ⟨w.heap.size + 1, 0, none⟩) L.length L.length) ∧ w'.rowIs (w.heap.size + 1) 71 L.length (fun i => .int .u32 (mrow L i : Int)) ∧ w.heap.size + 1 < w'.heap.size ∧ Below w.heap.size w w' := by
  have H := hid h
  have hmk := made32 L.length (by omega)
  have B0 := hid (al2 w (.cells #[.string nm, .slice a L.length cap] 28) (.cells (madeCells #[.int .u32 0] L.length) 71))
  have F0 := hid ((box2 w 28 nm a L.length cap).below (by simp) (al _ (.cells (madeCells #[.int .u32 0] L.length) 71)))
  have R0 := hid (World.rowIs_made (w.alloc (.cells #[.string nm, .slice a L.length cap] 28)) (.int .u32 0) L.length 71)
  rw [World.size_alloc] at R0
  clear h
  go_enter Try.func19, Try.ntmps19
  go_wp2_with fail
  clear hmk
  go_loopw [16] (fun iv wr => ∃ m : Nat, m ≤ L.length ∧ iv = .int .i64 (m : Int) ∧ Hid (wr.rowIs (w.heap.size + 1) 71 L.length (mV L m 0)) ∧ Below w.heap.size w wr ∧ w.heap.size + 1 < wr.heap.size ∧ Hid (F2 wr w.heap.size nm (.slice a L.length cap))) (fun iv _ => L.length - (intOf iv).toNat)
  case atStart => exact ⟨0, Nat.zero_le _, rfl, hid (R0.out.congr fun i _ => by simp [mV]), B0.out, by simp, F0⟩
  case round =>
    obtain ⟨m, hm, rfl, HR, hb, hz, HF⟩ := hrel
    by_cases c : m < L.length
    · obtain ⟨x, hx⟩ : ∃ x, L[m]? = some x := ⟨L[m], List.getElem?_eq_getElem c⟩
      obtain ⟨g, da, dc, rfl, hg, N, hdl, hdm, HS⟩ := H.out.at hx
      have hok' := hok x (List.mem_of_getElem? hx)
      have hd4 := hok'.2.2.2.1
      obtain ⟨y0, y1, y2, y3, y4, y5⟩ := N.below hg hb
      have hmr := hid (mrow_of hx)
      have S := hid HS
      have BN := hid (al wr (.cells #[.string x.name, .slice da x.deps.length dc, .int .i64 x.tries, .int .i64 x.lease, .int .i64 x.tenant, .string x.flow] 56))
      clear hx hok' N HS
      go_wp2_with fail
      clear y0 y1 y2 y3 y4 y5
      go_loopw [24] (fun iv wq => ∃ t : Nat, t ≤ x.deps.length ∧ iv = .int .i64 (t : Int) ∧ Hid (wq.rowIs (w.heap.size + 1) 71 L.length (mV L m (bsm (mbt L (x.deps.take t)) L.length))) ∧ Below w.heap.size w wq ∧ w.heap.size + 1 < wq.heap.size ∧ Hid (F2 wq w.heap.size nm (.slice (some ⟨g, 0, none⟩) L.length cap))) (fun iv _ => x.deps.length - (intOf iv).toNat)
      case atStart =>
        exact ⟨0, Nat.zero_le _, rfl, hid ((HR.out.alloc _).congr fun i _ => by rw [List.take_zero, show mbt L [] = (fun _ => false) from rfl, bsm_zero]), hb.trans (BN.out.mono hb.size), by simp; omega, hid (HF.out.below (by omega) BN.out)⟩
      case round =>
        obtain ⟨t, ht, rfl, HT, hbq, hzq, HFq⟩ := hrel
        by_cases ct : t < x.deps.length
        · obtain ⟨d, hd⟩ : ∃ d, x.deps[t]? = some d := ⟨x.deps[t], List.getElem?_eq_getElem ct⟩
          obtain ⟨gd, rfl, hgd, y0'⟩ := S.out.at hd
          have y0 := (hbq.cell (p := ⟨gd, t, none⟩) hgd).trans y0'
          obtain ⟨f0, f1⟩ := HFq.out
          have CF := hid (find (cap := cap) d (H.out.below hbq) (by omega))
          have hsn : Hid (x.deps.take (t + 1) = x.deps.take t ++ [d]) := by
            have := List.take_add_one (l := x.deps) (i := t)
            rw [hd] at this
            exact this
          clear hd y0' S
          go_wp2_with fail
          refine CF.out.mono ?_
          rintro e w2 ⟨rfl, b2⟩
          have HT2 : Hid (w2.rowIs (w.heap.size + 1) 71 L.length (mV L m (bsm (mbt L (x.deps.take t)) L.length))) := hid (HT.out.of_block (b2.block _ hzq))
          have HF2 := hid (HFq.out.below (by omega) b2)
          have hb2 := hbq.trans (b2.mono hbq.size)
          have hz2 : w.heap.size + 1 < w2.heap.size := Nat.lt_of_lt_of_le hzq b2.size
          clear CF b2 y0 f0 f1 HT HFq hbq hzq
          rcases fnd_cases L d with ⟨e1, _⟩ | ⟨i, y, e1, hy, _⟩
          · have hst : Hid (mbt L (x.deps.take (t + 1)) = mbt L (x.deps.take t)) := hid (by
              funext k
              rw [hsn.out, mbt_snoc, e1, decide_eq_false (by omega), Bool.or_false])
            rw [e1]
            clear e1
            go_wp2_with fail
            go_roundw
            case rel => exact ⟨t + 1, ct, by go_num, by rw [hst.out]; exact HT2, hb2, hz2, HF2⟩
            case measure => simp [intOf]; omega
          · have hiL := (List.getElem?_eq_some_iff.1 hy).1
            have hst : Hid (bsm (mbt L (x.deps.take (t + 1))) L.length = bsm (mbt L (x.deps.take t)) L.length ||| 2 ^ i) := hid (by
              rw [bsm_one hiL]
              apply bsm_congr
              intro k _
              rw [hsn.out, mbt_snoc, e1]
              congr 1
              by_cases q : i = k
              · subst q; simp
              · rw [decide_eq_false q, decide_eq_false (by omega)])
            have hblt := bsm_lt (mbt L (x.deps.take t)) L.length
            have h2l : 2 ^ L.length ≤ 2 ^ 20 := Nat.pow_le_pow_right (by decide) hl
            have h2i : 2 ^ i ≤ 2 ^ 20 := Nat.pow_le_pow_right (by decide) (by omega)
            rw [e1]
            generalize bsm (mbt L (x.deps.take t)) L.length = B at HT2 hst hblt
            have x0 := HT2.out.cell c
            have x1 := HT2.out.frozen
            rw [show mV L m B m = .int .u32 (B : Int) from by simp [mV]] at x0
            have ho := u32_or_nat B (2 ^ i) (by omega) (by omega)
            obtain ⟨pw, hpw⟩ : ∃ p : Nat, p = 2 ^ i := ⟨_, rfl⟩
            rw [← hpw] at ho hst h2i
            have hs1 : Hid (bits .or .u32 (B : Int) ((2 : Int) ^ i % 4294967296) = ((B ||| pw : Nat) : Int)) := hid (by
              rw [← ho]
              congr 1
              have : ((2 : Int) ^ i) = ((2 ^ i : Nat) : Int) := by simp
              rw [this, ← hpw]
              omega)
            clear hpw e1 hy hblt h2l h2i ho
            go_wp2_with fail
            go_region
            go_wp2_with fail
            go_roundw
            case rel =>
              rw [hs1.out]
              refine ⟨t + 1, ct, by go_num, hid ?_, (hb2.setCell (p := ⟨w.heap.size + 1, m, none⟩) (by simp) _).drew, by simpa using hz2, hid ?_⟩
              · rw [hst.out]
                refine ((HT2.out.set m _).drew).congr fun j hj => ?_
                by_cases e : j = m
                · subst e; simp [mV]
                · simp [mV, e]
              · have h1 : F2 (w2.setCell ⟨w.heap.size + 1, m, none⟩ (.int .u32 ((B ||| pw : Nat) : Int))) w.heap.size nm (.slice (some ⟨g, 0, none⟩) L.length cap) := by
                  refine ⟨?_, ?_⟩
                  · rw [World.cell?_of_block (w := w2) (Below.heap_setCell _ _ _ _ (by simp))]; exact HF2.out.1
                  · rw [World.cell?_of_block (w := w2) (Below.heap_setCell _ _ _ _ (by simp))]; exact HF2.out.2
                exact h1
            case measure => simp [intOf]; omega
        · have et : t = x.deps.length := by omega
          have HT' : Hid (wr.rowIs (w.heap.size + 1) 71 L.length (mV L (m + 1) 0)) := hid (HT.out.congr fun j _ => by
            rw [et, List.take_length]
            unfold mV
            by_cases e : j = m
            · subst e; simp [hmr.out]
            · by_cases e2 : j < m
              · simp [e2, show j < m + 1 by omega]
              · simp [e, e2, show ¬ j < m + 1 by omega])
          clear HT et
          go_wp2_with fail
          go_roundw
          case rel => exact ⟨m + 1, c, by go_num, HT', hbq, hzq, HFq⟩
          case measure => simp [intOf]; omega
    · have HR' : Hid (wr.rowIs (w.heap.size + 1) 71 L.length (fun i => .int .u32 (mrow L i : Int))) := hid (HR.out.congr fun j hj => by
        unfold mV
        rw [if_pos (by omega)])
      clear HR
      go_wp2_with fail
      go_ret
      exact ⟨rfl, HR'.out, hz, hb⟩

end Go.Proofs.Ytainajjklakaeaa.Wgp
