/-
  The contract of Value: what comes back reads as the workflow's plain forest, in new memory. Conditions: at most 400 nodes, which lie in memory, their numbers fit a machine.
-/
import Derived.Test.YtainajjklakaeaaGpU
namespace Go.Proofs.Ytainajjklakaeaa.Wgu
open Go.ChangeShapes Go.WideShapes Go.ChangeAt Go.RowKit Go.Proofs.Ytainajjklakaeaa.M Go.Proofs.Ytainajjklakaeaa.Wgp

theorem take_snocN {l : List Nd} {i : Nat} {d : Nd} (hd : l[i]? = some d) : l.take (i + 1) = l.take i ++ [d] := by
  rw [List.take_add_one, hd]
  rfl

set_option maxRecDepth 100000 in
set_option maxHeartbeats 6400000 in
theorem value {w : World} {a : Option Addr} {L : List Nd} {cap : Nat} (nm : ByteArray) (hn : nm.size ≤ 140737488355328) (hN : Ns w a L) (hl : L.length ≤ 400) (hok : ∀ x ∈ L, NdOk x) :
    Calls Try.prog 10 #[.agg #[.string nm, .slice a L.length cap]] w fun e w' =>
      ∃ p c, e = .returned (.agg #[.int .i64 2, .int .i64 0, .string ⟨#[]⟩, .slice p 2 c]) ∧ Rd w' (fun g => w.heap.size ≤ g) (.slice p 2 c) (flowF nm L) ∧ Below w.heap.size w w' := by
  have HX := hid hok
  have HS := hid hN
  have hmk : ∀ u, _ := fun u => Wy.make L.length (by omega) u (by omega)
  clear hok hN
  go_enter Try.func10, Try.ntmps10
  go_wp2_with fail
  clear hmk
  obtain ⟨X, hX⟩ : ∃ X, X = ((w.alloc (.cells #[.string nm, .slice a L.length cap] 28)).alloc (.cells #[.int .i64 0, .int .i64 0, .string ⟨#[]⟩, .slice none 0 0] 37)).alloc (.cells (madeCells #[.int .i64 0, .int .i64 0, .string ⟨#[]⟩, .slice none 0 0] (L.length * 4)) 37) := ⟨_, rfl⟩
  rw [← hX]
  obtain ⟨x1, x2, x3, xz, xb⟩ := alloc3 _ _ _ _ _ _ _ X hX
  have X1 := hid x1
  have X2 := hid x2
  have X3 := hid x3
  clear hX x1 x2 x3
  go_loopw [13] (fun iv wr => ∃ (i : Nat) (cur : Array Value), iv = .int .i64 (i : Int) ∧ i ≤ L.length ∧ Below w.heap.size w wr ∧ w.heap.size + 3 ≤ wr.heap.size ∧ Hid (wr.heap[w.heap.size + 2]? = some (.cells cur 37 (0, 0))) ∧ Hid (cur.size = L.length * 4) ∧ Hid (Fits wr (fun g => w.heap.size + 3 ≤ g) (nodesF (L.take i)) (cur.toList.take (i * 4))) ∧ Hid (wr.heap[w.heap.size]? = some (.cells #[.string nm, .slice a L.length cap] 28 (0, 0))) ∧ Hid (wr.heap[w.heap.size + 1]? = some (.cells #[.int .i64 0, .int .i64 0, .string ⟨#[]⟩, .slice none 0 0] 37 (0, 0)))) (fun iv _ => L.length - (intOf iv).toNat)
  case atStart => exact ⟨0, _, rfl, Nat.zero_le _, xb, by omega, X3, hid (size_madeCells _ _), hid (by simp [nodesF, Fits]), X1, X2⟩
  case round =>
    clear X1 X2 X3 xz xb
    obtain ⟨i, cur, rfl, hi, hb, hz, hrow, hcs, hF, hP, hR⟩ := hrel
    by_cases ci : i < L.length
    · obtain ⟨x, hx⟩ : ∃ x, L[i]? = some x := ⟨L[i], List.getElem?_eq_getElem ci⟩
      obtain ⟨g, da, dc, rfl, hg, N, hD⟩ := HS.out.at hx
      obtain ⟨y0, y1, y2, y3, y4, y5⟩ := N.below hg hb
      have hxok := HX.out x (List.mem_of_getElem? hx)
      have BN := hid (al wr (.cells #[.string x.name, .slice da x.deps.length dc, .int .i64 x.tries, .int .i64 x.lease, .int .i64 x.tenant, .string x.flow] 56))
      have C1 := hid (valueOfNode x da dc (wr.alloc (.cells #[.string x.name, .slice da x.deps.length dc, .int .i64 x.tries, .int .i64 x.lease, .int .i64 x.tenant, .string x.flow] 56)) hxok ((hD.below hb).below BN.out))
      have hsn := hid (take_snocN hx)
      clear hx hxok N hD
      go_wp2_with fail
      refine C1.out.mono ?_
      rintro e w2 ⟨p, c, rfl, hRp, b2⟩
      have b3 := hid (BN.out.trans (b2.mono (by simp)))
      have cz := hcs.out
      have hrow2 := hid ((b3.out.block _ (by omega)).trans hrow.out)
      have t0 := cell_there hrow2.out (j := i * 4) (by omega)
      have t1 := cell_there hrow2.out (j := i * 4 + 1) (by omega)
      have t2 := cell_there hrow2.out (j := i * 4 + 2) (by omega)
      have t3 := cell_there hrow2.out (j := i * 4 + 3) (by omega)
      have f0 := frozen_there hrow2.out
      generalize cur[i * 4] = z0 at t0
      generalize cur[i * 4 + 1] = z1 at t1
      generalize cur[i * 4 + 2] = z2 at t2
      generalize cur[i * 4 + 3] = z3 at t3
      obtain ⟨cur', p1, p2, p3⟩ := put4_row hrow2.out (j := i * 4) (by omega) (.int .i64 2) (.int .i64 0) (.string ⟨#[]⟩) (.slice p 6 c)
      have P1 := hid p1
      have P2 := hid p2
      have P3 := hid p3
      have HRp := hid (show Rd w2 (fun g => w.heap.size + 3 ≤ g) (.slice p 6 c) (ndF x) from rd_of (fun g hg => by simp at hg; omega) (fun _ _ _ h => h) hRp)
      have HF2 := hid (fits_below hF.out b3.out)
      have hP2 := hid ((b3.out.block _ (by omega)).trans hP.out)
      have hR2 := hid ((b3.out.block _ (by omega)).trans hR.out)
      have hb2 := hb.trans (b3.out.mono hb.size)
      have hz2 : w.heap.size + 3 ≤ w2.heap.size := Nat.le_trans hz b3.out.size
      clear C1 y0 y1 y2 y3 y4 y5 b2 b3 p1 p2 p3 cz hrow hP hR BN hRp
      go_wp2_with fail
      go_roundw
      case rel =>
        have ho : ∀ g, w.heap.size + 3 ≤ g → ∀ o, w2.heap[g]? = some o → (put4 w2 (w.heap.size + 2) (i * 4) (.int .i64 2) (.int .i64 0) (.string ⟨#[]⟩) (.slice p 6 c)).heap[g]? = some o := fun g hg o h => (put4_other (by omega)).trans h
        refine ⟨i + 1, cur', by go_num, ci, ?_, ?_, P1, hid (P2.out.trans hcs.out), hid ?_, hid ?_, hid ?_⟩
        · exact put4_below hb2 (by omega) _ _ _ _
        · show _ ≤ (put4 w2 (w.heap.size + 2) (i * 4) (.int .i64 2) (.int .i64 0) (.string ⟨#[]⟩) (.slice p 6 c)).heap.size
          rw [put4_size]; omega
        · rw [Nat.add_mul, P3.out, hsn.out, nodesF_snoc]
          exact fits_app (fits_of (fun _ h => h) ho HF2.out) (fits_one (rd_of (fun _ h => h) ho HRp.out))
        · exact (put4_other (by omega)).trans hP2.out
        · exact (put4_other (by omega)).trans hR2.out
      case measure => simp [intOf]; omega
    · have ei : i = L.length := by omega
      have hRd := hid (show Rd wr (fun g => w.heap.size ≤ g) (.slice (some ⟨w.heap.size + 1 + 1, 0, none⟩) (nodesF L).len L.length) (nodesF L) from rd_row (A := fun g => w.heap.size + 3 ≤ g) hrow.out (by omega) (fun x hx => by omega) (by rw [nodesF_len]; have := hF.out; rw [ei, List.take_length] at this; exact this) (by rw [nodesF_len]; exact Nat.le_refl _) (by unfold maxLen; omega))
      have c0 : wr.cell? ⟨w.heap.size, 0, none⟩ = some (.string nm) := by simp [World.cell?, hP.out]
      have hnn := nodesF_nodes HX.out
      have C1 := hid (Wy.str nm wr (by omega))
      have C2 := hid fun (W : World) (b : Below wr.heap.size wr W) => Wy.all (nodesF L) (.slice (some ⟨w.heap.size + 1 + 1, 0, none⟩) (nodesF L).len L.length) W (fun g => w.heap.size ≤ g) (by omega) (nodesF_ok HX.out) (rd_below hRd.out b)
      have HFO := hid (flowF_ok hn HX.out)
      have hfn : Hid ((flowF nm L).nodes ≤ 1000000) := hid (by show 0 + (((nodesF L).nodes + 0) + 1) + 1 ≤ 1000000; omega)
      rw [nodesF_len] at C2
      clear hF hrow hRd hnn hcs HX HS hP
      go_wp2_with fail
      refine C1.out.mono ?_
      rintro e w2 ⟨rfl, b2⟩
      have C3 := hid (C2.out w2 b2)
      clear C1 C2 c0
      go_wp2_with fail
      refine C3.out.mono ?_
      rintro e w3 ⟨p, c, rfl, hRp, b3⟩
      have b23 := hid (b2.trans (b3.mono b2.size))
      have z3 := b23.out.size
      have HRp := hid hRp
      have KV := hid (show Rd (w3.alloc (.cells #[.int .i64 1, .int .i64 0, .string nm, .slice none 0 0, .int .i64 2, .int .i64 0, .string ⟨#[]⟩, .slice p (nodesF L).len c] 37)) (fun g => w.heap.size + 3 ≤ g) (.slice (some ⟨w3.heap.size, 0, none⟩) 2 2) (flowF nm L) from
        .inr ⟨w3.heap.size, 2, _, _, rfl, by omega, Nat.le_refl _, by unfold maxLen; omega, heap_alloc_new w3 _, fits_cons.2 ⟨_, _, rfl, fits_cons.2 ⟨_, _, rfl, rfl, rd_below (rd_of (A := fun g => w2.heap.size ≤ g) (fun g hg => by have := b2.size; omega) (fun _ _ _ h => h) (by rw [nodesF_len]; exact hRp)) ((Below.refl _ _).alloc (Nat.le_refl _) _)⟩, rd_nil _ _⟩⟩)
      have C4 := hid (Wy.all (flowF nm L) (.slice (some ⟨w3.heap.size, 0, none⟩) 2 2) _ _ hfn.out HFO.out KV.out)
      rw [nodesF_len, show (flowF nm L).len = 2 from rfl] at C4
      have hR3 := hid ((b23.out.block _ (by omega)).trans hR.out)
      clear C3 KV b2 b3 hRp hR
      go_wp2_with fail
      refine C4.out.mono ?_
      rintro e w4 ⟨q, d, rfl, hRq, b4⟩
      have b34 := hid (((Below.refl w3.heap.size w3).alloc (Nat.le_refl _) (.cells #[.int .i64 1, .int .i64 0, .string nm, .slice none 0 0, .int .i64 2, .int .i64 0, .string ⟨#[]⟩, .slice p L.length c] 37)).trans (b4.mono (by simp)))
      have hR4 := (b34.out.block _ (by omega)).trans hR3.out
      have r0 : w4.cell? ⟨w.heap.size + 1, 0, none⟩ = some (.int .i64 0) := by simp [World.cell?, hR4]
      have r1 : w4.cell? ⟨w.heap.size + 1, 1, none⟩ = some (.int .i64 0) := by simp [World.cell?, hR4]
      have r2 : w4.cell? ⟨w.heap.size + 1, 2, none⟩ = some (.string ⟨#[]⟩) := by simp [World.cell?, hR4]
      have r3 : w4.cell? ⟨w.heap.size + 1, 3, none⟩ = some (.slice none 0 0) := by simp [World.cell?, hR4]
      have rf := frozen_there hR4
      have HRq := hid (rd_of (A' := fun g => w.heap.size + 3 ≤ g) (fun g hg => by simp at hg; omega) (fun _ _ _ h => h) hRq)
      have bb := hid (hb.trans ((b23.out.trans (b34.out.mono z3)).mono hb.size))
      clear C4 hRq b4 hR4 hR3
      go_wp2_with fail
      refine bodyPost_ret (v := .agg #[.int .i64 2, .int .i64 0, .string ⟨#[]⟩, .slice q 2 d]) (by simp [results, Try.results10, go_sem, r0, r1, r2, r3]) rfl ⟨q, d, rfl, ?_, put4_below bb.out (by omega) _ _ _ _⟩
      exact rd_of (fun g hg => by omega) (fun g hg o h => (put4_other (by omega)).trans h) HRq.out

end Go.Proofs.Ytainajjklakaeaa.Wgu
