/-
  The contract of Check. Conditions: the nodes lie in memory, their numbers fit a machine.
-/
import Derived.Test.YtainajjklakaeaaGpB
namespace Go.Proofs.Ytainajjklakaeaa.Wgp
open Go.ChangeShapes Go.WideShapes Go.ChangeAt Go.RowKit Go.Proofs.Ytainajjklakaeaa.M Go.Proofs.Ytainajjklakaeaa.Wg

/-- What Check comes to. -/
def ckE (nm : ByteArray) (L : List Nd) : Ending := .returned (.tuple #[.int .i64 (chk nm L).1, .int .i64 (chk nm L).2])
theorem ckE_of {nm : ByteArray} {L : List Nd} {a b : Int} (h : chk nm L = (a, b)) : Ending.returned (.tuple #[.int .i64 a, .int .i64 b]) = ckE nm L := by unfold ckE; rw [h]
theorem mrow_wts {L : List Nd} (ho : ∀ j, j < L.length → oneI L j = 0) {i : Nat} (hi : i < L.length) : mrow L i = bsm (wts L i) L.length := by
  have hx := List.getElem?_eq_getElem hi
  rw [mrow_of hx]
  exact bsm_congr fun k _ => mbt_wts hx (fun j y hy => oneI_zero hy (ho j (List.getElem?_eq_some_iff.1 hy).1)) k

set_option maxRecDepth 100000 in
set_option maxHeartbeats 6400000 in
theorem check {w : World} {a : Option Addr} {L : List Nd} {cap : Nat} (nm : ByteArray) (hn : nm.size ≤ 140737488355328) (h : Ns w a L) (hl : L.length ≤ 4194304) (hc : L.length ≤ cap) (hok : ∀ x ∈ L, NdOk x) :
    Calls Try.prog 18 #[.agg #[.string nm, .slice a L.length cap]] w fun e w' => e = ckE nm L ∧ Below w.heap.size w w' := by
  have H := hid h
  have HO := hid hok
  have C := hid fun W => named nm W (by omega)
  have CM := hid fun (W : World) (b : Below w.heap.size w W) (hl : L.length ≤ 20) => masks (cap := cap) nm (h.below b) hl hok
  have B0 := hid (al w (.cells #[.string nm, .slice a L.length cap] 28))
  have F0 := hid (box2 w 28 nm a L.length cap)
  clear h hok
  go_enter Try.func18, Try.ntmps18
  go_wp2_with fail
  refine (C.out _).mono ?_
  rintro e w1 ⟨rfl, b1⟩
  have z1 : w.heap.size < w1.heap.size := by have := b1.size; simp at this; omega
  have A1 := hid (B0.out.trans (b1.mono (by simp)))
  have F1 := hid (F0.out.below (by simp) b1)
  obtain ⟨f0, f1⟩ := F1.out
  clear C b1 F0 B0
  rcases e1 : nmd nm with _ | _
  · have R := hid (ckE_of (chk_name (L := L) e1))
    clear e1 CM
    go_wp2_with fail
    go_ret2
    exact ⟨R.out, A1.out⟩
  by_cases l1 : L.length < 1
  · have R := hid (ckE_of (chk_len (L := L) e1 (.inl l1)))
    clear e1 CM
    go_wp2_with fail
    go_ret2
    exact ⟨R.out, A1.out⟩
  by_cases l2 : 12 < L.length
  · have R := hid (ckE_of (chk_len (L := L) e1 (.inr l2)))
    clear e1 CM
    go_wp2_with fail
    go_ret2
    exact ⟨R.out, A1.out⟩
  have E1 := hid e1
  clear e1
  go_wp2_with fail
  clear f0 f1
  go_loopw [30] (fun iv wr => ∃ m : Nat, m ≤ L.length ∧ iv = .int .i64 (m : Int) ∧ Hid (∀ j, j < m → oneI L j = 0) ∧ Below w.heap.size w wr ∧ w.heap.size < wr.heap.size ∧ Hid (F2 wr w.heap.size nm (.slice a L.length cap))) (fun iv _ => L.length - (intOf iv).toNat)
  case atStart => exact ⟨0, Nat.zero_le _, rfl, fun j hj => absurd hj (Nat.not_lt_zero j), A1.out, z1, F1⟩
  case round =>
    clear A1 F1 z1
    obtain ⟨m, hm, rfl, hno, hb, hz, HF⟩ := hrel
    by_cases c : m < L.length
    · obtain ⟨x, hx⟩ : ∃ x, L[m]? = some x := ⟨L[m], List.getElem?_eq_getElem c⟩
      obtain ⟨g, da, dc, rfl, hg, N, hdl, hdm, HS⟩ := H.out.at hx
      obtain ⟨y0, y1, y2, y3, y4, y5⟩ := N.below hg hb
      have hone := hid (oneI_of hx)
      have hxok := HO.out x (List.mem_of_getElem? hx)
      have hlt : (L.take m).length = m := by rw [List.length_take]; omega
      have CK := hid fun (W : World) (b : Below wr.heap.size wr W) (hS : W.cell? ⟨wr.heap.size, 0, none⟩ = some (.string x.name) ∧ W.cell? ⟨wr.heap.size, 1, none⟩ = some (.slice da x.deps.length dc) ∧ W.cell? ⟨wr.heap.size, 2, none⟩ = some (.int .i64 x.tries) ∧ W.cell? ⟨wr.heap.size, 3, none⟩ = some (.int .i64 x.lease) ∧ W.cell? ⟨wr.heap.size, 4, none⟩ = some (.int .i64 x.tenant) ∧ W.cell? ⟨wr.heap.size, 5, none⟩ = some (.string x.flow) ∧ W.cell? ⟨w.heap.size, 1, none⟩ = some (.slice (some ⟨g, 0, none⟩) L.length cap)) =>
        (checkNode (a := some ⟨g, 0, none⟩) (L := L.take m) (cap := cap) (da := da) (dc := dc) x hxok ((H.out.below (hb.trans (b.mono hb.size))).take m) (by omega)).mono fun e w' h =>
        have k : wr.heap.size < W.heap.size := World.block_lt_of_cell? W _ hS.1
        have q : ∀ o, w'.cell? ⟨wr.heap.size, o, none⟩ = W.cell? ⟨wr.heap.size, o, none⟩ := fun o => h.2.cell (p := ⟨wr.heap.size, o, none⟩) k
        (⟨h.1, h.2, hid (b.trans (h.2.mono b.size)), (q _).trans hS.1, (q _).trans hS.2.1, (q _).trans hS.2.2.1, (q _).trans hS.2.2.2.1, (q _).trans hS.2.2.2.2.1, (q _).trans hS.2.2.2.2.2.1, ((b.trans (h.2.mono b.size)).cell (p := ⟨w.heap.size, 1, none⟩) hz).trans HF.out.2⟩ : e = _ ∧ Below W.heap.size W w' ∧ Hid (Below wr.heap.size wr w') ∧ w'.cell? ⟨wr.heap.size, 0, none⟩ = some (.string x.name) ∧ w'.cell? ⟨wr.heap.size, 1, none⟩ = some (.slice da x.deps.length dc) ∧ w'.cell? ⟨wr.heap.size, 2, none⟩ = some (.int .i64 x.tries) ∧ w'.cell? ⟨wr.heap.size, 3, none⟩ = some (.int .i64 x.lease) ∧ w'.cell? ⟨wr.heap.size, 4, none⟩ = some (.int .i64 x.tenant) ∧ w'.cell? ⟨wr.heap.size, 5, none⟩ = some (.string x.flow) ∧ w'.cell? ⟨w.heap.size, 1, none⟩ = some (.slice (some ⟨g, 0, none⟩) L.length cap))
      rw [hlt] at CK
      rw [← hone.out] at CK
      obtain ⟨f0, f1⟩ := HF.out
      have I0 : (0 : Int) ≤ (m : Int) := by omega
      have I1 : (m : Int) ≤ (cap : Int) := by omega
      clear hlt hx hxok N HS hg hdm hdl
      go_wp2_with fail
      go_region_held3 (fun W => W.cell? ⟨wr.heap.size, 0, none⟩ = some (.string x.name) ∧ W.cell? ⟨wr.heap.size, 1, none⟩ = some (.slice da x.deps.length dc) ∧ W.cell? ⟨wr.heap.size, 2, none⟩ = some (.int .i64 x.tries) ∧ W.cell? ⟨wr.heap.size, 3, none⟩ = some (.int .i64 x.lease) ∧ W.cell? ⟨wr.heap.size, 4, none⟩ = some (.int .i64 x.tenant) ∧ W.cell? ⟨wr.heap.size, 5, none⟩ = some (.string x.flow) ∧ W.cell? ⟨w.heap.size, 1, none⟩ = some (.slice (some ⟨g, 0, none⟩) L.length cap))
        (first | exact hS | go_keep) ((go_at_call 30; refine (CK.out _ (by first | exact (al wr _).drew | exact al wr _) (by first | exact hS | go_keep)).mono ?_; rintro e w2 ⟨rfl, b2', b2, hS⟩))
      have b3 := hid (hb.trans (b2.out.mono hb.size))
      have z3 : w.heap.size < w2.heap.size := Nat.lt_of_lt_of_le hz b2.out.size
      have F3 := hid (HF.out.below hz b2.out)
      clear hS CK b2 b2' y0 y1 y2 y3 y4 y5 f0 f1 hb hz HF
      by_cases e : oneI L m = 0
      · have hno' : Hid (∀ j, j < m + 1 → oneI L j = 0) := fun j hj => by
          by_cases q : j = m
          · subst q; exact e
          · exact hno.out j (by omega)
        rw [e]
        clear e hno
        go_wp2_with fail
        go_roundw
        case rel => exact ⟨m + 1, c, by go_num, hno', b3.out, z3, F3⟩
        case measure => simp [intOf]; omega
      · have R := hid (ckE_of (chk_one E1.out (by omega) (by omega) c e hno.out))
        have e0 : (oneI L m != 0) = true := by simpa using e
        have e2 : (oneI L m == 0) = false := by simpa using e
        clear e hno
        go_wp2_with fail
        go_ret2
        exact ⟨R.out, b3.out⟩
    · have HN : Hid (∀ j, j < L.length → oneI L j = 0) := fun j hj => hno.out j (by omega)
      obtain ⟨f0, f1⟩ := HF.out
      clear hno
      go_wp2_with fail
      clear f0 f1
      go_loopw [49] (fun iv wr => ∃ m : Nat, m ≤ L.length ∧ iv = .int .i64 (m : Int) ∧ Hid (∀ j, j < m → dOkI L j = true) ∧ Below w.heap.size w wr ∧ w.heap.size < wr.heap.size ∧ Hid (F2 wr w.heap.size nm (.slice a L.length cap))) (fun iv _ => L.length - (intOf iv).toNat)
      case atStart => exact ⟨0, Nat.zero_le _, rfl, fun j hj => absurd hj (Nat.not_lt_zero j), hb, hz, HF⟩
      case round =>
        clear hb hz HF
        obtain ⟨m, hm, rfl, hno, hb, hz, HF⟩ := hrel
        by_cases c : m < L.length
        · obtain ⟨x, hx⟩ : ∃ x, L[m]? = some x := ⟨L[m], List.getElem?_eq_getElem c⟩
          obtain ⟨g, da, dc, rfl, hg, N, hdl, hdm, HS⟩ := H.out.at hx
          obtain ⟨y0, y1, y2, y3, y4, y5⟩ := N.below hg hb
          have hdo := hid (dOkI_of hx)
          have hxok := HO.out x (List.mem_of_getElem? hx)
          have BN := hid (al wr (.cells #[.string x.name, .slice da x.deps.length dc, .int .i64 x.tries, .int .i64 x.lease, .int .i64 x.tenant, .string x.flow] 56))
          have K6 := hid (box6 wr 56 x da dc)
          have KF := hid (HF.out.below hz BN.out)
          have hbX := hid (hb.trans (BN.out.mono hb.size))
          have CK := hid fun (W : World) (b : Below w.heap.size w W) => soundDeps (cap := cap) (H.out.below b) hl (HS.below b) hxok.2.2.2.1 hdl
          rw [← hdo.out] at CK
          obtain ⟨f0, f1⟩ := HF.out
          clear hx hxok N HS hg hdm hdl
          go_wp2_with fail
          refine (CK.out _ hbX.out).mono ?_
          rintro e w2 ⟨rfl, b2⟩
          have z2 : w.heap.size < w2.heap.size := by have := b2.size; simp at this; omega
          have b3 := hid (hbX.out.trans (b2.mono (by simp; omega)))
          have F3 := hid (KF.out.below (by simp; omega) b2)
          clear CK b2 y0 y1 y2 y3 y4 y5 f0 f1 hb hz HF KF K6 BN hbX
          rcases e : dOkI L m with _ | _
          · have R := hid (ckE_of (chk_dep E1.out (by omega) (by omega) HN.out c e hno.out))
            clear e hno
            go_wp2_with fail
            go_ret2
            exact ⟨R.out, b3.out⟩
          · have hno' : Hid (∀ j, j < m + 1 → dOkI L j = true) := fun j hj => by
              by_cases q : j = m
              · subst q; exact e
              · exact hno.out j (by omega)
            clear e hno
            go_wp2_with fail
            go_roundw
            case rel => exact ⟨m + 1, c, by go_num, hno', b3.out, z2, F3⟩
            case measure => simp [intOf]; omega
        · have HD : Hid (∀ j, j < L.length → dOkI L j = true) := fun j hj => hno.out j (by omega)
          have C1 := hid (CM.out wr hb (by omega))
          obtain ⟨f0, f1⟩ := HF.out
          clear hno CM HF H HO
          go_wp2_with fail
          refine C1.out.mono ?_
          rintro e w2 ⟨rfl, hrow, hz2, b2⟩
          have C2 := hid (firstBehind (wts L) L.length (wr.heap.size + 1) w.heap.size w w2 (by omega) (hrow.congr fun i hi => by rw [mrow_wts HN.out hi]) (hb.trans (b2.mono hb.size)) (by omega))
          clear C1 hrow b2 f0 f1
          go_wp2_with fail
          refine C2.out.mono ?_
          rintro e w3 ⟨hF, b3⟩
          have B3 := hid b3
          clear C2 b3 hb hz
          rcases hF with ⟨k, rfl, k1, k2, k3⟩ | ⟨rfl, k3⟩
          · have R := hid (ckE_of (chk_cyc E1.out (by omega) (by omega) HN.out HD.out k1 k2 k3))
            clear k2 k3
            go_wp2_with fail
            go_ret2
            exact ⟨R.out, B3.out⟩
          · have R := hid (ckE_of (chk_ok E1.out (by omega) (by omega) HN.out HD.out k3))
            clear k3
            go_wp2_with fail
            go_ret2
            exact ⟨R.out, B3.out⟩

end Go.Proofs.Ytainajjklakaeaa.Wgp
