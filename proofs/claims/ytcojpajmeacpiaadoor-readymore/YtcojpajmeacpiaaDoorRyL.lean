/-
  The contract of the document's Depths ('dps'). Conditions: the masks lie in memory.
-/
import Derived.Test.YtcojpajmeacpiaaDoorRyG
import Derived.Test.YtcojpajmeacpiaaDoorRyK
namespace Go.Proofs.YtcojpajmeacpiaaDoor.Wry
open Go.ChangeShapes Go.WideShapes Go.ChangeAt Go.RowKit Go.Shelf Go.Proofs.YtcojpajmeacpiaaDoor.M

/-- Depths are small. -/
def Db (m : Nat) (d : List Int) : Prop := ∀ k, -1 ≤ d.getD k 0 ∧ d.getD k 0 ≤ (m : Int)
theorem db_start (n : Nat) : Db 0 (List.replicate n (-1)) := fun k => by
  by_cases h : k < n
  · simp [List.getD, h]
  · simp [List.getD, h]
theorem mx_bound {m : Nat} {d : List Int} (h : Db m d) : ∀ (l : List Nat) (a : Int), 0 ≤ a → a ≤ m → 0 ≤ l.foldl (fun m k => max m (d.getD k 0)) a ∧ l.foldl (fun m k => max m (d.getD k 0)) a ≤ m
  | [], _, h0, h1 => ⟨h0, h1⟩
  | k :: l, a, h0, h1 => by
    have := h k
    exact mx_bound h l (max a (d.getD k 0)) (by omega) (by omega)
theorem mx_in {m : Nat} {d : List Int} (h : Db m d) (l : List Nat) : 0 ≤ mx d l ∧ mx d l ≤ m := mx_bound h l 0 (Int.le_refl _) (by omega)
theorem getD_set {d : List Int} {i : Nat} {x : Int} (hi : i < d.length) (k : Nat) : (d.set i x).getD k 0 = if k = i then x else d.getD k 0 := by
  rw [List.getD_eq_getElem?_getD, List.getD_eq_getElem?_getD, List.getElem?_set]
  by_cases e : i = k
  · subst e; simp [hi]
  · have e' : ¬ k = i := fun q => e q.symm
    simp [e, e']
theorem db_set {m : Nat} {d : List Int} (h : Db m d) {i : Nat} (hi : i < d.length) (l : List Nat) : Db (m + 1) (d.set i (mx d l + 1)) := fun k => by
  rw [getD_set hi]
  have h1 := mx_in h l
  have h2 := h k
  split <;> omega
/-- Depths in a row. -/
def dV (d : List Int) (j : Nat) : Value := .int .i64 (d.getD j 0)
theorem dV_set {w : World} {H n i : Nat} {d : List Int} {x : Int} (h : w.rowIs H 3 n (dV d)) (hi : i < d.length) : (w.setCell ⟨H, i, none⟩ (.int .i64 x)).rowIs H 3 n (dV (d.set i x)) :=
  (h.set i _).congr fun j _ => by
    unfold dV
    rw [getD_set hi]
    split <;> rfl
theorem row_is {w : World} {H : Nat} {d : List Int} {n : Nat} (h : w.rowIs H 3 n (dV d)) (hn : d.length = n) : Is w (some ⟨H, 0, none⟩) d := by
  refine .inr ⟨H, 0, rfl, h.lt, fun i x hx => ?_⟩
  have hi := (List.getElem?_eq_some_iff.1 hx).1
  rw [Nat.zero_add, h.cell (by omega)]
  unfold dV
  rw [List.getD_eq_getElem?_getD, hx]
  rfl
theorem take_snoc {α : Type} {l : List α} {m : Nat} {x : α} (h : l[m]? = some x) : l.take (m + 1) = l.take m ++ [x] := by
  rw [List.take_add_one, h]; rfl

set_option maxRecDepth 100000 in
set_option maxHeartbeats 12800000 in
theorem depthsR {w : World} {a : Option Addr} {M : List Nat} {cap : Nat} (h : Ms w a M) (hM : MOk M) :
    Calls Tryd.prog 14 #[.slice a M.length cap] w fun e w' => (∃ H, e = .returned (.slice (some ⟨H, 0, none⟩) (nn M) (nn M)) ∧ Is w' (some ⟨H, 0, none⟩) (dps M)) ∧ Below w.heap.size w w' := by
  have hn := nn_le M
  have hnl := nn_len M
  have HM := hid h
  have hmk := hid (madeI (nn M) (by omega))
  have hcnt := hid (countR M a cap w)
  have hord := hid (orderR (cap := cap) h hM)
  have hbit := hid (fun (i k : Nat) (W : World) => bitR (mk M i) k W (mk_lt hM i))
  have hat := hid (fun (i : Nat) (hi : i < nn M) => mk_at hi)
  have hom := hid (od_mem (M := M))
  have hol := od_len M
  have hds : Hid (dps M = dpl M (List.replicate (nn M) (-1)) (od M)) := hid rfl
  have hall := hid (fun i => wlj_all M i)
  have hsuc := hid (fun i j => wlj_succ M i j)
  have hlen : Hid (∀ o, (dpl M (List.replicate (nn M) (-1)) o).length = nn M) := hid fun o => by rw [dpl_len, List.length_replicate]
  have hsn := hid (fun o i => dpl_snoc M (List.replicate (nn M) (-1)) o i)
  have hd0 := hid (db_start (nn M))
  have hdl : Hid ((dps M).length = nn M) := hid (dps_len M)
  generalize nn M = n at *
  obtain ⟨dp, hdp⟩ : ∃ dp : List Nat → List Int, dp = dpl M (List.replicate n (-1)) := ⟨_, rfl⟩
  rw [← hdp] at hds hlen hsn
  have hdn : Hid (dp [] = List.replicate n (-1)) := hid (by rw [hdp]; rfl)
  clear hdp h
  generalize od M = o at *
  go_enter Tryd.func14, Tryd.ntmps14
  go_wp2_with fail
  refine hcnt.out.mono ?_
  rintro e w1 ⟨rfl, rfl⟩
  go_wp2_with fail
  refine hord.out.mono ?_
  rintro e w1 ⟨v, rfl, own, b1⟩
  have hlo : (nI o).length = o.length := nI_len o
  have own' : w1.ownsRow w.heap.size 3 1 v (o.map fun i : Nat => (i : Int)).length ((o.map fun i : Nat => (i : Int)).map (Value.int .i64)) := by
    rw [List.length_map, List.map_map]; exact own
  obtain ⟨ao, co, rfl, hc1, hc2, HO⟩ := own_is own'
  rw [List.length_map] at hc1 ⊢
  have HO' := hid HO
  clear own own' HO hlo hcnt hord
  have R1 := hid (World.rowIs_made w1 (.int .i64 0) n 3)
  have A1 := hid (al w1 (.cells (madeCells #[.int .i64 0] n) 3))
  have hmk' := hmk.out
  have hs1 := b1.size
  obtain ⟨Q, hQ⟩ : ∃ Q, Hid (Q = w1.heap.size) := ⟨_, hid rfl⟩
  rw [← hQ.out] at R1
  go_wp2_with fail
  clear hmk' hmk
  rw [← hQ.out]
  have hQw : w.heap.size ≤ Q := by rw [hQ.out]; exact hs1
  have HO2 : Hid (Is (w1.alloc (.cells (madeCells #[.int .i64 0] n) 3)) ao (o.map fun i : Nat => (i : Int))) := hid (HO'.out.below A1.out)
  have HQ0 : Hid (∀ g oo, ao = some ⟨g, oo, none⟩ → o ≠ [] → g < Q) := hid (fun g oo hg hne => by
    rcases HO'.out with q | ⟨g', o', h1, h2, _⟩
    · simp at q; exact absurd q hne
    · rw [h1] at hg; cases hg; rw [hQ.out]; exact h2)
  have B1 : Below w.heap.size w (w1.alloc (.cells (madeCells #[.int .i64 0] n) 3)) := b1.trans (A1.out.mono b1.size)
  clear hs1
  go_loopw [6] (fun iv wr => ∃ i : Nat, i ≤ n ∧ iv = .int .i64 (i : Int) ∧ Hid (wr.rowIs Q 3 n (fun j => .int .i64 (if j < i then -1 else 0))) ∧ Hid (Is wr ao (o.map fun i : Nat => (i : Int))) ∧ Below w.heap.size w wr) (fun iv _ => n - (intOf iv).toNat)
  case atStart => exact ⟨0, Nat.zero_le _, rfl, hid (R1.out.congr fun j _ => by simp), HO2, B1⟩
  case round =>
    clear R1 A1 HO2 HO' B1
    obtain ⟨i, hi, rfl, HR, HO, hb⟩ := hrel
    by_cases ci : i < n
    · have x0 := HR.out.cell ci
      have x1 := HR.out.frozen i
      go_wp2_with fail
      go_roundw
      case rel =>
        refine ⟨i + 1, ci, by go_num, hid ((HR.out.set i _).congr fun j _ => ?_), hid ?_, hb.setCell (p := ⟨Q, i, none⟩) (by show w.heap.size ≤ Q; exact hQw) _⟩
        · by_cases e : j = i
          · subst e; simp
          · by_cases e2 : j < i
            · simp [e, e2, show j < i + 1 by omega]
            · simp [e, e2, show ¬ j < i + 1 by omega]
        · rcases HO.out with q | ⟨g', o', h1, h2, h3⟩
          · exact .inl q
          · by_cases hne : o = []
            · exact .inl (by rw [hne]; rfl)
            · have hgQ := HQ0.out g' o' h1 hne
              exact .inr ⟨g', o', h1, by simpa using h2, fun k x hx => (World.cell?_of_block (w := wr) (Below.heap_setCell _ _ _ _ (by simp; omega))).trans (h3 k x hx)⟩
      case measure => simp [intOf]; omega
    · have HR2 : Hid (wr.rowIs Q 3 n (dV (dp []))) := hid (HR.out.congr fun j hj => by
        unfold dV
        rw [hdn.out, if_pos (by omega)]
        simp [List.getD, hj])
      clear HR
      go_wp2_with fail
      go_loopw [7] (fun iv wq => ∃ m : Nat, m ≤ o.length ∧ iv = .int .i64 (m : Int) ∧ Hid (Db m (dp (o.take m))) ∧ Hid (wq.rowIs Q 3 n (dV (dp (o.take m)))) ∧ Hid (Is wq ao (o.map fun i : Nat => (i : Int))) ∧ Below w.heap.size w wq) (fun iv _ => o.length - (intOf iv).toNat)
      case atStart => exact ⟨0, Nat.zero_le _, rfl, hid (by rw [List.take_zero, hdn.out]; exact hd0.out), hid (by rw [List.take_zero]; exact HR2.out), HO, hb⟩
      case round =>
        clear HR2 HO hb
        obtain ⟨m, hm, rfl, HD, HR, HO, hb⟩ := hrel
        by_cases cm : m < o.length
        · obtain ⟨k, hk⟩ : ∃ k, o[m]? = some k := ⟨o[m], List.getElem?_eq_getElem cm⟩
          have hkn := hom.out k (List.mem_of_getElem? hk)
          have hne : o ≠ [] := fun e => by rw [e] at cm; simp at cm
          obtain ⟨go, oo, rfl, hgo, y0⟩ := HO.out.at (i := m) (s := (k : Int)) (by rw [List.getElem?_map, hk]; rfl)
          have hgoQ := HQ0.out go oo rfl hne
          have htk := hid (take_snoc hk)
          have hsn' := hid (hsn.out (o.take m) k)
          have hld := hlen.out (o.take m)
          have hmk0 := hid (hat.out k hkn)
          have hwl := hid (hall.out k)
          have hbk := hid (hbit.out k)
          clear hk
          go_wp2_with fail
          generalize dp (o.take m) = d at HD HR hsn' hld
          obtain ⟨wo, hwo⟩ : ∃ wo, wo = wr := ⟨_, rfl⟩
          rw [← hwo] at HR HO hb y0 hgo ⊢
          clear hwo
          go_loopw [9, 10] (fun mv jv wq => ∃ j : Nat, j ≤ n ∧ jv = .int .i64 (j : Int) ∧ mv = .int .i64 (mx d (wlj M k j)) ∧ wq = wo) (fun _ jv _ => n - (intOf jv).toNat)
          case atStart => exact ⟨0, Nat.zero_le _, rfl, rfl, rfl⟩
          case round =>
            obtain ⟨j, hj, rfl, rfl, rfl⟩ := hrel
            by_cases cj : j < n
            · obtain ⟨g, o', rfl, hg, x0⟩ := (HM.out.below hb).at hmk0.out
              have hkl : k < M.length := by omega
              have C := hid (hbk.out j wr)
              have hs := hid (hsuc.out k j)
              generalize mk M k = q at x0 C hs
              go_wp2_with fail
              refine C.out.mono ?_
              rintro e w2 ⟨rfl, rfl⟩
              clear C x0
              rcases e1 : q.testBit j with _ | _
              · rw [e1] at hs
                clear e1
                go_wp2_with fail
                go_roundw
                case rel => exact ⟨j + 1, cj, by go_num, by rw [hs.out]; rfl, by trivial⟩
                case measure => simp [intOf]; omega
              · rw [e1] at hs
                have z0 := HR.out.cell cj
                have hmx : Hid (mx d (wlj M k (j + 1)) = max (mx d (wlj M k j)) (d.getD j 0)) := hid (by rw [hs.out, if_pos rfl, mx_snoc])
                rw [show dV d j = .int .i64 (d.getD j 0) from rfl] at z0
                generalize d.getD j 0 = y at z0 hmx
                generalize mx d (wlj M k j) = X at hmx ⊢
                clear e1 hs
                by_cases cx : X < y
                · have hv : Hid (mx d (wlj M k (j + 1)) = y) := hid (by rw [hmx.out]; omega)
                  have t0 : decide (X < y) = true := decide_eq_true cx
                  clear hmx
                  go_wp2_with fail
                  go_roundw
                  case rel => exact ⟨j + 1, cj, by go_num, by rw [hv.out], by trivial⟩
                  case measure => simp [intOf]; omega
                · have hv : Hid (mx d (wlj M k (j + 1)) = X) := hid (by rw [hmx.out]; omega)
                  have t0 : decide (X < y) = false := decide_eq_false cx
                  clear hmx
                  go_wp2_with fail
                  go_roundw
                  case rel => exact ⟨j + 1, cj, by go_num, by rw [hv.out], by trivial⟩
                  case measure => simp [intOf]; omega
            · have hj2 : j = n := by omega
              rw [hj2, hwl.out]
              have hb2 := mx_in HD.out (wl M k)
              have x0 := HR.out.cell hkn
              have x1 := HR.out.frozen k
              have hdb := hid (db_set HD.out (i := k) (by omega) (wl M k))
              have hrw : Hid ((wr.setCell ⟨Q, k, none⟩ (.int .i64 (mx d (wl M k) + 1))).rowIs Q 3 n (dV (d.set k (mx d (wl M k) + 1)))) := hid (dV_set HR.out (by omega))
              rw [← hsn'.out, ← htk.out] at hdb hrw
              have ho32 := hol
              generalize mx d (wl M k) = X at hdb hrw hb2 ⊢
              clear hj2
              go_wp2_with fail
              go_roundw
              case rel =>
                refine ⟨m + 1, cm, by go_num, hdb, hrw, hid ?_, hb.setCell (p := ⟨Q, k, none⟩) (by show w.heap.size ≤ Q; exact hQw) _⟩
                rcases HO.out with q | ⟨g', o', h1, h2, h3⟩
                · exact .inl q
                · cases h1
                  exact .inr ⟨_, _, rfl, by simpa using h2, fun i x hx => (World.cell?_of_block (w := wr) (Below.heap_setCell _ _ _ _ (by simp; omega))).trans (h3 i x hx)⟩
              case measure => simp [intOf]; omega
        · have hm2 : o.take m = o := List.take_of_length_le (by omega)
          have hI := hid (row_is HR.out (hlen.out _))
          rw [hm2, ← hds.out] at hI
          clear HR hm2
          go_wp2_with fail
          go_ret
          exact ⟨⟨Q, rfl, hI.out⟩, hb⟩

end Go.Proofs.YtcojpajmeacpiaaDoor.Wry
