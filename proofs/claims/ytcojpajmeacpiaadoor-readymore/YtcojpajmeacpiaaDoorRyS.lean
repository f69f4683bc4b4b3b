/-
  The walk of the law ReadyDeep: it returns true, and nothing that was in memory has turned. Conditions: the masks are such as fit their kind.
-/
import Derived.Test.YtcojpajmeacpiaaDoorRyR
import Derived.Test.YtcojpajmeacpiaaDoorRyP
namespace Go.Proofs.YtcojpajmeacpiaaDoor.Wry
open Go.ChangeShapes Go.WideShapes Go.ChangeAt Go.RowKit Go.Shelf Go.Proofs.YtcojpajmeacpiaaDoor.M

theorem db_all {M : List Nat} : ∀ (o : List Nat) (d : List Int) (m : Nat), (∀ i ∈ o, i < d.length) → Db m d → Db (m + o.length) (dpl M d o)
  | [], _, _, _, h => h
  | i :: o, d, m, hi, h => by
    have h2 := db_all (M := M) o (d.set i (mx d (wl M i) + 1)) (m + 1) (fun j hj => by rw [List.length_set]; exact hi j (List.mem_cons_of_mem _ hj)) (db_set h (hi i (List.mem_cons_self ..)) (wl M i))
    have e : m + (i :: o).length = m + 1 + o.length := by simp; omega
    rw [e]
    exact h2
theorem dps_db (M : List Nat) : Db 32 (dps M) := by
  have h : Db (0 + (od M).length) (dps M) := db_all (M := M) (od M) (List.replicate (nn M) (-1)) 0 (fun i hi => by rw [List.length_replicate]; exact od_mem i hi) (db_start (nn M))
  intro k
  have h1 := h k
  have h2 := od_len M
  omega
theorem bl_filter (M : List Nat) (i : Nat) : (bl (mk M i)).filter (fun k => decide (k < nn M)) = wl M i := by
  unfold wl bl
  rw [List.filter_filter]
  exact List.filter_congr fun k _ => by rw [Nat.testBit_and, al_bit, Bool.and_comm]
theorem take_ok {M : List Nat} (h : MOk M) (n : Nat) : MOk (M.take n) := fun x hx => h x (List.mem_of_mem_take hx)
theorem take_nn (M : List Nat) : nn (M.take 32) = (M.take 32).length := by unfold nn; rw [List.length_take]; omega
theorem take_len (M : List Nat) : min (M.length : Int) 32 = ((M.take 32).length : Int) := by rw [List.length_take]; omega

set_option maxRecDepth 100000 in
set_option maxHeartbeats 12800000 in
theorem deeps (a : Option Addr) (cap : Nat) (M : List Nat) (w : World) (hM : MOk M) (hcap : M.length ≤ cap) (_ : cap ≤ maxLen) (h : Ms w a M) (hT : Tab w) :
    Calls Tryd.prog 7 #[.slice a M.length cap] w fun e w' => e = .returned (.bool true) ∧ Below w.heap.size w w' := by
  have hT0 := hT.lt
  have HT := hid hT
  have hN := take_ok hM 32
  have HN := hid (h.take 32)
  have e1 := take_len M
  have hnn := take_nn M
  have hle : (M.take 32).length ≤ M.length := by rw [List.length_take]; omega
  generalize M.take 32 = N at *
  have hn32 := nn_le N
  rw [hnn] at hn32
  have CD := hid (depths (cap := cap) HN.out hN hT)
  rw [hnn] at CD
  have hdl := dps_len N
  rw [hnn] at hdl
  have hdb := hid (dps_db N)
  obtain ⟨P, _, _, hsp⟩ := dps_spec N
  have hpos := hid (fun i (hi : i < nn N) => hsp.pos hi)
  have hdp := hid (fun i (hi : P.testBit i = true) => (hsp.2.1 i hi).2)
  have hfil := hid (fun i => bl_filter N i)
  rw [hnn] at hpos hfil
  have hmk := hid (fun i (hi : i < nn N) => mk_at hi)
  rw [hnn] at hmk
  have hwl := hid (fun i (hi : i < nn N) k (hk : k ∈ wl N i) => (wt_iff.1 ((mem_wl hi).1 hk)).2.1)
  rw [hnn] at hwl
  have hmlt := hid (fun i => mk_lt hN i)
  obtain ⟨m, hm⟩ : ∃ m, m = N.length := ⟨_, rfl⟩
  rw [← hm] at CD hdl hpos hfil hmk hwl hn32 hle e1
  clear hsp hnn h hT hm
  generalize dps N = d at *
  go_enter Tryd.func7, Tryd.ntmps7
  go_wp2_with fail
  refine CD.out.mono ?_
  rintro e w1 ⟨⟨H, rfl, HI⟩, b1⟩
  have HI1 := hid HI
  have B1 := hid b1
  clear HI b1 CD
  go_wp2_with fail
  refine (wakes (HT.out.below hT0 B1.out)).mono ?_
  rintro e w2 ⟨rfl, b2⟩
  have HI2 := hid (HI1.out.below b2)
  have B2 := hid (B1.out.trans (b2.mono B1.out.size))
  clear HI1 B1 b2
  go_wp2_with fail
  have HN2 := hid (HN.out.below B2.out)
  have HT2 := hid (HT.out.below hT0 B2.out)
  have z2 : 0 < w2.heap.size := HT2.out.lt
  go_loopw [27] (fun iv wr => ∃ i : Nat, i ≤ m ∧ iv = .int .i64 (i : Int) ∧ Below w2.heap.size w2 wr) (fun iv _ => m - (intOf iv).toNat)
  case atStart => exact ⟨0, Nat.zero_le _, rfl, Below.refl _ _⟩
  case round =>
    obtain ⟨i, hi, rfl, hb⟩ := hrel
    by_cases ci : i < m
    · obtain ⟨g, o, rfl, hg, x0⟩ := (HN2.out.below hb).at (hmk.out i ci)
      have hi' : d[i]? = some (d.getD i 0) := by
        rw [List.getD_eq_getElem?_getD, List.getElem?_eq_getElem (by omega)]; rfl
      obtain ⟨g', o', hg1, hg', y0⟩ := (HI2.out.below hb).at hi'
      cases hg1
      rw [Nat.zero_add] at y0
      have hdi := hid (hdb.out i)
      obtain ⟨q, hq⟩ : ∃ q, Hid (mk N i = q) := ⟨_, hid rfl⟩
      rw [hq.out] at x0
      rcases hpos.out i ci with ⟨hp, hd1⟩ | ⟨_, hd1⟩
      · have CL := hid (list (w := wr) (x := q) (by rw [← hq.out]; exact hmlt.out i) (HT2.out.below z2 hb))
        obtain ⟨v1, v2⟩ := hdp.out i hp
        have V1 := hid v1
        have V2 := hid v2
        have t0 : decide (d.getD i 0 < 0) = false := decide_eq_false (by omega)
        obtain ⟨D, hD⟩ : ∃ D, Hid (d.getD i 0 = D) := ⟨_, hid rfl⟩
        rw [hD.out] at y0 t0
        have hy := hid y0
        clear v1 v2 hi' hd1
        go_wp2_with fail
        refine CL.out.mono ?_
        rintro e w3 ⟨v, rfl, own, b3⟩
        obtain ⟨al', cl, rfl, HL⟩ := own_nI own
        have HL3 := hid HL
        have B3 := hid (hb.trans (b3.mono hb.size))
        rw [List.length_map]
        clear own HL b3 CL x0 y0 t0
        obtain ⟨l, hl⟩ : ∃ l, Hid (bl q = l) := ⟨_, hid rfl⟩
        rw [hl.out] at HL3 ⊢
        have hl32 : l.length ≤ 32 := by
          have := List.length_filter_le (fun i => q.testBit i) (List.range 32)
          rw [List.length_range] at this
          rw [← hl.out]; exact this
        have hfl : Hid (l.filter (fun k => decide (k < m)) = wl N i) := hid (by rw [← hl.out, ← hq.out]; exact hfil.out i)
        go_wp2_with fail
        obtain ⟨wo, hwo⟩ : ∃ wo, wo = w3 := ⟨_, rfl⟩
        rw [← hwo] at HL3 B3 ⊢
        clear hwo hb hg
        go_loopw [6, 40] (fun mv tv wr => ∃ t : Nat, t ≤ l.length ∧ tv = .int .i64 (t : Int) ∧ mv = .int .i64 (mx d ((l.take t).filter (fun k => decide (k < m)))) ∧ wr = wo) (fun _ tv _ => l.length - (intOf tv).toNat)
        case atStart => exact ⟨0, Nat.zero_le _, rfl, rfl, rfl⟩
        case round =>
          obtain ⟨t, ht, rfl, rfl, rfl⟩ := hrel
          by_cases ct : t < l.length
          · obtain ⟨k, hk⟩ : ∃ k, l[t]? = some k := ⟨l[t], List.getElem?_eq_getElem ct⟩
            obtain ⟨gl, ol, rfl, hgl, z0⟩ := HL3.out.at (i := t) (s := (k : Int)) (by rw [List.getElem?_map, hk]; rfl)
            have htk := hid (take_snoc hk)
            have hkl := hid (List.mem_of_getElem? hk)
            clear hk
            by_cases ck : k < m
            · have hF : Hid ((l.take (t + 1)).filter (fun k => decide (k < m)) = (l.take t).filter (fun k => decide (k < m)) ++ [k]) := hid (by rw [htk.out, List.filter_append]; simp [ck])
              have hkw : k ∈ wl N i := by rw [← hfl.out]; exact List.mem_filter.2 ⟨hkl.out, decide_eq_true ck⟩
              have hkP := V2.out k hkw
              have hdk : 1 ≤ d.getD k 0 := by
                rcases hpos.out k ck with ⟨_, q1⟩ | ⟨q1, _⟩
                · exact q1
                · rw [q1] at hkP; cases hkP
              have hk' : d[k]? = some (d.getD k 0) := by
                rw [List.getD_eq_getElem?_getD, List.getElem?_eq_getElem (by omega)]; rfl
              obtain ⟨g'', o'', hg1, hg'', u0⟩ := (HI2.out.below B3.out).at hk'
              cases hg1
              rw [Nat.zero_add] at u0
              have t1 : decide ((k : Int) < (m : Int)) = true := decide_eq_true (by omega)
              have t2 : decide (d.getD k 0 < 0) = false := decide_eq_false (by omega)
              have hmxs : Hid (mx d ((l.take (t + 1)).filter (fun k => decide (k < m))) = max (mx d ((l.take t).filter (fun k => decide (k < m)))) (d.getD k 0)) := hid (by rw [hF.out, mx_snoc])
              generalize mx d ((l.take t).filter (fun k => decide (k < m))) = X at *
              generalize d.getD k 0 = y at *
              clear hkw hkP hk' hF htk
              go_wp2_with fail
              go_roundw
              case rel => exact ⟨t + 1, ct, by go_num, by rw [hmxs.out], by trivial⟩
              case measure => simp [intOf]; omega
            · have hF : Hid ((l.take (t + 1)).filter (fun k => decide (k < m)) = (l.take t).filter (fun k => decide (k < m))) := hid (by rw [htk.out, List.filter_append]; simp [ck])
              have t1 : decide ((k : Int) < (m : Int)) = false := decide_eq_false (by omega)
              clear htk
              go_wp2_with fail
              go_roundw
              case rel => exact ⟨t + 1, ct, by go_num, by rw [hF.out], by trivial⟩
              case measure => simp [intOf]; omega
          · have hX : Hid (mx d ((l.take t).filter (fun k => decide (k < m))) = mx d (wl N i)) := hid (by rw [List.take_of_length_le (by omega), hfl.out])
            rw [hX.out]
            obtain ⟨m0, m1⟩ := mx_in hdb.out (wl N i)
            have hDX : Hid (D = mx d (wl N i) + 1) := hid (by rw [← hD.out]; exact V1.out)
            have y1 := (B3.out.cell (p := ⟨H, 0 + i, none⟩) (by
              rcases HI2.out with q | ⟨g, o, h1, h2, _⟩
              · rw [q] at hdl; simp at hdl; omega
              · cases h1; exact h2))
            obtain ⟨g3, o3, hg1, hg3, y2⟩ := (HI2.out.below B3.out).at (i := i) (s := D) (by rw [← hD.out, List.getD_eq_getElem?_getD, List.getElem?_eq_getElem (by omega)]; rfl)
            cases hg1
            rw [Nat.zero_add] at y2
            generalize mx d (wl N i) = X at *
            have t3 : (D == X + 1) = true := by rw [hDX.out]; simp
            have t4 : (D != X + 1) = false := by simp [bne, t3]
            clear y1
            go_wp2_with fail
            go_roundw
            case rel => exact ⟨i + 1, ci, by go_num, B3.out⟩
            case measure => simp [intOf]; omega
      · have t0 : decide (d.getD i 0 < 0) = true := decide_eq_true (by omega)
        clear hi' hd1 hdi
        generalize d.getD i 0 = D at y0 t0
        go_wp2_with fail
        go_roundw
        case rel => exact ⟨i + 1, ci, by go_num, hb⟩
        case measure => simp [intOf]; omega
    · go_wp2_with fail
      go_ret
      exact ⟨rfl, B2.out.trans (hb.mono B2.out.size)⟩

end Go.Proofs.YtcojpajmeacpiaaDoor.Wry
