/-
  The contracts of soundDeps and what it goes by (slices.Contains, slices.Index), and of the document's deps and Waits. Conditions: the nodes lie in memory.
-/
import Derived.Test.YtdhghjfenkjeaaaGpN
namespace Go.Proofs.Ytdhghjfenkjeaaa.Wgp
open Go.ChangeShapes Go.WideShapes Go.ChangeAt Go.RowKit Go.Proofs.Ytdhghjfenkjeaaa.M Go.Proofs.Ytdhghjfenkjeaaa.Wg

theorem in_take {l : List ByteArray} {i : Nat} {d s : ByteArray} (hd : l[i]? = some d) (h : s ∈ l.take (i + 1)) : s ∈ l.take i ∨ s = d := by
  rw [List.take_add_one, hd] at h
  rcases List.mem_append.1 h with h | h
  · exact .inl h
  · simp at h; exact .inr h
theorem bmem_take {l : List ByteArray} {s : ByteArray} (h : s ∉ l.take l.length) : bmem s l = false := bmem_no (by rw [List.take_length] at h; exact h)

set_option maxRecDepth 100000 in
theorem contains {w : World} {a : Option Addr} {l : List ByteArray} {cap : Nat} (s : ByteArray) (h : Ss w a l) (hl : l.length ≤ 4194304) :
    Calls Try.prog 47 #[.slice a l.length cap, .string s] w fun e w' => e = .returned (.bool (bmem s l)) ∧ w = w' := by
  have C : Hid (Calls Try.prog 56 #[.slice a l.length cap, .string s] w fun e w' => (∃ i : Int, e = .returned (.int .i64 i) ∧ (decide (0 ≤ i) = bmem s l)) ∧ w = w') := by
    have H := hid h
    clear h
    show Calls _ _ _ _ _
    go_enter Try.func56, Try.ntmps56
    go_wp2_with fail
    go_loop [8] (fun iv => ∃ i : Nat, i ≤ l.length ∧ iv = .int .i64 (i : Int) ∧ Hid (s ∉ l.take i)) (fun iv => l.length - (intOf iv).toNat)
    case atStart => exact ⟨0, Nat.zero_le _, rfl, by show ¬ _; simp⟩
    case round =>
      obtain ⟨i, hi, rfl, hno⟩ := hrel
      by_cases ci : i < l.length
      · obtain ⟨d, hd⟩ : ∃ d, l[i]? = some d := ⟨l[i], List.getElem?_eq_getElem ci⟩
        obtain ⟨g, rfl, hg, y0⟩ := H.out.at hd
        have hd' := hid hd
        clear hd H
        by_cases e : s = d
        · have E1 := str_eq e
          have R : Hid (decide (0 ≤ (i : Int)) = bmem s l) := by
            have h1 : bmem s l = true := bmem_iff.2 (e ▸ List.mem_of_getElem? hd'.out)
            show _ = _
            rw [h1]
            exact decide_eq_true (by omega)
          clear e
          go_wp2
          go_ret
          exact ⟨⟨_, rfl, R.out⟩, rfl⟩
        · have E1 := str_ne e
          have hno' : Hid (s ∉ l.take (i + 1)) := fun h => by
            rcases in_take hd'.out h with h | h
            · exact hno.out h
            · exact e h
          clear e hno
          go_wp2
          go_round
          case rel => exact ⟨i + 1, ci, by go_num, hno'⟩
          case measure => simp [intOf]; omega
      · have e : i = l.length := by omega
        subst e
        have R : Hid (bmem s l = false) := bmem_take hno.out
        clear hno
        go_wp2
        go_ret
        exact ⟨⟨_, rfl, by rw [R.out]; rfl⟩, rfl⟩
  clear h
  go_enter Try.func47, Try.ntmps47
  go_wp2_with fail
  refine C.out.mono ?_
  rintro e w1 ⟨⟨i, rfl, hb⟩, rfl⟩
  clear C
  by_cases c : 0 ≤ i
  · have B : Hid (bmem s l = true) := hid (by rw [← hb]; exact decide_eq_true c)
    clear hb
    go_wp2_with fail
    go_ret
    exact ⟨ret_b B.out.symm, rfl⟩
  · have B := hid hb
    have B2 : Hid (bmem s l = false) := hid (by rw [← hb]; exact decide_eq_false c)
    clear hb
    go_wp2_with fail
    go_ret
    exact ⟨(by first | exact ret_b B2.out.symm | exact ret_b B.out), rfl⟩

theorem dp_yes {L : List Nd} {l : List ByteArray} (h : ∀ (k : Nat) d, k < l.length → l[k]? = some d → 0 ≤ fnd L d ∧ d ∉ l.take k) : dOk L l = true :=
  dOk_yes fun k d hd => h k d (List.getElem?_eq_some_iff.1 hd).1 hd

set_option maxRecDepth 100000 in
set_option maxHeartbeats 3200000 in
theorem soundDeps {w : World} {a da : Option Addr} {L : List Nd} {cap dc : Nat} {l : List ByteArray} (h : Ns w a L) (hl : L.length ≤ 4194304) (hD : Ss w da l) (hd : l.length ≤ 400) (hdc : l.length ≤ dc) :
    Calls Try.prog 24 #[.slice da l.length dc, .slice a L.length cap] w fun e w' => e = .returned (.bool (dOk L l)) ∧ Below w.heap.size w w' := by
  have H := hid h
  have HD := hid hD
  clear h hD
  go_enter Try.func24, Try.ntmps24
  go_wp2_with fail
  go_loopw [9] (fun iv wr => ∃ i : Nat, i ≤ l.length ∧ iv = .int .i64 (i : Int) ∧ Hid (∀ (k : Nat) d, k < i → l[k]? = some d → 0 ≤ fnd L d ∧ d ∉ l.take k) ∧ Below w.heap.size w wr) (fun iv _ => l.length - (intOf iv).toNat)
  case atStart => exact ⟨0, Nat.zero_le _, rfl, fun j y hj => absurd hj (Nat.not_lt_zero j), Below.refl _ _⟩
  case round =>
    obtain ⟨i, hi, rfl, hno, hb⟩ := hrel
    by_cases ci : i < l.length
    · obtain ⟨d, hx⟩ : ∃ d, l[i]? = some d := ⟨l[i], List.getElem?_eq_getElem ci⟩
      have hx' := hid hx
      obtain ⟨g, rfl, hg, y0'⟩ := HD.out.at hx
      have y0 := (hb.cell (p := ⟨g, i, none⟩) hg).trans y0'
      have CF := hid (find (cap := cap) d (H.out.below hb) hl)
      have CC := hid fun (W : World) (b : Below w.heap.size w W) => contains (cap := dc) d ((HD.out.below b).take i) (by rw [List.length_take]; omega)
      have hlt : (l.take i).length = i := by rw [List.length_take]; omega
      rw [hlt] at CC
      clear hx H HD y0' hlt
      by_cases e1 : fnd L d < 0
      · have R : Hid (dOk L l = false) := dOk_no hx'.out (.inl e1)
        clear CC hno
        go_wp2_with fail
        refine CF.out.mono ?_
        rintro e w2 ⟨rfl, b2⟩
        go_wp2_with fail
        go_ret
        exact ⟨ret_b R.out.symm, hb.trans (b2.mono hb.size)⟩
      · rcases e2 : bmem d (l.take i) with _ | _
        · have hno' : Hid (∀ (k : Nat) d, k < i + 1 → l[k]? = some d → 0 ≤ fnd L d ∧ d ∉ l.take k) := fun k y hk hy => by
            by_cases c : k = i
            · subst c
              rw [hx'.out] at hy
              injection hy with hy
              subst hy
              exact ⟨by omega, fun hm => by rw [bmem_iff.2 hm] at e2; cases e2⟩
            · exact hno.out k y (by omega) hy
          rw [e2] at CC
          clear e2 hno
          go_wp2_with fail
          refine CF.out.mono ?_
          rintro e w2 ⟨rfl, b2⟩
          have C2 := hid (CC.out _ (hb.trans (b2.mono hb.size)))
          clear CC CF
          go_wp2_with fail
          refine C2.out.mono ?_
          rintro e w3 ⟨rfl, rfl⟩
          clear C2
          go_wp2_with fail
          go_roundw
          case rel => exact ⟨i + 1, ci, by go_num, hno', hb.trans (b2.mono hb.size)⟩
          case measure => simp [intOf]; omega
        · have R : Hid (dOk L l = false) := dOk_no hx'.out (.inr (bmem_iff.1 e2))
          rw [e2] at CC
          clear e2 hno
          go_wp2_with fail
          refine CF.out.mono ?_
          rintro e w2 ⟨rfl, b2⟩
          have C2 := hid (CC.out _ (hb.trans (b2.mono hb.size)))
          clear CC CF
          go_wp2_with fail
          refine C2.out.mono ?_
          rintro e w3 ⟨rfl, rfl⟩
          clear C2
          go_wp2_with fail
          go_ret
          exact ⟨ret_b R.out.symm, hb.trans (b2.mono hb.size)⟩
    · have e : i = l.length := by omega
      subst e
      have R : Hid (dOk L l = true) := dp_yes hno.out
      clear hno
      go_wp2_with fail
      go_ret
      exact ⟨ret_b R.out.symm, hb⟩

theorem drewB {w W : World} {n q : Nat} (b : Below n w W) : Below n w (W.drewN q) := ⟨b.os, b.tape, b.output, b.size, b.block⟩
theorem mem_upto {l : List ByteArray} {s : ByteArray} {m : Nat} (h : ∀ (k : Nat) d, k < m → l[k]? = some d → d ≠ s) (hm : m = l.length) : bmem s l = false :=
  bmem_no fun hs => by
    obtain ⟨k, hk⟩ := List.mem_iff_getElem?.1 hs
    exact h k s (by have := (List.getElem?_eq_some_iff.1 hk).1; omega) hk rfl

set_option maxRecDepth 100000 in
set_option maxHeartbeats 3200000 in
theorem waitsRef {w : World} {a : Option Addr} {L : List Nd} {cap i k : Nat} (nm : ByteArray) (h : Ns w a L) (hi : i < L.length) (hk : k < L.length) (hok : ∀ x ∈ L, NdOk x) :
    Calls Try.prog 32 #[.agg #[.string nm, .slice a L.length cap], .int .i64 (i : Int), .int .i64 (k : Int)] w fun e w' => e = .returned (.bool (wts L i k)) ∧ Below w.heap.size w w' := by
  obtain ⟨x, hx⟩ : ∃ x, L[i]? = some x := ⟨L[i], List.getElem?_eq_getElem hi⟩
  obtain ⟨y, hy⟩ : ∃ y, L[k]? = some y := ⟨L[k], List.getElem?_eq_getElem hk⟩
  have HR := hid (wts_of hx hy)
  have hok' := hok x (List.mem_of_getElem? hx)
  obtain ⟨g, da, dc, rfl, hg, N, hdl, hdm, HS⟩ := h.at hx
  obtain ⟨g2, da2, dc2, e, _, N2, _⟩ := h.at hy
  simp only [Option.some.injEq, Addr.mk.injEq, and_true] at e
  subst e
  obtain ⟨_, q1, _⟩ := N
  obtain ⟨p0, _⟩ := N2
  have hd4 := hok'.2.2.2.1
  have S := hid HS
  clear h hx hy hok hok' HS
  go_enter Try.func32, Try.ntmps32
  go_wp2_with fail
  go_loopw [7] (fun iv wr => ∃ m : Nat, m ≤ x.deps.length ∧ iv = .int .i64 (m : Int) ∧ Hid (∀ (j : Nat) d, j < m → x.deps[j]? = some d → d ≠ y.name) ∧ ∃ q, wr = (w.alloc (.cells #[.string nm, .slice (some ⟨g, 0, none⟩) L.length cap] 30)).drewN q) (fun iv _ => x.deps.length - (intOf iv).toNat)
  case atStart => exact ⟨0, Nat.zero_le _, rfl, fun j y hj => absurd hj (Nat.not_lt_zero j), 0, rfl⟩
  case round =>
    obtain ⟨m, hm, rfl, hno, q, rfl⟩ := hrel
    by_cases c : m < x.deps.length
    · obtain ⟨d, hd⟩ : ∃ d, x.deps[m]? = some d := ⟨x.deps[m], List.getElem?_eq_getElem c⟩
      obtain ⟨gd, rfl, hgd, y0⟩ := S.out.at hd
      have hd' := hid hd
      clear hd S
      by_cases e : d = y.name
      · have E1 := str_eq e
        have R : Hid (wts L i k = true) := HR.out.trans (bmem_iff.2 (e ▸ List.mem_of_getElem? hd'.out))
        clear e HR hno
        go_wp2
        go_quiet (fail)
        go_wp2
        go_ret
        exact ⟨ret_b R.out.symm, by first | exact al w _ | exact drewB (al w _) | exact drewB (drewB (al w _))⟩
      · have E1 := str_ne e
        have hno' : Hid (∀ (j : Nat) d, j < m + 1 → x.deps[j]? = some d → d ≠ y.name) := fun j z hj hz => by
          by_cases c : j = m
          · subst c
            rw [hd'.out] at hz
            injection hz with hz
            rw [← hz]; exact e
          · exact hno.out j z (by omega) hz
        clear e HR hno
        go_wp2
        go_quiet (fail)
        go_wp2
        go_roundw
        case rel => exact ⟨m + 1, c, by go_num, hno', _, rfl⟩
        case measure => simp [intOf]; omega
    · have e : m = x.deps.length := by omega
      have R : Hid (wts L i k = false) := HR.out.trans (mem_upto hno.out e)
      clear e HR hno
      go_wp2
      go_ret
      exact ⟨ret_b R.out.symm, by first | exact al w _ | exact drewB (al w _) | exact drewB (drewB (al w _))⟩

theorem F2.drew {w : World} {P q : Nat} {nm : ByteArray} {v : Value} (h : F2 w P nm v) : F2 (w.drewN q) P nm v := h

set_option maxRecDepth 100000 in
set_option maxHeartbeats 6400000 in
theorem depsRef {w : World} {a : Option Addr} {L : List Nd} {cap i : Nat} (nm : ByteArray) (h : Ns w a L) (hl : L.length ≤ 4194304) (hi : i < L.length) (hok : ∀ x ∈ L, NdOk x) :
    Calls Try.prog 28 #[.agg #[.string nm, .slice a L.length cap], .int .i64 (i : Int)] w fun e w' => e = .returned (.bool (dOkI L i)) ∧ Below w.heap.size w w' := by
  obtain ⟨x, hx⟩ : ∃ x, L[i]? = some x := ⟨L[i], List.getElem?_eq_getElem hi⟩
  have HR := hid (dOkI_of hx)
  have hok' := hok x (List.mem_of_getElem? hx)
  have H := hid h
  obtain ⟨g, da, dc, rfl, hg, N, hdl, hdm, HS⟩ := h.at hx
  obtain ⟨_, q1, _⟩ := N
  have hd4 := hok'.2.2.2.1
  have S := hid HS
  have B0 := hid (al w (.cells #[.string nm, .slice (some ⟨g, 0, none⟩) L.length cap] 30))
  have F0 := hid (box2 w 30 nm (some ⟨g, 0, none⟩) L.length cap)
  clear h hx hok hok' HS
  go_enter Try.func28, Try.ntmps28
  go_wp2_with fail
  clear q1
  go_loopw [6] (fun iv wr => ∃ m : Nat, m ≤ x.deps.length ∧ iv = .int .i64 (m : Int) ∧ Hid (∀ (k : Nat) d, k < m → x.deps[k]? = some d → 0 ≤ fnd L d ∧ d ∉ x.deps.take k) ∧ Below w.heap.size w wr ∧ w.heap.size < wr.heap.size ∧ Hid (F2 wr w.heap.size nm (.slice (some ⟨g, 0, none⟩) L.length cap))) (fun iv _ => x.deps.length - (intOf iv).toNat)
  case atStart => exact ⟨0, Nat.zero_le _, rfl, fun j y hj => absurd hj (Nat.not_lt_zero j), B0.out, by simp, F0⟩
  case round =>
    obtain ⟨m, hm, rfl, hno, hb, hz, HF⟩ := hrel
    by_cases c : m < x.deps.length
    · obtain ⟨d, hd⟩ : ∃ d, x.deps[m]? = some d := ⟨x.deps[m], List.getElem?_eq_getElem c⟩
      obtain ⟨gd, rfl, hgd, y0'⟩ := S.out.at hd
      have y0 := (hb.cell (p := ⟨gd, m, none⟩) hgd).trans y0'
      obtain ⟨f0, f1⟩ := HF.out
      have CF := hid fun (W : World) (b : Below wr.heap.size wr W) => (findRef (cap := cap) nm d (H.out.below (hb.trans (b.mono hb.size))) hl).mono fun e w' h =>
        (⟨h.1, h.2, hid (b.trans (h.2.mono b.size)), (HF.out.below hz (b.trans (h.2.mono b.size))).1, (HF.out.below hz (b.trans (h.2.mono b.size))).2, ((b.trans (h.2.mono b.size)).cell (p := ⟨gd, m, none⟩) (Nat.lt_of_lt_of_le hgd hb.size)).trans y0⟩ : e = .returned (.int .i64 (fnd L d)) ∧ Below W.heap.size W w' ∧ Hid (Below wr.heap.size wr w') ∧ w'.cell? ⟨w.heap.size, 0, none⟩ = some (.string nm) ∧ w'.cell? ⟨w.heap.size, 1, none⟩ = some (.slice (some ⟨g, 0, none⟩) L.length cap) ∧ w'.cell? ⟨gd, m, none⟩ = some (.string d))
      have hd' := hid hd
      clear hd y0' HF
      go_wp2_with fail
      go_region_held3 (fun w' => w'.cell? ⟨w.heap.size, 0, none⟩ = some (.string nm) ∧ w'.cell? ⟨w.heap.size, 1, none⟩ = some (.slice (some ⟨g, 0, none⟩) L.length cap) ∧ w'.cell? ⟨gd, m, none⟩ = some (.string d))
        (first | exact hS | go_keep) ((go_at_call 48; refine (CF.out _ (Below.refl _ _).drew).mono ?_; rintro e w2 ⟨rfl, b2', b2, hS⟩))
      obtain ⟨s0, s1, s2⟩ := hS
      have b3 := hid (hb.trans (b2.out.mono hb.size))
      have z3 : w.heap.size < w2.heap.size := Nat.lt_of_lt_of_le hz b2.out.size
      clear CF b2 b2' y0 f0 f1
      by_cases e1 : fnd L d < 0
      · have R : Hid (dOkI L i = false) := hid (HR.out.trans (dOk_no hd'.out (.inl e1)))
        clear HR hno
        go_wp2
        go_ret
        exact ⟨ret_b R.out.symm, b3.out⟩
      · go_wp2
        go_loopw [8] (fun iv wq => ∃ n : Nat, n ≤ m ∧ iv = .int .i64 (n : Int) ∧ Hid (∀ (k : Nat) s, k < n → x.deps[k]? = some s → s ≠ d) ∧ ∃ q, wq = w2.drewN q) (fun iv _ => m - (intOf iv).toNat)
        case atStart => exact ⟨0, Nat.zero_le _, rfl, fun j y hj => absurd hj (Nat.not_lt_zero j), 0, rfl⟩
        case round =>
          obtain ⟨n, hn, rfl, hdi, q, rfl⟩ := hrel
          by_cases cn : n < m
          · obtain ⟨s, hs⟩ : ∃ s, x.deps[n]? = some s := ⟨x.deps[n], List.getElem?_eq_getElem (by omega)⟩
            obtain ⟨gd', e, _, s3'⟩ := S.out.at hs
            simp only [Option.some.injEq, Addr.mk.injEq, and_true] at e
            subst e
            have s3 := (b3.out.cell (p := ⟨gd, n, none⟩) hgd).trans s3'
            have hs' := hid hs
            clear hs s3' S
            by_cases e : s = d
            · have E1 := str_eq e
              have R : Hid (dOkI L i = false) := hid (HR.out.trans (dOk_no hd'.out (.inr (List.mem_iff_getElem?.2 ⟨n, by rw [List.getElem?_take_of_lt cn, hs'.out, e]⟩))))
              clear e HR hno hdi
              go_wp2
              go_quiet (fail)
              go_wp2
              go_ret
              exact ⟨ret_b R.out.symm, by first | exact drewB b3.out | exact drewB (drewB b3.out)⟩
            · have E1 := str_ne e
              have hdi' : Hid (∀ (k : Nat) s, k < n + 1 → x.deps[k]? = some s → s ≠ d) := fun j z hj hz => by
                by_cases c : j = n
                · subst c
                  rw [hs'.out] at hz
                  injection hz with hz
                  rw [← hz]; exact e
                · exact hdi.out j z (by omega) hz
              clear e HR hno hdi
              go_wp2
              go_quiet (fail)
              go_wp2
              go_roundw
              case rel => exact ⟨n + 1, cn, by go_num, hdi', _, rfl⟩
              case measure => simp [intOf]; omega
          · have hno' : Hid (∀ (k : Nat) d, k < m + 1 → x.deps[k]? = some d → 0 ≤ fnd L d ∧ d ∉ x.deps.take k) := fun k y hk hy => by
              by_cases c : k = m
              · subst c
                rw [hd'.out] at hy
                injection hy with hy
                subst hy
                refine ⟨by omega, fun hm => ?_⟩
                obtain ⟨j, hj⟩ := List.mem_iff_getElem?.1 hm
                have hjk : j < k := by
                  have := (List.getElem?_eq_some_iff.1 hj).1
                  rw [List.length_take] at this
                  omega
                rw [List.getElem?_take_of_lt hjk] at hj
                exact hdi.out j d (by omega) hj rfl
              · exact hno.out k y (by omega) hy
            clear hno hdi HR
            go_wp2
            go_roundw
            case rel => exact ⟨m + 1, c, by go_num, hno', drewB b3.out, z3, ⟨s0, s1⟩⟩
            case measure => simp [intOf]; omega
    · have e : m = x.deps.length := by omega
      have R : Hid (dOkI L i = true) := hid (HR.out.trans (dp_yes (by rw [← e]; exact hno.out)))
      clear e HR hno HF
      go_wp2
      go_ret
      exact ⟨ret_b R.out.symm, hb⟩

end Go.Proofs.Ytdhghjfenkjeaaa.Wgp
