/-
  The contracts of listOf, small and textsOfValue. Conditions: the value can be read, and has at most 10000 inner ones.
-/
import Derived.Test.YtainajjklakaeaaGpE
import Derived.Test.YtainajjklakaeaaGpI
import Derived.Test.YtainajjklakaeaaGpN
import Derived.Test.YtainajjklakaeaaCopied
import Derived.Deep.OwnRows
import Derived.Laws.OwnMore
namespace Go.Proofs.Ytainajjklakaeaa.M

/-- The j-th value of a list. -/
def F.at : F → Nat → Option (Int × Int × ByteArray × F)
  | .nil, _ => none
  | .cons k n s l _, 0 => some (k, n, s, l)
  | .cons _ _ _ _ r, j + 1 => r.at j
theorem F.at_some : ∀ (f : F) {j : Nat}, j < f.len → ∃ k n s l, f.at j = some (k, n, s, l)
  | .nil, _, h => by simp [F.len] at h
  | .cons k n s l r, 0, _ => ⟨k, n, s, l, rfl⟩
  | .cons k n s l r, j + 1, h => F.at_some r (j := j) (by simp only [F.len] at h; omega)
theorem F.kinds_at : ∀ (f : F) (j : Nat), f.kinds[j]? = (f.at j).map (·.1)
  | .nil, _ => rfl
  | .cons k n s l r, 0 => rfl
  | .cons k n s l r, j + 1 => by simp [F.kinds, F.at, F.kinds_at r j]
theorem F.at_nodes : ∀ {f : F} {j : Nat} {k n : Int} {s : ByteArray} {l : F}, f.at j = some (k, n, s, l) → l.nodes < f.nodes
  | .cons k n s l r, 0, _, _, _, _, h => by
    simp only [F.at, Option.some.injEq, Prod.mk.injEq] at h
    obtain ⟨_, _, _, rfl⟩ := h
    simp only [F.nodes]; omega
  | .cons k n s l r, j + 1, _, _, _, _, h => by
    have := F.at_nodes (f := r) h
    simp only [F.nodes]; omega
theorem F.at_ok : ∀ {f : F} {j : Nat} {k n : Int} {s : ByteArray} {l : F}, f.at j = some (k, n, s, l) → f.ok → (-9223372036854775808 ≤ k ∧ k < 9223372036854775808) ∧ (-9223372036854775808 ≤ n ∧ n < 9223372036854775808) ∧ s.size ≤ 140737488355328 ∧ l.ok
  | .cons k n s l r, 0, _, _, _, _, h, ho => by
    simp only [F.at, Option.some.injEq, Prod.mk.injEq] at h
    obtain ⟨rfl, rfl, rfl, rfl⟩ := h
    exact ⟨ho.1, ho.2.1, ho.2.2.1, ho.2.2.2.1⟩
  | .cons k n s l r, j + 1, _, _, _, _, h, ho => F.at_ok (f := r) h ho.2.2.2.2
theorem fits_at {w : World} {A : Nat → Prop} : ∀ {f : F} {xs : List Value} {j : Nat} {k n : Int} {s : ByteArray} {l : F}, Fits w A f xs → f.at j = some (k, n, s, l) → ∃ L, xs[j * 4]? = some (.int .i64 k) ∧ xs[j * 4 + 1]? = some (.int .i64 n) ∧ xs[j * 4 + 2]? = some (.string s) ∧ xs[j * 4 + 3]? = some L ∧ Rd w A L l
  | .cons k n s l r, xs, 0, _, _, _, _, h, ha => by
    simp only [F.at, Option.some.injEq, Prod.mk.injEq] at ha
    obtain ⟨rfl, rfl, rfl, rfl⟩ := ha
    obtain ⟨L, ys, rfl, _, h3⟩ := fits_cons.1 h
    exact ⟨L, rfl, rfl, rfl, rfl, h3⟩
  | .cons k n s l r, xs, j + 1, _, _, _, _, h, ha => by
    obtain ⟨L, ys, rfl, h2, _⟩ := fits_cons.1 h
    obtain ⟨L', q0, q1, q2, q3, q4⟩ := fits_at (f := r) h2 ha
    refine ⟨L', ?_, ?_, ?_, ?_, q4⟩
    · rw [show (j + 1) * 4 = j * 4 + 4 by omega]; exact q0
    · rw [show (j + 1) * 4 + 1 = j * 4 + 1 + 4 by omega]; exact q1
    · rw [show (j + 1) * 4 + 2 = j * 4 + 2 + 4 by omega]; exact q2
    · rw [show (j + 1) * 4 + 3 = j * 4 + 3 + 4 by omega]; exact q3
/-- The j-th value's four cells. -/
theorem rd_at {w : World} {A : Nat → Prop} {p : Option Addr} {cap : Nat} {f : F} (h : Rd w A (.slice p f.len cap) f) {j : Nat} {k n : Int} {s : ByteArray} {l : F} (ha : f.at j = some (k, n, s, l)) :
    ∃ g L, p = some ⟨g, 0, none⟩ ∧ A g ∧ g < w.heap.size ∧ w.cell? ⟨g, j * 4, none⟩ = some (.int .i64 k) ∧ w.cell? ⟨g, j * 4 + 1, none⟩ = some (.int .i64 n) ∧ w.cell? ⟨g, j * 4 + 2, none⟩ = some (.string s) ∧ w.cell? ⟨g, j * 4 + 3, none⟩ = some L ∧ Rd w A L l := by
  rcases h with ⟨_, rfl⟩ | ⟨g, cap', cur, ty, e1, e2, e3, e4, e5, e6⟩
  · simp [F.at] at ha
  · injection e1 with e1 _ _
    obtain ⟨L, q0, q1, q2, q3, q4⟩ := fits_at e6 ha
    have key : ∀ i v, (cur.toList.take (4 * f.len))[i]? = some v → w.cell? ⟨g, i, none⟩ = some v := fun i v hv => by
      rw [List.getElem?_take] at hv
      split at hv
      · have : cur[i]? = some v := by simpa using hv
        simp [World.cell?, e5, this]
      · cases hv
    exact ⟨g, L, e1, e2, lt_of_heap e5, key _ _ q0, key _ _ q1, key _ _ q2, key _ _ q3, q4⟩
theorem rd_slice {w : World} {A : Nat → Prop} {L : Value} {f : F} (h : Rd w A L f) : ∃ p cap, L = .slice p f.len cap ∧ f.len ≤ cap ∧ cap ≤ maxLen := by
  obtain ⟨p, cap, _, h1, h2, h3, _⟩ := rd_form h
  exact ⟨p, cap, h1, h2, h3⟩
theorem rdS_at : ∀ {f : F} {j : Nat} {k n : Int} {s : ByteArray} {l : F}, f.at j = some (k, n, s, l) → k ≠ 1 → rdS f = none
  | .cons k n s l r, 0, _, _, _, _, h, hk => by
    simp only [F.at, Option.some.injEq, Prod.mk.injEq] at h
    obtain ⟨rfl, _⟩ := h
    simp [rdS, hk]
  | .cons k n s l r, j + 1, _, _, _, _, h, hk => by
    have := rdS_at (f := r) h hk
    simp [rdS, this]
theorem rdS_all : ∀ {f : F} (l : List ByteArray), l.length = f.len → (∀ j s, l[j]? = some s → ∃ n g, f.at j = some (1, n, s, g)) → rdS f = some l
  | .nil, [], _, _ => rfl
  | .nil, _ :: _, h, _ => by simp [F.len] at h
  | .cons _ _ _ _ _, [], h, _ => by simp [F.len] at h
  | .cons k n s g r, x :: m, h, hj => by
    obtain ⟨n0, g0, e⟩ := hj 0 x rfl
    simp only [F.at, Option.some.injEq, Prod.mk.injEq] at e
    obtain ⟨rfl, _, rfl, _⟩ := e
    have := rdS_all (f := r) m (by simpa [F.len] using h) (fun j s hs => hj (j + 1) s (by simpa using hs))
    simp [rdS, this]

end Go.Proofs.Ytainajjklakaeaa.M
namespace Go.Proofs.Ytainajjklakaeaa.Wgr
open Go.ChangeShapes Go.WideShapes Go.ChangeAt Go.RowKit Go.Proofs.Ytainajjklakaeaa.M Go.Proofs.Ytainajjklakaeaa.Wgp

theorem hid {p : Prop} (h : p) : Hid p := h
theorem ret_b {a b : Bool} (h : a = b) : Ending.returned (.bool a) = .returned (.bool b) := by rw [h]

set_option maxRecDepth 100000 in
theorem small (n : Int) (w : World) : Calls Try.prog 27 #[.int .i64 n] w fun e w' => e = .returned (.bool (sm n)) ∧ w = w' := by
  obtain ⟨r, hr⟩ : ∃ r, Hid (sm n = r) := ⟨_, rfl⟩
  rw [hr.out]
  by_cases h1 : -2147483648 ≤ n
  · by_cases h2 : n ≤ 2147483647
    · have R := hid (hr.out.symm.trans (decide_eq_true (show -2147483648 ≤ n ∧ n ≤ 2147483647 from ⟨h1, h2⟩)))
      go_enter Try.func27, Try.ntmps27
      go_wp2_with fail
      go_ret
      exact ⟨ret_b R.out.symm, rfl⟩
    · have R := hid (hr.out.symm.trans (decide_eq_false (show ¬ (-2147483648 ≤ n ∧ n ≤ 2147483647) by omega)))
      have e2 : decide (n ≤ 2147483647) = false := decide_eq_false h2
      go_enter Try.func27, Try.ntmps27
      go_wp2_with fail
      go_ret
      exact ⟨(by first | exact ret_b R.out.symm | (rw [e2]; exact ret_b R.out.symm)), rfl⟩
  · have R := hid (hr.out.symm.trans (decide_eq_false (show ¬ (-2147483648 ≤ n ∧ n ≤ 2147483647) by omega)))
    have e1 : decide (-2147483648 ≤ n) = false := decide_eq_false h1
    go_enter Try.func27, Try.ntmps27
    go_wp2_with fail
    go_ret
    exact ⟨(by first | exact ret_b R.out.symm | (rw [e1]; exact ret_b R.out.symm)), rfl⟩

/-- Is it a list of these kinds? -/
def isK (k : Int) (l : F) (ks : List Int) : Bool := decide (k = 2 ∧ l.kinds = ks)
theorem isK_no {k : Int} {l : F} {ks : List Int} (h : k ≠ 2 ∨ l.len ≠ ks.length) : isK k l ks = false := by
  unfold isK
  refine decide_eq_false ?_
  rintro ⟨h1, h2⟩
  rcases h with h | h
  · exact h h1
  · exact h (by rw [← h2, F.kinds_len])
theorem isK_at {k : Int} {l : F} {ks : List Int} {j : Nat} {a b : Int} (h1 : l.kinds[j]? = some a) (h2 : ks[j]? = some b) (h : a ≠ b) : isK k l ks = false := by
  unfold isK
  refine decide_eq_false ?_
  rintro ⟨_, h3⟩
  rw [h3, h2] at h1
  injection h1 with h1
  exact h h1.symm
theorem isK_yes {k : Int} {l : F} {ks : List Int} (h : k = 2) (hl : l.len = ks.length) (hj : ∀ (j : Nat) a, ks[j]? = some a → l.kinds[j]? = some a) : isK k l ks = true := by
  unfold isK
  refine decide_eq_true ⟨h, ?_⟩
  apply List.ext_getElem?
  intro j
  rcases e : ks[j]? with _ | a
  · have : ks.length ≤ j := by rw [List.getElem?_eq_none_iff] at e; exact e
    rw [List.getElem?_eq_none (by rw [F.kinds_len]; omega)]
  · exact hj j a e

set_option maxRecDepth 100000 in
set_option maxHeartbeats 3200000 in
theorem listOf (k n : Int) (s : ByteArray) (l : F) (M : Value) (ks : List Int) (gk c : Nat) (w : World) (A : Nat → Prop) (hM : Rd w A M l) (hks : ks.length ≤ 6) (hgk : gk < w.heap.size) (hK : ∀ (j : Nat) a, ks[j]? = some a → w.cell? ⟨gk, j, none⟩ = some (.int .i64 a)) :
    Calls Try.prog 13 #[.agg #[.int .i64 k, .int .i64 n, .string s, M], .slice (some ⟨gk, 0, none⟩) ks.length c] w fun e w' => e = .returned (.bool (isK k l ks)) ∧ Below w.heap.size w w' := by
  obtain ⟨p, cap, rfl, hc, hcm⟩ := rd_slice hM
  unfold maxLen at hcm
  by_cases c1 : k = 2
  · by_cases c2 : l.len = ks.length
    · have e1 : (k != 2) = false := by simp [c1]
      have e2 : ((l.len : Int) != (ks.length : Int)) = false := by simp [c2]
      have HM := hid hM
      have HK := hid hK
      have C1 := hid c1
      have C2 := hid c2
      clear hM hK c1 c2
      go_enter Try.func13, Try.ntmps13
      go_wp2_with fail
      go_loop [20] (fun jv => ∃ j : Nat, j ≤ ks.length ∧ jv = .int .i64 (j : Int) ∧ Hid (∀ (i : Nat) a, i < j → ks[i]? = some a → l.kinds[i]? = some a)) (fun jv => ks.length - (intOf jv).toNat)
      case atStart => exact ⟨0, Nat.zero_le _, rfl, fun i a h => absurd h (Nat.not_lt_zero i)⟩
      case round =>
        obtain ⟨j, hj, rfl, hno⟩ := hrel
        by_cases cj : j < ks.length
        · obtain ⟨b, hb⟩ : ∃ b, ks[j]? = some b := ⟨ks[j], List.getElem?_eq_getElem cj⟩
          obtain ⟨a, n', s', l', ha⟩ := F.at_some l (j := j) (by have := C2.out; omega)
          obtain ⟨g, L', rfl, _, hg, y0, _⟩ := rd_at HM.out ha
          have x0 := HK.out j b hb
          have hka : Hid (l.kinds[j]? = some a) := hid (by rw [F.kinds_at, ha]; rfl)
          have hb' := hid hb
          have jl : (j : Int) < (l.len : Int) := by have := C2.out; omega
          clear ha hb HM HK
          by_cases e : a = b
          · have hno' : Hid (∀ (i : Nat) a, i < j + 1 → ks[i]? = some a → l.kinds[i]? = some a) := fun i d hi hd => by
              by_cases q : i = j
              · subst q
                rw [hb'.out] at hd
                injection hd with hd
                rw [← hd, ← e]; exact hka.out
              · exact hno.out i d (by omega) hd
            have e3 : (a != b) = false := by simp [e]
            clear hno e
            go_wp2_with fail
            go_round
            case rel => exact ⟨j + 1, cj, by go_num, hno'⟩
            case measure => simp [intOf]; omega
          · have R := hid (isK_at (k := k) hka.out hb'.out e)
            have e3 : (a != b) = true := by simpa using e
            clear hno e
            go_wp2_with fail
            go_ret
            exact ⟨ret_b R.out.symm, al w _⟩
        · have R := hid (isK_yes C1.out C2.out (fun i a ha => hno.out i a (by have := (List.getElem?_eq_some_iff.1 ha).1; omega) ha))
          clear hno
          go_wp2_with fail
          go_ret
          exact ⟨ret_b R.out.symm, al w _⟩
    · have R := hid (isK_no (k := k) (.inr c2))
      have e1 : (k != 2) = false := by simp [c1]
      have e2 : ((l.len : Int) != (ks.length : Int)) = true := by simp; omega
      clear hM hK c1 c2
      go_enter Try.func13, Try.ntmps13
      go_wp2_with fail
      go_ret
      exact ⟨ret_b R.out.symm, al w _⟩
  · have R := hid (isK_no (l := l) (ks := ks) (.inl c1))
    have e1 : (k != 2) = true := by simpa using c1
    clear hM hK c1
    go_enter Try.func13, Try.ntmps13
    go_wp2_with fail
    go_ret
    exact ⟨ret_b R.out.symm, al w _⟩

/-- The j-th value's text. -/
def txt (l : F) (j : Nat) : ByteArray := match l.at j with
  | some (_, _, s, _) => s
  | none => ⟨#[]⟩
theorem txt_of {l : F} {j : Nat} {k n : Int} {s : ByteArray} {g : F} (h : l.at j = some (k, n, s, g)) : txt l j = s := by unfold txt; rw [h]
def txts (l : F) : List ByteArray := (List.range l.len).map (txt l)
theorem txts_len (l : F) : (txts l).length = l.len := by simp [txts]
theorem txts_at {l : F} {j : Nat} (h : j < l.len) : (txts l)[j]? = some (txt l j) := by simp [txts, h]
theorem txts_rd {l : F} (h : ∀ j, j < l.len → ∃ n s g, l.at j = some (1, n, s, g)) : rdS l = some (txts l) :=
  rdS_all (txts l) (txts_len l) fun j s hs => by
    have hj := (List.getElem?_eq_some_iff.1 hs).1
    rw [txts_len] at hj
    rw [txts_at hj] at hs
    obtain ⟨n, s', g, e⟩ := h j hj
    rw [txt_of e] at hs
    injection hs with hs
    subst hs
    exact ⟨n, g, e⟩
theorem infoS : (Try.prog.info? 9).map (fun i => (i.zero, i.size, i.bytes)) = some (some (.string ⟨#[]⟩), 1, 16) := by kernel_rfl
theorem madeS (n : Nat) (hn : n ≤ 1048576) (u : World) : (Instr.makeSlice 53 (.int .i64 (n : Int)) (.int .i64 (n : Int))).run Try.prog u = .ok (.slice (some ⟨u.heap.size, 0, none⟩) n n) (u.alloc (.cells (madeCells #[.string ⟨#[]⟩] n) 9)) := by
  obtain ⟨i0, hi, hz0, hz1, hz2⟩ := info_parts infoS
  have h := run_make (P := Try.prog) u 53 9 i0 (.string ⟨#[]⟩) Try.underlying53 hi hz0 .i64 .i64 (n : Int) (n : Int) (by omega) (by omega) (by rw [hz2]; omega) (by omega)
  simpa [hz1, Value.cells] using h

/-- What textsOfValue comes to. -/
def TxP (w w' : World) (l : F) (e : Ending) : Prop :=
  (∃ ds g, rdS l = some ds ∧ e = .returned (.tuple #[.slice (some ⟨g, 0, none⟩) ds.length ds.length, .bool true]) ∧ w.heap.size ≤ g ∧ Ss w' (some ⟨g, 0, none⟩) ds) ∨ (rdS l = none ∧ e = .returned (.tuple #[.slice none 0 0, .bool false]))

set_option maxRecDepth 100000 in
set_option maxHeartbeats 3200000 in
theorem textsOf (k n : Int) (s : ByteArray) (l : F) (M : Value) (w : World) (A : Nat → Prop) (hM : Rd w A M l) (hok : l.ok) (hlen : l.len ≤ 10000) :
    Calls Try.prog 26 #[.agg #[.int .i64 k, .int .i64 n, .string s, M]] w fun e w' => TxP w w' l e ∧ Below w.heap.size w w' := by
  obtain ⟨p, cap, rfl, hc, hcm⟩ := rd_slice hM
  unfold maxLen at hcm
  have hmk := madeS l.len (by omega)
  have HM := hid hM
  have HO := hid hok
  have B0 := hid (al2 w (.cells #[.int .i64 k, .int .i64 n, .string s, .slice p l.len cap] 37) (.cells (madeCells #[.string ⟨#[]⟩] l.len) 9))
  have R0 := hid (World.rowIs_made (w.alloc (.cells #[.int .i64 k, .int .i64 n, .string s, .slice p l.len cap] 37)) (.string ⟨#[]⟩) l.len 9)
  rw [World.size_alloc] at R0
  clear hM hok
  go_enter Try.func26, Try.ntmps26
  go_wp2_with fail
  clear hmk
  go_loopw [14] (fun jv wr => ∃ j : Nat, j ≤ l.len ∧ jv = .int .i64 (j : Int) ∧ Hid (∀ i, i < j → ∃ n s g, l.at i = some (1, n, s, g)) ∧ Hid (wr.rowIs (w.heap.size + 1) 9 l.len (fun i => .string (if i < j then txt l i else ⟨#[]⟩))) ∧ Below w.heap.size w wr) (fun jv _ => l.len - (intOf jv).toNat)
  case atStart => exact ⟨0, Nat.zero_le _, rfl, fun i h => absurd h (Nat.not_lt_zero i), hid (R0.out.congr fun i _ => by simp), B0.out⟩
  case round =>
    clear R0 B0
    obtain ⟨j, hj, rfl, hno, HR, hb⟩ := hrel
    by_cases cj : j < l.len
    · obtain ⟨a, n', s', l', ha⟩ := F.at_some l (j := j) cj
      obtain ⟨g, L', rfl, _, hg, y0', y1', y2', y3', hL'⟩ := rd_at HM.out ha
      obtain ⟨pl, cl, rfl, _, _⟩ := rd_slice hL'
      have y0 := (hb.cell (p := ⟨g, j * 4, none⟩) hg).trans y0'
      have y1 := (hb.cell (p := ⟨g, j * 4 + 1, none⟩) hg).trans y1'
      have y2 := (hb.cell (p := ⟨g, j * 4 + 2, none⟩) hg).trans y2'
      have y3 := (hb.cell (p := ⟨g, j * 4 + 3, none⟩) hg).trans y3'
      have zr := HR.out.lt
      have hs' : s'.size ≤ 281474976710656 := by have := (F.at_ok ha HO.out).2.2.1; omega
      have HA := hid ha
      clear y0' y1' y2' y3' ha hL'
      by_cases e : a = 1
      · have e3 : (a != 1) = false := by simp [e]
        have hno' : Hid (∀ i, i < j + 1 → ∃ n s g, l.at i = some (1, n, s, g)) := hid (fun i hi => by
          by_cases q : i = j
          · subst q; exact ⟨n', s', l', by rw [← e]; exact HA.out⟩
          · exact hno.out i (by omega))
        have ht := hid (txt_of HA.out)
        have BV := hid (al wr (.cells #[.int .i64 a, .int .i64 n', .string s', .slice pl l'.len cl] 37))
        have C1 := hid (Wc.clone s' (wr.alloc (.cells #[.int .i64 a, .int .i64 n', .string s', .slice pl l'.len cl] 37)) hs')
        clear e hno
        go_wp2_with fail
        refine C1.out.mono ?_
        rintro e w2 ⟨rfl, b2⟩
        have b3 := hid (BV.out.trans (b2.mono (by simp)))
        have R2 := hid (HR.out.of_block (b3.out.block _ zr))
        have x0 := R2.out.cell cj
        have x1 := R2.out.frozen j
        have hb2 := hb.trans (b3.out.mono hb.size)
        generalize (if j < j then txt l j else (⟨#[]⟩ : ByteArray)) = z0 at x0
        clear C1 b2 b3 BV y0 y1 y2 y3
        go_wp2_with fail
        go_roundw
        case rel =>
          refine ⟨j + 1, cj, by go_num, hno', hid ?_, hb2.setCell (p := ⟨w.heap.size + 1, j, none⟩) (by show w.heap.size ≤ w.heap.size + 1; omega) _⟩
          refine (R2.out.set j _).congr fun i hi => ?_
          by_cases q : i = j
          · subst q; simp [ht.out]
          · simp only [if_neg q]
            by_cases q2 : i < j
            · rw [if_pos q2, if_pos (by omega)]
            · rw [if_neg q2, if_neg (by omega)]
        case measure => simp [intOf]; omega
      · have R := hid (show TxP w (wr.alloc (.cells #[.int .i64 a, .int .i64 n', .string s', .slice pl l'.len cl] 37)) l (.returned (.tuple #[.slice none 0 0, .bool false])) from .inr ⟨rdS_at HA.out e, rfl⟩)
        have e3 : (a != 1) = true := by simpa using e
        clear e hno
        go_wp2_with fail
        go_ret2
        exact ⟨R.out, hb.alloc hb.size _⟩
    · have ej : j = l.len := by omega
      have RT := hid (txts_rd (l := l) (fun i hi => hno.out i (by omega)))
      have R := hid (show TxP w wr l (.returned (.tuple #[.slice (some ⟨w.heap.size + 1, 0, none⟩) (txts l).length (txts l).length, .bool true])) from .inl ⟨txts l, w.heap.size + 1, RT.out, rfl, by omega, .inr ⟨_, rfl, HR.out.lt, fun i u hu => by
        have hi := (List.getElem?_eq_some_iff.1 hu).1
        rw [txts_len] at hi
        rw [txts_at hi] at hu
        injection hu with hu
        rw [HR.out.cell hi, if_pos (by omega), hu]⟩⟩)
      rw [txts_len] at R
      clear hno HR RT
      go_wp2_with fail
      go_ret2
      exact ⟨R.out, hb⟩

end Go.Proofs.Ytainajjklakaeaa.Wgr
