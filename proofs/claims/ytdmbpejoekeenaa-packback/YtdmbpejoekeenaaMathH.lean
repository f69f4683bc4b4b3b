/-
  What bytes that stand in a text from a place to its end are read as: what was written is read, with more behind it or not; cut off anywhere it is too short. No Go text is in sight.
-/
import Derived.Test.YtdmbpejoekeenaaMathS
import Derived.Test.YtdmbpejoekeenaaMathK
namespace Go.Proofs.Ytdmbpejoekeenaa.M

/-- From the place to the end these bytes stand. -/
def Here (s : ByteArray) (a : Nat) (l : List UInt8) : Prop := a ≤ s.size ∧ s.data.toList.drop a = l
theorem Here.size {s : ByteArray} {a : Nat} {l : List UInt8} (h : Here s a l) : s.size = a + l.length := by
  have h1 : (s.data.toList.drop a).length = l.length := by rw [h.2]
  have h2 : s.data.toList.length = s.size := Array.length_toList
  rw [List.length_drop, h2] at h1
  have := h.1
  omega
theorem Here.drop {s : ByteArray} {a : Nat} {b r : List UInt8} (h : Here s a (b ++ r)) : Here s (a + b.length) r := by
  have h1 := h.size
  rw [List.length_append] at h1
  refine ⟨by omega, ?_⟩
  rw [← List.drop_drop, h.2]
  simp
theorem Here.one {s : ByteArray} {a : Nat} {x : UInt8} {r : List UInt8} (h : Here s a (x :: r)) : Here s (a + 1) r := Here.drop (b := [x]) h
theorem Here.split {s : ByteArray} {a : Nat} {b r : List UInt8} (h : Here s a (b ++ r)) : ∃ p : ByteArray, p.size = a ∧ s = p ++ ⟨b.toArray⟩ ++ ⟨r.toArray⟩ := by
  have h2 : s.data.toList.length = s.size := Array.length_toList
  refine ⟨⟨(s.data.toList.take a).toArray⟩, ?_, ?_⟩
  · show (s.data.toList.take a).toArray.size = a
    rw [List.size_toArray, List.length_take]
    have := h.1
    omega
  · apply ByteArray.ext
    apply Array.toList_inj.1
    have e := List.take_append_drop a s.data.toList
    rw [h.2] at e
    simp
    exact e.symm
theorem here_get {s : ByteArray} {a w : Nat} {x : Int} {r : List UInt8} (h : Here s a (be w x ++ r)) (h1 : 1 ≤ w) (h2 : w ≤ 8) (hx : 0 ≤ x) (hw : x < ((256 ^ w : Nat) : Int)) : gE s (a : Int) (w : Int) = 0 ∧ gN s (a : Int) (w : Int) = x ∧ gX s (a : Int) (w : Int) = ((a + w : Nat) : Int) := by
  obtain ⟨p, hp, rfl⟩ := h.split
  obtain ⟨e1, e2, e3⟩ := get_back (p := p) (r := ⟨r.toArray⟩) (w := w) hx h1 h2
  rw [hp] at e1 e2 e3
  rw [size_app, hp, beB_size] at e3
  rw [Int.emod_eq_of_lt hx hw] at e2
  exact ⟨e1, e2, e3⟩
theorem here_short {s : ByteArray} {a w : Nat} {l : List UInt8} (h : Here s a l) (h1 : 1 ≤ w) (h2 : w ≤ 8) (hl : l.length < w) : gE s (a : Int) (w : Int) = 3 := by
  have := h.size
  exact (g_short (by omega) (by omega)).1
theorem here_mark {s : ByteArray} {a : Nat} {x : UInt8} {r : List UInt8} (h : Here s a (x :: r)) : gE s (a : Int) 1 = 0 ∧ gN s (a : Int) 1 = (x.toNat : Int) ∧ gX s (a : Int) 1 = ((a + 1 : Nat) : Int) := by
  have hx := x.toNat_lt
  have e : be 1 (x.toNat : Int) = [x] := by
    have e1 : ((x.toNat : Int) % 256).toNat = x.toNat := by omega
    simp only [be, sh, e1]
    simp
  have h' : Here s a (be 1 (x.toNat : Int) ++ r) := by rw [e]; exact h
  exact here_get (w := 1) h' (by decide) (by decide) (by omega) (by simp; omega)
theorem here_none {s : ByteArray} {a : Nat} (h : Here s a []) : gE s (a : Int) 1 = 3 := here_short (w := 1) h (by omega) (by omega) (by simp)

theorem here_text {s : ByteArray} {a : Nat} {t : ByteArray} {r : List UInt8} (ht : t.size ≤ 65535) (h : Here s a (be 2 (t.size : Int) ++ t.data.toList ++ r)) : xE s (a : Int) = 0 ∧ xB s (a : Int) = t ∧ xX s (a : Int) = ((a + (2 + t.size) : Nat) : Int) := by
  obtain ⟨p, hp, rfl⟩ := h.split
  have hb : tB t = beB 2 (t.size : Int) ++ t := (t_ok (by omega)).2
  have e : (⟨(be 2 (t.size : Int) ++ t.data.toList).toArray⟩ : ByteArray) = tB t := by
    rw [hb]; apply ByteArray.ext; simp [beB]
  rw [e]
  obtain ⟨e1, e2, e3⟩ := text_back (p := p) (r := ⟨r.toArray⟩) ht
  rw [size_app, hb, size_app, beB_size] at e3
  rw [hp] at e1 e2 e3
  rw [hb] at *
  exact ⟨e1, e2, e3⟩
theorem text_short {s : ByteArray} {a : Nat} {l : List UInt8} (h : Here s a l) (hl : l.length < 2) : xE s (a : Int) = 3 := by
  have e := here_short (w := 2) h (by omega) (by omega) hl
  have e' : gE s (a : Int) 2 = 3 := e
  rw [(x_err (s := s) (at_ := (a : Int)) (by rw [e']; decide)).1, e']
theorem text_cut {s : ByteArray} {a n : Nat} {l : List UInt8} (hn : n ≤ 65535) (h : Here s a (be 2 (n : Int) ++ l)) (hl : l.length < n) : xE s (a : Int) = 3 := by
  obtain ⟨e1, e2, e3⟩ := here_get h (by omega) (by omega) (by omega) (by omega)
  have hz := h.size
  rw [List.length_append, be_length] at hz
  exact (x_short (s := s) (at_ := (a : Int)) e1 (by
    have e2' : gN s (a : Int) 2 = (n : Int) := e2
    have e3' : gX s (a : Int) 2 = ((a + 2 : Nat) : Int) := e3
    rw [e2', e3']; omega)).1

theorem cut_split {α : Type} {c c' a b : List α} (h : c ++ c' = a ++ b) (_hc : c' ≠ []) : c.length < a.length ∨ ∃ c2, c = a ++ c2 ∧ c2 ++ c' = b := by
  rcases List.append_eq_append_iff.1 h with ⟨as, h1, h2⟩ | ⟨bs, h1, h2⟩
  · rcases as with _ | ⟨x, as⟩
    · right; exact ⟨[], by simpa using h1.symm, by simpa using h2⟩
    · left; rw [h1]; simp
  · right; exact ⟨bs, h1, h2.symm⟩

/-- A value with nothing in the fields that aren't its kind's. -/
def nrm1 (k n : Int) (s : ByteArray) (l : F) : V := if k = 0 then ⟨0, n, ⟨#[]⟩, .nil⟩ else if k = 1 then ⟨1, 0, s, .nil⟩ else ⟨2, 0, ⟨#[]⟩, l⟩
def nrm : F → F
  | .nil => .nil
  | .cons k n s l r => .cons (nrm1 k n s (nrm l)).k (nrm1 k n s (nrm l)).n (nrm1 k n s (nrm l)).s (nrm1 k n s (nrm l)).l (nrm r)
theorem nrm_len : ∀ f : F, (nrm f).len = f.len
  | .nil => rfl
  | .cons k n s l r => by simp [nrm, F.len, nrm_len r]

theorem numR_full {s : ByteArray} {a : Nat} {m : Int} {r : List UInt8} (h0 : 0 ≤ m) (h1 : m < 18446744073709551616) (h : Here s a (UInt8.ofNat (wid m) :: (be (wid m) m ++ r))) : numR s (a : Int) = .ok (m, ((a + (1 + wid m) : Nat) : Int)) := by
  have w8 := wid_8 h1
  obtain ⟨e1, e2, e3⟩ := here_mark h
  have ew : ((UInt8.ofNat (wid m)).toNat : Int) = (wid m : Int) := by simp; omega
  rw [ew] at e2
  unfold numR
  rw [if_neg (by omega), if_neg (by omega)]
  by_cases c : wid m = 0
  · rw [if_pos (by omega), wid_none h0 h1 c, e3, wid_zero]
  · have hm := wid_lt h1
    obtain ⟨f1, f2, f3⟩ := here_get h.one (w := wid m) (by omega) w8 h0 (by omega)
    rw [if_neg (by omega), e3, e2, f1, f2, f3, if_neg (by omega), if_neg (by omega)]
    have : a + 1 + wid m = a + (1 + wid m) := by omega
    rw [this]
theorem numR_cut {s : ByteArray} {a : Nat} {m : Int} {c c' : List UInt8} (_h0 : 0 ≤ m) (h1 : m < 18446744073709551616) (h : Here s a c) (hc : c ++ c' = UInt8.ofNat (wid m) :: be (wid m) m) (hn : c' ≠ []) : numR s (a : Int) = .error 3 := by
  have w8 := wid_8 h1
  match c, h, hc with
  | [], h, _ =>
    have e := here_none h
    unfold numR
    rw [if_pos (by omega), e]
  | x :: c2, h, hc =>
    simp only [List.cons_append, List.cons.injEq] at hc
    obtain ⟨rfl, hc⟩ := hc
    obtain ⟨e1, e2, e3⟩ := here_mark h
    have ew : ((UInt8.ofNat (wid m)).toNat : Int) = (wid m : Int) := by simp; omega
    rw [ew] at e2
    have hl : c2.length < wid m := by
      have h2 : (c2 ++ c').length = wid m := by rw [hc, be_length]
      have h3 : 0 < c'.length := List.length_pos_iff.2 hn
      rw [List.length_append] at h2
      omega
    have e4 := here_short h.one (w := wid m) (by omega) w8 hl
    unfold numR
    rw [if_neg (by omega), if_neg (by omega), if_neg (by omega), e3, e2, e4, if_pos (by decide)]

section
variable {s : ByteArray} {a m d : Nat} {k n : Int} {t : ByteArray} {l : F} {b : List UInt8}

theorem val_full (hn : -9223372036854775808 ≤ n ∧ n < 9223372036854775808) (hm : m + d = 8) (hb : enc1 k n t l.len d (encF l (d + 1)) = .ok b)
    (hl : ∀ m' a bl r, m = m' + 1 → encF l (d + 1) = .ok bl → Here s a (bl ++ r) → rowR (valR s m') l.len (a : Int) = .ok (nrm l, ((a + bl.length : Nat) : Int))) {r : List UInt8} (h : Here s a (b ++ r)) :
    valR s m (a : Int) = .ok (nrm1 k n t (nrm l), ((a + b.length : Nat) : Int)) := by
  unfold enc1 at hb
  split at hb
  · rename_i c
    subst c
    cases hb
    obtain ⟨f1, f2⟩ := fold_range hn.1 hn.2
    obtain ⟨e1, e2, e3⟩ := here_mark (x := 1) h
    have e2' : gN s (a : Int) 1 = 1 := e2
    rw [valR_eq, if_neg (by omega), if_pos e2', e3, numR_full f1 f2 (r := r) (by have := h.one; simpa [numB] using this)]
    simp only [overN, nrm1, unfold_fold, if_true]
    congr 2
    rw [numB_length]
    congr 1
    omega
  split at hb
  · rename_i c
    subst c
    split at hb
    · cases hb
    rename_i c4
    cases hb
    obtain ⟨e1, e2, e3⟩ := here_mark (x := 2) h
    have e2' : gN s (a : Int) 1 = 2 := e2
    obtain ⟨f1, f2, f3⟩ := here_text (s := s) (a := a + 1) (t := t) (r := r) (by omega) (by have := h.one; simpa using this)
    rw [valR_eq, if_neg (by omega), if_neg (by omega), if_pos e2', e3]
    unfold textR
    rw [f1, f2, f3, if_neg (by omega), if_neg c4]
    simp only [overT, nrm1]
    have : t.data.toList.length = t.size := Array.length_toList
    rw [if_neg (by decide), if_pos trivial]
    congr 2
    simp only [List.length_cons, List.length_append, be_length]
    congr 1
    omega
  split at hb
  · rename_i c0 c1 c
    subst c
    split at hb
    · cases hb
    rename_i c4
    cases hx : encF l (d + 1) with
    | error e => rw [hx] at hb; cases hb
    | ok bl =>
      rw [hx] at hb
      cases hb
      obtain ⟨m', rfl⟩ : ∃ m', m = m' + 1 := ⟨m - 1, by omega⟩
      obtain ⟨e1, e2, e3⟩ := here_mark (x := 3) h
      have e2' : gN s (a : Int) 1 = 3 := e2
      have h2 : Here s (a + 1) (be 2 (l.len : Int) ++ (bl ++ r)) := by have := h.one; simpa using this
      obtain ⟨f1, f2, f3⟩ := here_get h2 (by omega) (by omega) (by omega) (by omega)
      have f1' : gE s ((a + 1 : Nat) : Int) 2 = 0 := f1
      have f2' : gN s ((a + 1 : Nat) : Int) 2 = (l.len : Int) := f2
      have f3' : gX s ((a + 1 : Nat) : Int) 2 = ((a + 1 + 2 : Nat) : Int) := f3
      have h3 := h2.drop
      rw [be_length] at h3
      have g := hl m' (a + 1 + 2) bl r rfl hx h3
      rw [valR_eq, if_neg (by omega), if_neg (by omega), if_neg (by omega), if_pos e2', e3]
      simp only [listR]
      rw [if_neg (by omega), if_neg (by omega), f2', f3', Int.toNat_natCast, g]
      simp only [overL, nrm1]
      rw [if_neg (by decide), if_neg (by decide)]
      congr 2
      simp only [List.length_cons, List.length_append, be_length]
      congr 1
      omega
  · cases hb

theorem val_cut (hn : -9223372036854775808 ≤ n ∧ n < 9223372036854775808) (hm : m + d = 8) (hb : enc1 k n t l.len d (encF l (d + 1)) = .ok b)
    (hl : ∀ m' a bl c c', m = m' + 1 → encF l (d + 1) = .ok bl → Here s a c → c ++ c' = bl → c' ≠ [] → rowR (valR s m') l.len (a : Int) = .error 3) {c c' : List UInt8} (h : Here s a c) (hc : c ++ c' = b) (hne : c' ≠ []) :
    valR s m (a : Int) = .error 3 := by
  match c, h, hc with
  | [], h, _ =>
    have e := here_none h
    rw [valR_eq, if_pos (by omega), e]
  | x :: c2, h, hc =>
    obtain ⟨e1, e2, e3⟩ := here_mark h
    have h1 := h.one
    unfold enc1 at hb
    split at hb
    · rename_i c
      subst c
      cases hb
      obtain ⟨f1, f2⟩ := fold_range hn.1 hn.2
      simp only [numB, List.cons_append, List.cons.injEq] at hc
      obtain ⟨rfl, hc⟩ := hc
      have e2' : gN s (a : Int) 1 = 1 := e2
      rw [valR_eq, if_neg (by omega), if_pos e2', e3, numR_cut f1 f2 h1 hc hne]
      rfl
    split at hb
    · rename_i c
      subst c
      split at hb
      · cases hb
      rename_i c4
      cases hb
      simp only [List.cons_append, List.cons.injEq] at hc
      obtain ⟨rfl, hc⟩ := hc
      have e2' : gN s (a : Int) 1 = 2 := e2
      have ex : xE s ((a + 1 : Nat) : Int) = 3 := by
        rcases cut_split hc hne with h2 | ⟨c3, rfl, h3⟩
        · rw [be_length] at h2; exact text_short h1 h2
        · refine text_cut (n := t.size) (by omega) h1 ?_
          have h4 : (c3 ++ c').length = t.size := by rw [h3]; exact Array.length_toList
          have h5 : 0 < c'.length := List.length_pos_iff.2 hne
          rw [List.length_append] at h4
          omega
      rw [valR_eq, if_neg (by omega), if_neg (by omega), if_pos e2', e3]
      unfold textR
      rw [ex, if_pos (by decide)]
      rfl
    split at hb
    · rename_i c0 c1 c
      subst c
      split at hb
      · cases hb
      rename_i c4
      cases hx : encF l (d + 1) with
      | error e => rw [hx] at hb; cases hb
      | ok bl =>
        rw [hx] at hb
        cases hb
        obtain ⟨m', rfl⟩ : ∃ m', m = m' + 1 := ⟨m - 1, by omega⟩
        simp only [List.cons_append, List.cons.injEq] at hc
        obtain ⟨rfl, hc⟩ := hc
        have e2' : gN s (a : Int) 1 = 3 := e2
        rw [valR_eq, if_neg (by omega), if_neg (by omega), if_neg (by omega), if_pos e2', e3]
        simp only [listR]
        rcases cut_split hc hne with h2 | ⟨c3, rfl, h3⟩
        · rw [be_length] at h2
          have f : gE s ((a + 1 : Nat) : Int) 2 = 3 := here_short (w := 2) h1 (by omega) (by omega) h2
          rw [f, if_pos (by decide)]
          rfl
        · obtain ⟨f1, f2, f3⟩ := here_get h1 (by omega) (by omega) (by omega) (by omega)
          have f1' : gE s ((a + 1 : Nat) : Int) 2 = 0 := f1
          have f2' : gN s ((a + 1 : Nat) : Int) 2 = (l.len : Int) := f2
          have f3' : gX s ((a + 1 : Nat) : Int) 2 = ((a + 1 + 2 : Nat) : Int) := f3
          have h4 := h1.drop
          rw [be_length] at h4
          have g := hl m' (a + 1 + 2) bl c3 c' rfl hx h4 h3 hne
          rw [if_neg (by omega), if_neg (by omega), f2', f3', Int.toNat_natCast, g]
          rfl
    · cases hb
end

theorem row_full {s : ByteArray} : ∀ (f : F) (m d a : Nat) (b r : List UInt8), f.ok → m + d = 8 → encF f d = .ok b → Here s a (b ++ r) → rowR (valR s m) f.len (a : Int) = .ok (nrm f, ((a + b.length : Nat) : Int))
  | .nil, m, d, a, b, r, _, _, hb, _ => by
    simp only [encF] at hb
    cases hb
    simp [rowR, F.len, nrm]
  | .cons k n t l q, m, d, a, b, r, ho, hm, hb, h => by
    simp only [encF] at hb
    obtain ⟨b1, b2, h1, h2, rfl⟩ := cat_ok hb
    rw [List.append_assoc] at h
    have e1 := val_full ho.2.1 hm h1 (fun m' a bl r hm' hx hh => row_full l m' (d + 1) a bl r ho.2.2.2.1 (by omega) hx hh) h
    have e2 := row_full q m d (a + b1.length) b2 r ho.2.2.2.2 hm h2 h.drop
    simp only [F.len, rowR, e1, e2, nrm]
    congr 2
    rw [List.length_append]
    congr 1
    omega
theorem row_cut {s : ByteArray} : ∀ (f : F) (m d a : Nat) (b c c' : List UInt8), f.ok → m + d = 8 → encF f d = .ok b → Here s a c → c ++ c' = b → c' ≠ [] → rowR (valR s m) f.len (a : Int) = .error 3
  | .nil, m, d, a, b, c, c', _, _, hb, _, hc, hne => by
    simp only [encF] at hb
    cases hb
    simp at hc
    exact absurd hc.2 hne
  | .cons k n t l q, m, d, a, b, c, c', ho, hm, hb, h, hc, hne => by
    simp only [encF] at hb
    obtain ⟨b1, b2, h1, h2, rfl⟩ := cat_ok hb
    rcases cut_split hc hne with h3 | ⟨c2, rfl, h3⟩
    · obtain ⟨c1', hc1, hne1⟩ : ∃ c1', c ++ c1' = b1 ∧ c1' ≠ [] := by
        rcases List.append_eq_append_iff.1 hc with ⟨as, g1, g2⟩ | ⟨bs, g1, g2⟩
        · refine ⟨as, g1.symm, ?_⟩
          rintro rfl
          rw [g1] at h3
          simp at h3
        · exfalso
          rw [g1, List.length_append] at h3
          omega
      have e1 := val_cut ho.2.1 hm h1 (fun m' a bl c c' hm' hx hh hcc hnn => row_cut l m' (d + 1) a bl c c' ho.2.2.2.1 (by omega) hx hh hcc hnn) h hc1 hne1
      simp only [F.len, rowR, e1]
    · have e1 := val_full ho.2.1 hm h1 (fun m' a bl r hm' hx hh => row_full l m' (d + 1) a bl r ho.2.2.2.1 (by omega) hx hh) h
      have e2 := row_cut q m d (a + b1.length) b2 c2 c' ho.2.2.2.2 hm h2 h.drop h3 hne
      simp only [F.len, rowR, e1, e2]

end Go.Proofs.Ytdmbpejoekeenaa.M
