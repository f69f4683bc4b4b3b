/-
  Other names: a text with its letters turned on ('tS'), a workflow with its nodes' names so turned ('reN'): what Check and Masks say stays. Nothing is asked but what each fact names.
-/
import Derived.Test.YtdhghjfenkjeaaaGpA
namespace Go.Proofs.Ytdhghjfenkjeaaa.M

def tb (q : Nat) (c : UInt8) : UInt8 := if 97 ≤ c.toNat ∧ c.toNat ≤ 122 then UInt8.ofNat (97 + (c.toNat - 97 + q) % 26) else c
theorem tb_yes {q : Nat} {c : UInt8} (h : 97 ≤ c.toNat ∧ c.toNat ≤ 122) : (tb q c).toNat = 97 + (c.toNat - 97 + q) % 26 := by
  unfold tb
  rw [if_pos h, UInt8.toNat_ofNat']
  exact Nat.mod_eq_of_lt (by have := Nat.mod_lt (c.toNat - 97 + q) (show 0 < 26 by decide); omega)
theorem tb_no {q : Nat} {c : UInt8} (h : ¬ (97 ≤ c.toNat ∧ c.toNat ≤ 122)) : tb q c = c := by unfold tb; rw [if_neg h]
theorem tb_in {q : Nat} {c : UInt8} (h : 97 ≤ c.toNat ∧ c.toNat ≤ 122) : 97 ≤ (tb q c).toNat ∧ (tb q c).toNat ≤ 122 := by
  rw [tb_yes h]
  have := Nat.mod_lt (c.toNat - 97 + q) (show 0 < 26 by decide)
  omega
theorem tb_inj {q : Nat} {c d : UInt8} (h : tb q c = tb q d) : c = d := by
  by_cases hc : 97 ≤ c.toNat ∧ c.toNat ≤ 122 <;> by_cases hd : 97 ≤ d.toNat ∧ d.toNat ≤ 122
  · have e := congrArg UInt8.toNat h
    rw [tb_yes hc, tb_yes hd] at e
    apply UInt8.toNat.inj
    omega
  · have := tb_in (q := q) hc
    rw [h, tb_no hd] at this
    exact absurd this hd
  · have := tb_in (q := q) hd
    rw [← h, tb_no hc] at this
    exact absurd this hc
  · rw [tb_no hc, tb_no hd] at h
    exact h
theorem tb_nm (q : Nat) (c : UInt8) : nmC (tb q c) = nmC c := by
  by_cases hc : 97 ≤ c.toNat ∧ c.toNat ≤ 122
  · have := tb_in (q := q) hc
    unfold nmC
    rw [decide_eq_true (.inl this), decide_eq_true (.inl hc)]
  · rw [tb_no hc]
/-- A text turned. -/
def tS (q : Nat) (s : ByteArray) : ByteArray := ⟨(s.data.toList.map (tb q)).toArray⟩
theorem tS_list (q : Nat) (s : ByteArray) : (tS q s).data.toList = s.data.toList.map (tb q) := rfl
theorem tS_size (q : Nat) (s : ByteArray) : (tS q s).size = s.size := by
  show (s.data.toList.map (tb q)).toArray.size = s.data.size
  simp
theorem map_inj {f : UInt8 → UInt8} (hf : ∀ c d, f c = f d → c = d) : ∀ {a b : List UInt8}, a.map f = b.map f → a = b
  | [], [], _ => rfl
  | [], _ :: _, h => by simp at h
  | _ :: _, [], h => by simp at h
  | x :: a, y :: b, h => by
    simp only [List.map_cons, List.cons.injEq] at h
    rw [hf _ _ h.1, map_inj hf h.2]
theorem tS_inj {q : Nat} {a b : ByteArray} (h : tS q a = tS q b) : a = b := by
  have e := congrArg (fun x => x.data.toList) h
  simp only [tS_list] at e
  exact data_inj (map_inj (fun c d => tb_inj) e)
theorem tS_eq {q : Nat} {a b : ByteArray} : tS q a = tS q b ↔ a = b := ⟨tS_inj, fun h => by rw [h]⟩
theorem tS_at {q : Nat} {s : ByteArray} {i : Nat} (h : i < s.size) : (tS q s)[i]'(by rw [tS_size]; exact h) = tb q s[i] := by
  have e : (tS q s)[i]'(by rw [tS_size]; exact h) = (s.data.toList.map (tb q))[i]'(by simpa using h) := rfl
  rw [e, List.getElem_map]
  rfl
theorem nmd_tS (q : Nat) (s : ByteArray) : nmd (tS q s) = nmd s := by
  rw [Bool.eq_iff_iff, nmd_iff, nmd_iff]
  have hz := tS_size q s
  constructor
  · rintro ⟨h1, h2, h3⟩
    refine ⟨by omega, by omega, fun i h => ?_⟩
    have := h3 i (by omega)
    rw [tS_at h, tb_nm] at this
    exact this
  · rintro ⟨h1, h2, h3⟩
    refine ⟨by omega, by omega, fun i h => ?_⟩
    have h' : i < s.size := by omega
    rw [tS_at h', tb_nm]
    exact h3 i h'

/-- A node with its names turned. -/
def reN (q : Nat) (x : Nd) : Nd := ⟨tS q x.name, x.deps.map (tS q), x.tries, x.lease, x.tenant, x.flow⟩
theorem reN_at {q : Nat} {L : List Nd} (i : Nat) : (L.map (reN q))[i]? = (L[i]?).map (reN q) := List.getElem?_map
theorem fnd_re (q : Nat) (L : List Nd) (s : ByteArray) : fnd (L.map (reN q)) (tS q s) = fnd L s := by
  rcases fnd_cases L s with ⟨h, h1⟩ | ⟨i, x, h, hx, e, h1⟩
  · rw [h]
    refine fnd_no fun i x hx => ?_
    rw [reN_at] at hx
    rcases e : L[i]? with _ | y
    · rw [e] at hx; cases hx
    · rw [e] at hx
      injection hx with hx
      rw [← hx]
      exact fun he => h1 i y e (tS_inj he)
  · rw [h]
    refine fnd_at (x := reN q x) (by rw [reN_at, hx]; rfl) (by rw [← e]; rfl) fun j y hj hy => ?_
    rw [reN_at] at hy
    rcases e : L[j]? with _ | z
    · rw [e] at hy; cases hy
    · rw [e] at hy
      injection hy with hy
      rw [← hy]
      exact fun he => h1 j z hj e (tS_inj he)
theorem one_re (q : Nat) (x : Nd) (d : Bool) : one (reN q x) d = one x d := by
  unfold one
  have h1 : nmd (reN q x).name = nmd x.name := nmd_tS q x.name
  have h2 : (reN q x).deps.length = x.deps.length := by simp [reN]
  rw [h1, h2]
  rfl
theorem oneI_re (q : Nat) (L : List Nd) (i : Nat) : oneI (L.map (reN q)) i = oneI L i := by
  rcases e : L[i]? with _ | x
  · unfold oneI
    rw [reN_at, e]
    rfl
  · rw [oneI_of (x := reN q x) (by rw [reN_at, e]; rfl), oneI_of e, one_re, ← List.map_take]
    have : fnd ((L.take i).map (reN q)) (reN q x).name = fnd (L.take i) x.name := fnd_re q _ _
    rw [this]
theorem bmem_re (q : Nat) (d : ByteArray) (l : List ByteArray) : bmem (tS q d) (l.map (tS q)) = bmem d l := by
  rw [Bool.eq_iff_iff, bmem_iff, bmem_iff, List.mem_map]
  constructor
  · rintro ⟨x, hx, e⟩
    rw [← tS_inj e]; exact hx
  · intro h
    exact ⟨d, h, rfl⟩
theorem dOk_re (q : Nat) (L : List Nd) (ds : List ByteArray) : dOk (L.map (reN q)) (ds.map (tS q)) = dOk L ds := by
  unfold dOk
  rw [List.length_map]
  congr 1
  funext k
  rw [List.getElem?_map]
  rcases e : ds[k]? with _ | d
  · rfl
  · simp only [Option.map_some]
    rw [fnd_re, ← List.map_take, bmem_re]
theorem dOkI_re (q : Nat) (L : List Nd) (i : Nat) : dOkI (L.map (reN q)) i = dOkI L i := by
  unfold dOkI
  rw [reN_at]
  rcases e : L[i]? with _ | x
  · rfl
  · simp only [Option.map_some]
    exact dOk_re q L x.deps
theorem wts_re (q : Nat) (L : List Nd) : wts (L.map (reN q)) = wts L := by
  funext i k
  unfold wts
  rw [reN_at, reN_at]
  rcases L[i]? with _ | x <;> rcases L[k]? with _ | y
  · rfl
  · rfl
  · rfl
  · simp only [Option.map_some]
    exact bmem_re q y.name x.deps
theorem chk_re (q : Nat) (nm : ByteArray) (L : List Nd) : chk nm (L.map (reN q)) = chk nm L := by
  unfold chk
  rw [List.length_map, wts_re]
  simp only [oneI_re, dOkI_re]

/-- As far as the loop has come. -/
def tL (q : Nat) (l : List UInt8) (k : Nat) : List UInt8 := (l.take k).map (tb q) ++ l.drop k
theorem tL_zero (q : Nat) (l : List UInt8) : tL q l 0 = l := by simp [tL]
theorem tL_end (q : Nat) (l : List UInt8) : tL q l l.length = l.map (tb q) := by simp [tL]
theorem tL_length (q : Nat) (l : List UInt8) (k : Nat) (h : k ≤ l.length) : (tL q l k).length = l.length := by simp [tL]; omega
theorem tL_at {q : Nat} {l : List UInt8} {k : Nat} {c : UInt8} (hc : l[k]? = some c) : (tL q l k)[k]? = some c := by
  have hk := (List.getElem?_eq_some_iff.1 hc).1
  unfold tL
  rw [List.getElem?_append_right (by simp; omega)]
  have : k - ((l.take k).map (tb q)).length = 0 := by simp; omega
  rw [this, List.getElem?_drop, Nat.add_zero]
  exact hc
theorem tL_set {q : Nat} {l : List UInt8} {k : Nat} {c : UInt8} (hc : l[k]? = some c) : (tL q l k).set k (tb q c) = tL q l (k + 1) := by
  have hk := (List.getElem?_eq_some_iff.1 hc).1
  have hx := (List.getElem?_eq_some_iff.1 hc).2
  unfold tL
  have h1 : ((l.take k).map (tb q)).length = k := by simp; omega
  rw [List.set_append_right _ _ (by omega), h1, Nat.sub_self, List.drop_eq_getElem_cons hk, hx, List.set_cons_zero, List.take_add_one, hc]
  simp
theorem tL_stay {q : Nat} {l : List UInt8} {k : Nat} {c : UInt8} (hc : l[k]? = some c) (h : tb q c = c) : tL q l (k + 1) = tL q l k := by
  rw [← tL_set hc, h]
  have h2 := tL_at (q := q) hc
  obtain ⟨hi, e⟩ := List.getElem?_eq_some_iff.1 h2
  rw [← e]
  exact List.set_getElem_self hi

end Go.Proofs.Ytdhghjfenkjeaaa.M
