/-
  Tokens, plainly: the bytes of claims ('cB'), a token ('mint'), what bytes are read as ('tkE' the error, 'tkN' the numbers, 'tkT' the tag), how they are verified ('vfE', 'vfN'); what is minted is read back. No Go text is in sight. Nothing is asked but the bounds that each fact names.
-/
import Derived.Test.YtkelipedpjmmaaaDoorQa
import Derived.Test.YtkelipedpjmmaaaDoorMathI
namespace Go.Proofs.YtkelipedpjmmaaaDoor.M

/-- The list of four numbers. -/
def cF (a b c d : Int) : F := .cons 0 a ⟨#[]⟩ .nil (.cons 0 b ⟨#[]⟩ .nil (.cons 0 c ⟨#[]⟩ .nil (.cons 0 d ⟨#[]⟩ .nil .nil)))
/-- A number of 64 bits. -/
def I6 (n : Int) : Prop := -9223372036854775808 ≤ n ∧ n < 9223372036854775808
theorem cF_ok {a b c d : Int} (ha : I6 a) (hb : I6 b) (hc : I6 c) (hd : I6 d) : (cF a b c d).ok :=
  ⟨by decide, ha, by decide, trivial, by decide, hb, by decide, trivial, by decide, hc, by decide, trivial, by decide, hd, by decide, trivial, trivial⟩
theorem cV_ok {a b c d : Int} (ha : I6 a) (hb : I6 b) (hc : I6 c) (hd : I6 d) : (F.cons 2 0 ⟨#[]⟩ (cF a b c d) .nil).ok :=
  ⟨by decide, by decide, by decide, cF_ok ha hb hc hd, trivial⟩
theorem cF_wt {a b c d : Int} (ha : I6 a) (hb : I6 b) (hc : I6 c) (hd : I6 d) : wt1 2 0 ⟨#[]⟩ (cF a b c d).wt ≤ 20000 := by
  have h := wt_nodes (cF_ok ha hb hc hd)
  have e : (cF a b c d).nodes = 4 := rfl
  unfold wt1
  simp
  omega
theorem cE (a b c d : Int) : ∃ l, Wu.encV 2 0 ⟨#[]⟩ (cF a b c d) = .ok l := by
  simp [Wu.encV, cF, encF, enc1, cat, F.len]
/-- The bytes of claims. -/
def cB (a b c d : Int) : ByteArray := Wu.bytesB (Wu.encV 2 0 ⟨#[]⟩ (cF a b c d))
theorem cB_eq {a b c d : Int} {l : List UInt8} (h : Wu.encV 2 0 ⟨#[]⟩ (cF a b c d) = .ok l) : cB a b c d = ⟨l.toArray⟩ := by
  unfold cB
  rw [h]
  rfl
theorem cB_size {a b c d : Int} (ha : I6 a) (hb : I6 b) (hc : I6 c) (hd : I6 d) : (cB a b c d).size ≤ 20000 := by
  obtain ⟨l, h⟩ := cE a b c d
  have e := enc1_size (fun b hb => encF_size hb) (show enc1 2 0 ⟨#[]⟩ (cF a b c d).len 0 (encF (cF a b c d) 1) = .ok l from h)
  have h3 := cF_wt ha hb hc hd
  rw [cB_eq h]
  show l.toArray.size ≤ 20000
  simp
  omega
theorem cB_zero : cB 0 0 0 0 = ⟨#[3, 0, 4, 1, 0, 1, 0, 1, 0, 1, 0]⟩ := by decide +kernel
theorem cF_nrm (a b c d : Int) : nrm (cF a b c d) = cF a b c d := by simp [cF, nrm, nrm1]
theorem cB_read {a b c d : Int} (ha : I6 a) (hb : I6 b) (hc : I6 c) (hd : I6 d) : allR (cB a b c d) = .ok ⟨2, 0, ⟨#[]⟩, cF a b c d⟩ := by
  obtain ⟨l, h⟩ := cE a b c d
  rw [cB_eq h, all_same (cV_ok ha hb hc hd) h, cF_nrm]
  rfl

/-- The token of claims. -/
def mint (K : ByteArray) (a b c d : Int) : ByteArray := cB a b c d ++ tag K (cB a b c d)
theorem mint_size (K : ByteArray) (a b c d : Int) : (mint K a b c d).size = (cB a b c d).size + 32 := by
  unfold mint
  rw [ByteArray.size_append, tag_size]

/-- All but the last 32 bytes; these. -/
def hd32 (s : ByteArray) : ByteArray := s.extract 0 (s.size - 32)
def tl32 (s : ByteArray) : ByteArray := s.extract (s.size - 32) s.size
theorem hd32_size (s : ByteArray) : (hd32 s).size = s.size - 32 := by
  unfold hd32
  rw [ByteArray.size_extract]
  omega
theorem tl32_size {s : ByteArray} (h : ¬ s.size < 32) : (tl32 s).size = 32 := by
  unfold tl32
  rw [ByteArray.size_extract]
  omega
theorem hd32_app {a b : ByteArray} (h : b.size = 32) : hd32 (a ++ b) = a := by
  unfold hd32
  rw [ByteArray.size_append, h, show a.size + 32 - 32 = a.size by omega]
  apply ByteArray.ext
  rw [ByteArray.data_extract, ByteArray.data_append]
  have e : a.data.toList.length = a.size := Array.length_toList
  apply Array.toList_inj.1
  simp
  rw [← e, List.take_length]
theorem tl32_app {a b : ByteArray} (h : b.size = 32) : tl32 (a ++ b) = b := by
  unfold tl32
  rw [ByteArray.size_append, h, show a.size + 32 - 32 = a.size by omega]
  apply ByteArray.ext
  rw [ByteArray.data_extract, ByteArray.data_append]
  have e : a.data.toList.length = a.size := Array.length_toList
  have e2 : b.data.toList.length = 32 := Array.length_toList.trans h
  apply Array.toList_inj.1
  rw [← e, Array.toList_extract, Array.toList_append, List.extract_eq_take_drop, show a.data.toList.length + 32 - a.data.toList.length = 32 by omega, List.drop_left, ← e2, List.take_length]
theorem hd32_mint (K : ByteArray) (a b c d : Int) : hd32 (mint K a b c d) = cB a b c d := hd32_app (tag_size _ _)
theorem tl32_mint (K : ByteArray) (a b c d : Int) : tl32 (mint K a b c d) = tag K (cB a b c d) := tl32_app (tag_size _ _)

/-- The kind, and the number, of a value in a list. -/
def F.kd : F → Nat → Int
  | .nil, _ => 0
  | .cons k _ _ _ _, 0 => k
  | .cons _ _ _ _ r, i + 1 => r.kd i
def F.nb : F → Nat → Int
  | .nil, _ => 0
  | .cons _ n _ _ _, 0 => n
  | .cons _ _ _ _ r, i + 1 => r.nb i
/-- A value that is a list of four numbers, the first two not too great. -/
def okV (v : V) : Prop := v.k = 2 ∧ v.l.len = 4 ∧ (v.l.kd 0 = 0 ∧ 0 ≤ v.l.nb 0 ∧ v.l.nb 0 ≤ 2147483647) ∧ (v.l.kd 1 = 0 ∧ 0 ≤ v.l.nb 1 ∧ v.l.nb 1 ≤ 2147483647) ∧ v.l.kd 2 = 0 ∧ v.l.kd 3 = 0

open Classical in
/-- Which error a text has. -/
noncomputable def tkE (s : ByteArray) : Int := if s.size < 32 then 3 else match allR (hd32 s) with
  | .error e => e
  | .ok v => if okV v then 0 else 4
/-- The list that it holds. -/
def tkV (s : ByteArray) : F := match allR (hd32 s) with
  | .error _ => .nil
  | .ok v => v.l
/-- The numbers that are told of it; the tag. -/
noncomputable def tkN (s : ByteArray) (i : Nat) : Int := if tkE s = 0 then (tkV s).nb i else 0
noncomputable def tkT (s : ByteArray) : ByteArray := if tkE s = 0 then tl32 s else ⟨#[]⟩
theorem tk_none {s : ByteArray} (h : ¬ tkE s = 0) : tkT s = ⟨#[]⟩ ∧ ∀ i, tkN s i = 0 := ⟨if_neg h, fun _ => if_neg h⟩
theorem tk_short {s : ByteArray} (h : s.size < 32) : tkE s = 3 := if_pos h
theorem tk_err {s : ByteArray} {e : Int} (h : ¬ s.size < 32) (he : allR (hd32 s) = .error e) : tkE s = e := by
  unfold tkE
  rw [if_neg h, he]
theorem tk_form {s : ByteArray} {v : V} (h : ¬ s.size < 32) (he : allR (hd32 s) = .ok v) (hv : ¬ okV v) : tkE s = 4 := by
  unfold tkE
  rw [if_neg h, he]
  exact if_neg hv
theorem tk_ok {s : ByteArray} {v : V} (h : ¬ s.size < 32) (he : allR (hd32 s) = .ok v) (hv : okV v) : tkE s = 0 ∧ tkT s = tl32 s ∧ ∀ i, tkN s i = v.l.nb i := by
  have h0 : tkE s = 0 := by
    unfold tkE
    rw [if_neg h, he]
    exact if_pos hv
  refine ⟨h0, if_pos h0, fun i => ?_⟩
  unfold tkN tkV
  rw [if_pos h0, he]
theorem tk_long {s : ByteArray} (h : tkE s = 0) : ¬ s.size < 32 := fun c => by rw [tk_short c] at h; cases h
theorem tkT_size (s : ByteArray) : (tkT s).size ≤ 32 := by
  unfold tkT
  split
  · rename_i h
    rw [tl32_size (tk_long h)]
    exact Nat.le_refl _
  · exact Nat.zero_le _
theorem allR_code {s : ByteArray} {e : Int} (h : allR s = .error e) : e ≠ 0 := by
  unfold allR at h
  split at h
  · rename_i e2 h2
    cases h
    exact valR_code h2
  · split at h
    · cases h
    · cases h
      decide

/-- How a text is verified: the error; the numbers that are told. -/
noncomputable def vfE (K s : ByteArray) (now ep : Int) : Int := if ¬ tkE s = 0 then tkE s else if ¬ tkT s = tag K (hd32 s) then 20 else if tkN s 3 < now then 21 else if ¬ tkN s 2 = ep then 22 else 0
noncomputable def vfN (K s : ByteArray) (now ep : Int) (i : Nat) : Int := if vfE K s now ep = 0 then tkN s i else 0

section
variable {K s : ByteArray} {now ep : Int}
theorem vf_none (h : ¬ vfE K s now ep = 0) (i : Nat) : vfN K s now ep i = 0 := if_neg h
theorem vf_err (h : ¬ tkE s = 0) : vfE K s now ep = tkE s := if_pos h
theorem vf_tag (h : tkE s = 0) (h2 : ¬ tkT s = tag K (hd32 s)) : vfE K s now ep = 20 := by
  unfold vfE
  rw [if_neg (fun c => c h), if_pos h2]
theorem vf_late (h : tkE s = 0) (h2 : tkT s = tag K (hd32 s)) (h3 : tkN s 3 < now) : vfE K s now ep = 21 := by
  unfold vfE
  rw [if_neg (fun c => c h), if_neg (fun c => c h2), if_pos h3]
theorem vf_epoch (h : tkE s = 0) (h2 : tkT s = tag K (hd32 s)) (h3 : ¬ tkN s 3 < now) (h4 : ¬ tkN s 2 = ep) : vfE K s now ep = 22 := by
  unfold vfE
  rw [if_neg (fun c => c h), if_neg (fun c => c h2), if_neg h3, if_pos h4]
theorem vf_ok (h : tkE s = 0) (h2 : tkT s = tag K (hd32 s)) (h3 : ¬ tkN s 3 < now) (h4 : tkN s 2 = ep) : vfE K s now ep = 0 ∧ ∀ i, vfN K s now ep i = tkN s i := by
  have h0 : vfE K s now ep = 0 := by
    unfold vfE
    rw [if_neg (fun c => c h), if_neg (fun c => c h2), if_neg h3, if_neg (fun c => c h4)]
  exact ⟨h0, fun i => if_pos h0⟩
theorem vf_short (h : s.size < 32) : vfE K s now ep = 3 := by
  have e := tk_short h
  rw [vf_err (by rw [e]; decide), e]
end

section
variable {K : ByteArray} {a b c d : Int}
/-- Numbers that a token may have. -/
def Mt (a b c d : Int) : Prop := (0 ≤ a ∧ a ≤ 2147483647) ∧ (0 ≤ b ∧ b ≤ 2147483647) ∧ I6 c ∧ I6 d
theorem Mt.a6 (h : Mt a b c d) : I6 a := by obtain ⟨⟨h1, h2⟩, _⟩ := h; constructor <;> omega
theorem Mt.b6 (h : Mt a b c d) : I6 b := by obtain ⟨_, ⟨h1, h2⟩, _⟩ := h; constructor <;> omega
theorem Mt.read (h : Mt a b c d) : allR (cB a b c d) = .ok ⟨2, 0, ⟨#[]⟩, cF a b c d⟩ := cB_read h.a6 h.b6 h.2.2.1 h.2.2.2
theorem Mt.okV (h : Mt a b c d) : okV ⟨2, 0, ⟨#[]⟩, cF a b c d⟩ := ⟨rfl, rfl, ⟨rfl, h.1.1, h.1.2⟩, ⟨rfl, h.2.1.1, h.2.1.2⟩, rfl, rfl⟩
/-- What has the bytes of claims ahead of its last 32 is read as these. -/
theorem tk_claims (h : Mt a b c d) {s : ByteArray} (hs : ¬ s.size < 32) (hh : hd32 s = cB a b c d) : tkE s = 0 ∧ tkT s = tl32 s ∧ tkN s 0 = a ∧ tkN s 1 = b ∧ tkN s 2 = c ∧ tkN s 3 = d := by
  obtain ⟨e, t, n⟩ := tk_ok hs (by rw [hh]; exact h.read) h.okV
  exact ⟨e, t, n 0, n 1, n 2, n 3⟩
theorem tk_mint (h : Mt a b c d) : tkE (mint K a b c d) = 0 ∧ tkT (mint K a b c d) = tag K (cB a b c d) ∧ tkN (mint K a b c d) 0 = a ∧ tkN (mint K a b c d) 1 = b ∧ tkN (mint K a b c d) 2 = c ∧ tkN (mint K a b c d) 3 = d := by
  have h1 := tk_claims h (s := mint K a b c d) (by rw [mint_size]; omega) (hd32_mint K a b c d)
  rw [tl32_mint] at h1
  exact h1
theorem vf_mint (h : Mt a b c d) {now ep : Int} (h3 : ¬ d < now) (h4 : c = ep) : vfE K (mint K a b c d) now ep = 0 ∧ vfN K (mint K a b c d) now ep 0 = a ∧ vfN K (mint K a b c d) now ep 1 = b ∧ vfN K (mint K a b c d) now ep 2 = c ∧ vfN K (mint K a b c d) now ep 3 = d := by
  obtain ⟨e, t, n0, n1, n2, n3⟩ := tk_mint (K := K) h
  obtain ⟨x, y⟩ := vf_ok (K := K) (now := now) (ep := ep) e (by rw [t, hd32_mint]) (by rw [n3]; exact h3) (by rw [n2]; exact h4)
  exact ⟨x, by rw [y, n0], by rw [y, n1], by rw [y, n2], by rw [y, n3]⟩
theorem vf_mint_late (h : Mt a b c d) {now ep : Int} (h3 : d < now) : vfE K (mint K a b c d) now ep = 21 := by
  obtain ⟨e, t, n0, n1, n2, n3⟩ := tk_mint (K := K) h
  exact vf_late e (by rw [t, hd32_mint]) (by rw [n3]; exact h3)
theorem vf_mint_epoch (h : Mt a b c d) {now ep : Int} (h3 : ¬ d < now) (h4 : ¬ c = ep) : vfE K (mint K a b c d) now ep = 22 := by
  obtain ⟨e, t, n0, n1, n2, n3⟩ := tk_mint (K := K) h
  exact vf_epoch e (by rw [t, hd32_mint]) (by rw [n3]; exact h3) (by rw [n2]; exact h4)
/-- A token with another tag. -/
theorem vf_wrong (h : Mt a b c d) {now ep : Int} {t : ByteArray} (ht : t.size = 32) (hn : ¬ t = tag K (cB a b c d)) : vfE K (cB a b c d ++ t) now ep = 20 := by
  obtain ⟨e, t', _⟩ := tk_claims h (s := cB a b c d ++ t) (by rw [ByteArray.size_append, ht]; omega) (hd32_app ht)
  refine vf_tag e ?_
  rw [t', tl32_app ht, hd32_app ht]
  exact hn
end

end Go.Proofs.YtkelipedpjmmaaaDoor.M
