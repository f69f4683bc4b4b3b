/-
  Plain facts on grants: names ('nmC', 'nmd'), a grant as a caller and a flow ('Ky'), their order ('kcf', 'kLt'), a table as a rising list ('ins', 'addE', 'addL', 'dropE', 'dropL'). Nothing is asked but what each fact names.
-/
import Derived.Test.YtpbbamoeaalolaaRows
import Derived.Lib.Bytealg
import Derived.Lib.Small
namespace Go.Proofs.Ytpbbamoeaalolaa.M

/-- A letter a to z, or a digit. -/
def nmC (c : UInt8) : Bool := decide ((97 ≤ c.toNat ∧ c.toNat ≤ 122) ∨ (48 ≤ c.toNat ∧ c.toNat ≤ 57))
/-- Is it a name? -/
def nmd (s : ByteArray) : Bool := decide (1 ≤ s.size ∧ s.size ≤ 16 ∧ ∀ i (h : i < s.size), nmC s[i] = true)
theorem nmd_iff {s : ByteArray} : nmd s = true ↔ 1 ≤ s.size ∧ s.size ≤ 16 ∧ ∀ i (h : i < s.size), nmC s[i] = true := by
  unfold nmd
  exact decide_eq_true_iff
theorem nmd_size {s : ByteArray} (h : s.size < 1 ∨ 16 < s.size) : nmd s = false := by
  unfold nmd
  exact decide_eq_false fun e => by omega
theorem nmd_bad {s : ByteArray} {i : Nat} (h : i < s.size) (hc : nmC s[i] = false) : nmd s = false := by
  unfold nmd
  refine decide_eq_false fun e => ?_
  rw [e.2.2 i h] at hc
  cases hc
theorem nmC_lit {c : UInt8} (h : nmC c = true) : c.toNat < 128 := by
  have := of_decide_eq_true h
  omega

/-! ### the order -/
/-- A grant: who may call what. -/
abbrev Ky := Int × ByteArray
instance kyDec : DecidableEq Ky := fun a b => if h : a.1 = b.1 ∧ a.2.data.toList = b.2.data.toList then .isTrue (Prod.ext h.1 (ByteArray.ext (Array.toList_inj.1 h.2))) else .isFalse fun e => h ⟨by rw [e], by rw [e]⟩
instance kyMem (k : Ky) (L : List Ky) : Decidable (k ∈ L) := decidable_of_iff (L.any (fun x => decide (x = k)) = true) (by rw [List.any_eq_true]; exact ⟨fun ⟨x, hx, h⟩ => by have := of_decide_eq_true h; exact this ▸ hx, fun h => ⟨k, h, decide_eq_true rfl⟩⟩)
/-- How two texts stand to one another. -/
def bLt (a b : ByteArray) : Bool := Op.bytesLess a.toList b.toList
def kLt (x y : Ky) : Bool := decide (x.1 < y.1) || (decide (x.1 = y.1) && bLt x.2 y.2)
def kcf (x y : Ky) : Int := if Lib.compareInt x.1 y.1 = 0 then Lib.compareBytes x.2.data.toList y.2.data.toList else Lib.compareInt x.1 y.1

theorem toList_data (s : ByteArray) : s.toList = s.data.toList := ByteArray.toList_eq s
theorem data_inj {a b : ByteArray} (h : a.data.toList = b.data.toList) : a = b := by
  obtain ⟨⟨x⟩⟩ := a
  obtain ⟨⟨y⟩⟩ := b
  simp only at h
  rw [h]
theorem u8_lt {a b : UInt8} : a < b ↔ a.toNat < b.toNat := UInt8.lt_iff_toNat_lt
theorem bl_irrefl : ∀ a : List UInt8, Op.bytesLess a a = false
  | [] => rfl
  | a :: x => by
    have := bl_irrefl x
    unfold Op.bytesLess
    simp [this]
theorem bl_trans : ∀ a b c : List UInt8, Op.bytesLess a b = true → Op.bytesLess b c = true → Op.bytesLess a c = true
  | _, [], _, h, _ => by cases ‹List UInt8› <;> simp [Op.bytesLess] at h
  | _, b :: y, [], _, h => by simp [Op.bytesLess] at h
  | [], b :: y, c :: z, _, _ => rfl
  | a :: x, b :: y, c :: z, h1, h2 => by
    unfold Op.bytesLess at h1 h2 ⊢
    simp only [Bool.or_eq_true, Bool.and_eq_true, decide_eq_true_eq, beq_iff_eq, u8_lt] at h1 h2 ⊢
    rcases h1 with h1 | ⟨rfl, h1⟩
    · rcases h2 with h2 | ⟨rfl, h2⟩
      · exact .inl (by omega)
      · exact .inl h1
    · rcases h2 with h2 | ⟨rfl, h2⟩
      · exact .inl h2
      · exact .inr ⟨rfl, bl_trans x y z h1 h2⟩
theorem bl_tri : ∀ a b : List UInt8, Op.bytesLess a b = false → Op.bytesLess b a = false → a = b
  | [], [], _, _ => rfl
  | [], b :: y, h, _ => by simp [Op.bytesLess] at h
  | a :: x, [], _, h => by simp [Op.bytesLess] at h
  | a :: x, b :: y, h1, h2 => by
    unfold Op.bytesLess at h1 h2
    simp only [Bool.or_eq_false_iff, Bool.and_eq_false_iff, decide_eq_false_iff_not, beq_eq_false_iff_ne, u8_lt] at h1 h2
    have e : a = b := UInt8.toNat_inj.1 (by omega)
    subst e
    rcases h1.2 with h | h
    · exact absurd rfl h
    · rcases h2.2 with h' | h'
      · exact absurd rfl h'
      · rw [bl_tri x y h h']
theorem cmp_bl : ∀ a b : List UInt8, (Lib.compareBytes a b < 0 ↔ Op.bytesLess a b = true) ∧ (Lib.compareBytes a b = 0 ↔ a = b)
  | [], [] => by simp [Lib.compareBytes, Op.bytesLess]
  | [], b :: y => by simp [Lib.compareBytes, Op.bytesLess]
  | a :: x, [] => by simp [Lib.compareBytes, Op.bytesLess]
  | a :: x, b :: y => by
    have ih := cmp_bl x y
    unfold Lib.compareBytes Op.bytesLess
    by_cases h1 : a < b
    · have hne : a ≠ b := by rintro rfl; rw [u8_lt] at h1; omega
      simp [h1, hne]
    · by_cases h2 : b < a
      · have hne : a ≠ b := by rintro rfl; rw [u8_lt] at h2; omega
        simp [h1, h2, hne]
      · have e : a = b := UInt8.toNat_inj.1 (by rw [u8_lt] at h1 h2; omega)
        subst e
        simpa [h1] using ih
theorem cmpInt_lt (x y : Int) : (Lib.compareInt x y < 0 ↔ x < y) ∧ (Lib.compareInt x y = 0 ↔ x = y) := by
  unfold Lib.compareInt
  split
  · exact ⟨by omega, by omega⟩
  · split
    · exact ⟨by omega, by omega⟩
    · exact ⟨by omega, by omega⟩
theorem kcf_lt (x y : Ky) : decide (kcf x y < 0) = kLt x y := by
  unfold kcf kLt bLt
  have h := cmpInt_lt x.1 y.1
  have g := cmp_bl x.2.data.toList y.2.data.toList
  rw [toList_data, toList_data]
  rw [Bool.eq_iff_iff]
  simp only [decide_eq_true_eq, Bool.or_eq_true, Bool.and_eq_true]
  by_cases e : Lib.compareInt x.1 y.1 = 0
  · rw [if_pos e, g.1]
    have := h.2.1 e
    constructor
    · intro h'; exact .inr ⟨this, h'⟩
    · rintro (h' | ⟨_, h'⟩)
      · omega
      · exact h'
  · rw [if_neg e, h.1]
    constructor
    · intro h'; exact .inl h'
    · rintro (h' | ⟨h', _⟩)
      · exact h'
      · exact absurd (h.2.2 h') e
theorem kLt_irrefl (x : Ky) : kLt x x = false := by
  unfold kLt bLt
  simp [bl_irrefl]
theorem kLt_trans {x y z : Ky} (h1 : kLt x y = true) (h2 : kLt y z = true) : kLt x z = true := by
  unfold kLt bLt at *
  simp only [decide_eq_true_eq, Bool.or_eq_true, Bool.and_eq_true] at *
  rcases h1 with h1 | ⟨e1, h1⟩
  · rcases h2 with h2 | ⟨e2, _⟩
    · exact .inl (by omega)
    · exact .inl (by omega)
  · rcases h2 with h2 | ⟨e2, h2⟩
    · exact .inl (by omega)
    · exact .inr ⟨by omega, bl_trans _ _ _ h1 h2⟩
theorem kLt_tri {x y : Ky} (h1 : kLt x y = false) (h2 : kLt y x = false) : x = y := by
  unfold kLt bLt at *
  simp only [decide_eq_false_iff_not, Bool.or_eq_false_iff, Bool.and_eq_false_iff] at *
  have e : x.1 = y.1 := by omega
  rw [toList_data, toList_data] at h1 h2
  have e2 := bl_tri x.2.data.toList y.2.data.toList (by rcases h1.2 with h | h; exact absurd e h; exact h) (by rcases h2.2 with h | h; exact absurd e.symm h; exact h)
  exact Prod.ext e (data_inj e2)
theorem kLt_asymm {x y : Ky} (h : kLt x y = true) : kLt y x = false := by
  cases h' : kLt y x
  · rfl
  · have := kLt_trans h h'
    rw [kLt_irrefl] at this
    cases this

/-! ### tables -/
def Rsg (L : List Ky) : Prop := L.Pairwise fun x y => kLt x y = true
/-- One more, in its place. -/
def ins (k : Ky) : List Ky → List Ky
  | [] => [k]
  | x :: r => if kLt k x then k :: x :: r else x :: ins k r
theorem mem_ins {k x : Ky} : ∀ {L : List Ky}, x ∈ ins k L ↔ x = k ∨ x ∈ L
  | [] => by simp [ins]
  | y :: r => by
    unfold ins
    split
    · simp
    · simp only [List.mem_cons, mem_ins (L := r)]
      constructor <;> rintro (h | h | h) <;> simp [h]
theorem length_ins (k : Ky) : ∀ L : List Ky, (ins k L).length = L.length + 1
  | [] => rfl
  | y :: r => by
    unfold ins
    split
    · rfl
    · simp [length_ins k r]
theorem rsg_ins {k : Ky} : ∀ {L : List Ky}, Rsg L → k ∉ L → Rsg (ins k L)
  | [], _, _ => List.pairwise_singleton _ _
  | y :: r, h, hk => by
    obtain ⟨h1, h2⟩ := List.pairwise_cons.1 h
    have hne : k ≠ y := fun e => hk (by simp [e])
    have hr : k ∉ r := fun e => hk (by simp [e])
    unfold ins
    split
    · rename_i hb
      refine List.pairwise_cons.2 ⟨fun q hq => ?_, h⟩
      rcases List.mem_cons.1 hq with rfl | hq
      · exact hb
      · exact kLt_trans hb (h1 q hq)
    · rename_i hb
      have hyk : kLt y k = true := by
        cases e : kLt y k
        · exact absurd (kLt_tri (by simpa using hb) e) hne
        · rfl
      refine List.pairwise_cons.2 ⟨fun q hq => ?_, rsg_ins h2 hr⟩
      rcases mem_ins.1 hq with rfl | hq
      · exact hyk
      · exact h1 q hq
theorem rsg_nodup {L : List Ky} (h : Rsg L) : L.Nodup := h.imp fun {a b} hab => by
  rintro rfl
  rw [kLt_irrefl] at hab
  cases hab
theorem rsg_filter {L : List Ky} (h : Rsg L) (p : Ky → Bool) : Rsg (L.filter p) := h.filter p
/-- Two rising lists with the same members are one. -/
theorem rsg_ext : ∀ {L M : List Ky}, Rsg L → Rsg M → (∀ x, x ∈ L ↔ x ∈ M) → L = M
  | [], [], _, _, _ => rfl
  | [], y :: M, _, _, h => absurd ((h y).2 (by simp)) (by simp)
  | x :: L, [], _, _, h => absurd ((h x).1 (by simp)) (by simp)
  | x :: L, y :: M, h1, h2, h => by
    obtain ⟨a1, a2⟩ := List.pairwise_cons.1 h1
    obtain ⟨b1, b2⟩ := List.pairwise_cons.1 h2
    have e : x = y := by
      rcases List.mem_cons.1 ((h x).1 (by simp)) with e | e
      · exact e
      · rcases List.mem_cons.1 ((h y).2 (by simp)) with e' | e'
        · exact e'.symm
        · have c1 := b1 x e
          have c2 := a1 y e'
          rw [kLt_asymm c1] at c2
          cases c2
    subst e
    congr 1
    refine rsg_ext a2 b2 fun z => ?_
    have nx : x ∉ L := fun e => by have := a1 x e; rw [kLt_irrefl] at this; cases this
    have ny : x ∉ M := fun e => by have := b1 x e; rw [kLt_irrefl] at this; cases this
    constructor
    · intro hz
      rcases List.mem_cons.1 ((h z).1 (by simp [hz])) with e | e
      · rw [e] at hz; exact absurd hz nx
      · exact e
    · intro hz
      rcases List.mem_cons.1 ((h z).2 (by simp [hz])) with e | e
      · rw [e] at hz; exact absurd hz ny
      · exact e

/-- What Add answers, and what is there then. -/
def addE (k : Ky) (L : List Ky) : Int :=
  if k.1 < 0 ∨ 8 ≤ k.1 then 2 else if nmd k.2 = false then 30 else if k ∈ L then 34 else if 16 ≤ L.length then 35 else 0
def addL (k : Ky) (L : List Ky) : List Ky := if addE k L = 0 then ins k L else L
def dropE (k : Ky) (L : List Ky) : Int := if k ∈ L then 0 else 13
def dropL (k : Ky) (L : List Ky) : List Ky := L.filter fun x => decide (x ≠ k)
theorem addE_0 {k : Ky} {L : List Ky} : addE k L = 0 ↔ (0 ≤ k.1 ∧ k.1 < 8) ∧ nmd k.2 = true ∧ k ∉ L ∧ L.length < 16 := by
  unfold addE
  split
  · exact ⟨fun h => absurd h (by decide), fun h => by omega⟩
  · split
    · rename_i h; exact ⟨fun h => absurd h (by decide), fun h' => by rw [h] at h'; exact absurd h'.2.1 (by decide)⟩
    · split
      · rename_i h; exact ⟨fun h => absurd h (by decide), fun h' => absurd h h'.2.2.1⟩
      · split
        · exact ⟨fun h => absurd h (by decide), fun h' => by omega⟩
        · rename_i h1 h2 h3 h4
          exact ⟨fun _ => ⟨by omega, by simpa using h2, h3, by omega⟩, fun _ => rfl⟩
/-- What a table holds is told of all its grants. -/
structure Tbl (L : List Ky) : Prop where
  rsg : Rsg L
  len : L.length ≤ 16
  key : ∀ k ∈ L, (0 ≤ k.1 ∧ k.1 < 8) ∧ nmd k.2 = true
theorem tbl_nil : Tbl [] := ⟨List.Pairwise.nil, by decide, by simp⟩
theorem Tbl.add {L : List Ky} (h : Tbl L) (k : Ky) : Tbl (addL k L) := by
  unfold addL
  split
  · rename_i e
    obtain ⟨e1, e2, e3, e4⟩ := addE_0.1 e
    refine ⟨rsg_ins h.rsg e3, by rw [length_ins]; omega, fun x hx => ?_⟩
    rcases mem_ins.1 hx with rfl | hx
    · exact ⟨e1, e2⟩
    · exact h.key x hx
  · exact h
theorem Tbl.drop {L : List Ky} (h : Tbl L) (k : Ky) : Tbl (dropL k L) :=
  ⟨rsg_filter h.rsg _, Nat.le_trans (List.length_filter_le _ _) h.len, fun x hx => h.key x (List.mem_filter.1 hx).1⟩
theorem dropL_none {k : Ky} {L : List Ky} (h : k ∉ L) : dropL k L = L := List.filter_eq_self.2 fun _ hx => decide_eq_true fun e => h (e ▸ hx)
theorem mem_dropL {k x : Ky} {L : List Ky} : x ∈ dropL k L ↔ x ∈ L ∧ x ≠ k := by
  unfold dropL
  rw [List.mem_filter]
  simp

end Go.Proofs.Ytpbbamoeaalolaa.M
