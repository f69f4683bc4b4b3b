/-
  Plain facts on roles and ops: who may ask for what ('al'), a role's ops as bits ('mk'), the least role of an op ('le'), the ops' names ('nm', 'fnd'). Nothing is asked but what each fact names.
-/
import Derived.Test.YtiiaceknhaimeaaDoorRows
namespace Go.Proofs.YtiiaceknhaimeaaDoor.M

/-- A role's ops, as bits, by the role's number. -/
def mkN (i : Nat) : Nat := [0, 1, 7, 31, 1023].getD i 0
def mk (r : Int) : Int := if r < 0 then 0 else (mkN r.toNat : Int)
/-- The least role that may ask for an op. -/
def le (o : Int) : Int := if o < 0 ∨ 10 ≤ o then 5 else if o = 0 then 1 else if o ≤ 2 then 2 else if o ≤ 4 then 3 else 4
/-- May the role ask for the op? -/
def al (r o : Int) : Bool := decide (le o ≤ r ∧ r ≤ 4)
/-- A bit of a number. -/
def bt (m : Int) (n : Nat) : Bool := m.toNat / 2 ^ n % 2 == 1

theorem mk_neg {r : Int} (h : r < 0) : mk r = 0 := if_pos h
theorem mk_nat (i : Nat) : mk (i : Int) = (mkN i : Int) := by
  unfold mk
  rw [if_neg (by omega)]
  rfl
theorem mkN_big {i : Nat} (h : 5 ≤ i) : mkN i = 0 := by
  unfold mkN
  rw [List.getD, List.getElem?_eq_none (by simpa using h)]
  rfl
theorem mk_big {r : Int} (h : 5 ≤ r) : mk r = 0 := by
  unfold mk
  rw [if_neg (by omega), mkN_big (by omega)]
  rfl
theorem mk_cases (r : Int) : ((r < 1 ∨ 4 < r) ∧ mk r = 0) ∨ (r = 1 ∧ mk r = 1) ∨ (r = 2 ∧ mk r = 7) ∨ (r = 3 ∧ mk r = 31) ∨ (r = 4 ∧ mk r = 1023) := by
  by_cases h0 : r < 0
  · exact .inl ⟨by omega, mk_neg h0⟩
  by_cases h5 : 5 ≤ r
  · exact .inl ⟨by omega, mk_big h5⟩
  obtain ⟨i, rfl⟩ : ∃ i : Nat, r = (i : Int) := ⟨r.toNat, by omega⟩
  have hi : i = 0 ∨ i = 1 ∨ i = 2 ∨ i = 3 ∨ i = 4 := by omega
  rcases hi with rfl | rfl | rfl | rfl | rfl
  · exact .inl ⟨by decide, rfl⟩
  · exact .inr (.inl ⟨rfl, rfl⟩)
  · exact .inr (.inr (.inl ⟨rfl, rfl⟩))
  · exact .inr (.inr (.inr (.inl ⟨rfl, rfl⟩)))
  · exact .inr (.inr (.inr (.inr ⟨rfl, rfl⟩)))
theorem le_lo (o : Int) : 1 ≤ le o := by unfold le; split <;> try split <;> try split <;> try split
                                         all_goals omega
theorem le_none {o : Int} (h : o < 0 ∨ 10 ≤ o) : le o = 5 := if_pos h
theorem al_none (r : Int) {o : Int} (h : o < 0 ∨ 10 ≤ o) : al r o = false := by
  unfold al
  rw [le_none h]
  exact decide_eq_false (by omega)
theorem al_bt (r : Int) (n : Nat) (hn : n < 10) : al r (n : Int) = bt (mk r) n := by
  have hn' : n = 0 ∨ n = 1 ∨ n = 2 ∨ n = 3 ∨ n = 4 ∨ n = 5 ∨ n = 6 ∨ n = 7 ∨ n = 8 ∨ n = 9 := by omega
  rcases mk_cases r with ⟨h, e⟩ | ⟨rfl, e⟩ | ⟨rfl, e⟩ | ⟨rfl, e⟩ | ⟨rfl, e⟩
  · rw [e]
    have h1 := le_lo (n : Int)
    have : al r (n : Int) = false := decide_eq_false (by omega)
    rw [this]
    rcases hn' with rfl | rfl | rfl | rfl | rfl | rfl | rfl | rfl | rfl | rfl <;> rfl
  all_goals
    rw [e]
    rcases hn' with rfl | rfl | rfl | rfl | rfl | rfl | rfl | rfl | rfl | rfl <;> decide

/-- The bits of the ops up to one; the bit of one. -/
def pm (r : Int) : Nat → Nat
  | 0 => 0
  | k + 1 => pm r k + if al r (k : Int) = true then 2 ^ k else 0
theorem pm_lt (r : Int) : ∀ k, pm r k < 2 ^ k
  | 0 => Nat.zero_lt_one
  | k + 1 => by
    have ih := pm_lt r k
    show pm r k + _ < 2 ^ (k + 1)
    rw [Nat.pow_succ]
    split <;> omega
theorem pm_end (r : Int) : (pm r 10 : Int) = mk r := by
  have e : ∀ k : Nat, k < 10 → al r ((k : Nat) : Int) = bt (mk r) k := fun k hk => al_bt r k hk
  simp only [pm, e 0 (by decide), e 1 (by decide), e 2 (by decide), e 3 (by decide), e 4 (by decide), e 5 (by decide), e 6 (by decide), e 7 (by decide), e 8 (by decide), e 9 (by decide)]
  rcases mk_cases r with ⟨_, e⟩ | ⟨_, e⟩ | ⟨_, e⟩ | ⟨_, e⟩ | ⟨_, e⟩ <;> rw [e] <;> decide

theorem al_ref (r o : Int) (h0 : ¬ o < 0) (h1 : ¬ 10 ≤ o) :
    al r o = if r = 1 then decide (o = 0) else if r = 2 then decide (o ≤ 2) else if r = 3 then decide (o ≤ 4) else decide (r = 4) := by
  obtain ⟨n, rfl⟩ : ∃ n : Nat, o = (n : Int) := ⟨o.toNat, by omega⟩
  have hn' : n = 0 ∨ n = 1 ∨ n = 2 ∨ n = 3 ∨ n = 4 ∨ n = 5 ∨ n = 6 ∨ n = 7 ∨ n = 8 ∨ n = 9 := by omega
  rcases mk_cases r with ⟨h, e⟩ | ⟨rfl, e⟩ | ⟨rfl, e⟩ | ⟨rfl, e⟩ | ⟨rfl, e⟩
  · have h1 := le_lo (n : Int)
    have : al r (n : Int) = false := decide_eq_false (by omega)
    rw [this, if_neg (by omega), if_neg (by omega), if_neg (by omega)]
    exact (decide_eq_false (by omega)).symm
  all_goals
    rcases hn' with rfl | rfl | rfl | rfl | rfl | rfl | rfl | rfl | rfl | rfl <;> decide

/-- Going up the roles: the first that may. -/
theorem le_at {r : Nat} {o : Int} (h : (r : Int) ≤ le o) (ha : al (r : Int) o = true) : le o = (r : Int) := by
  have := of_decide_eq_true ha
  omega
theorem le_up {r : Nat} {o : Int} (hr : r < 5) (h : (r : Int) ≤ le o) (ha : al (r : Int) o = false) : ((r + 1 : Nat) : Int) ≤ le o := by
  have := of_decide_eq_false ha
  omega
theorem le_hi (o : Int) : le o ≤ 5 := by unfold le; split <;> try split <;> try split <;> try split
                                         all_goals omega

/-- The ops' names. -/
def nms : List ByteArray := [⟨#[113, 117, 101, 114, 121]⟩, ⟨#[112, 111, 108, 108]⟩, ⟨#[99, 111, 109, 112, 108, 101, 116, 101]⟩, ⟨#[115, 116, 97, 114, 116]⟩, ⟨#[100, 101, 102, 105, 110, 101]⟩, ⟨#[109, 105, 110, 116]⟩, ⟨#[97, 115, 115, 105, 103, 110]⟩, ⟨#[114, 101, 118, 111, 107, 101]⟩, ⟨#[103, 114, 97, 110, 116]⟩, ⟨#[117, 110, 103, 114, 97, 110, 116]⟩]
def nm (i : Nat) : ByteArray := nms.getD i ⟨#[]⟩
def nmI (o : Int) : ByteArray := if o < 0 ∨ 10 ≤ o then ⟨#[]⟩ else nm o.toNat
theorem nmI_no {o : Int} (h : o < 0 ∨ 10 ≤ o) : nmI o = ⟨#[]⟩ := if_pos h
theorem nmI_nat {i : Nat} (h : i < 10) : nmI (i : Int) = nm i := by
  unfold nmI
  rw [if_neg (by omega)]
  rfl
/-- The op of a name: from a place on, so many are left. -/
def fnd (s : ByteArray) : Nat → Nat → Int × Bool
  | _, 0 => (0, false)
  | i, k + 1 => if nm i = s then ((i : Int), true) else fnd s (i + 1) k
theorem fnd_yes {s : ByteArray} {i k : Nat} (h : nm i = s) : fnd s i (k + 1) = ((i : Int), true) := if_pos h
theorem fnd_no {s : ByteArray} {i k : Nat} (h : ¬ nm i = s) : fnd s i (k + 1) = fnd s (i + 1) k := if_neg h

end Go.Proofs.YtiiaceknhaimeaaDoor.M
