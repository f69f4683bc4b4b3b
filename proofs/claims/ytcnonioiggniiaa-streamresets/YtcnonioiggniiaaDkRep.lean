/-
  How a disk lies in memory: the code's disk by its pointer ('DkL', 'DkAt'), what is kept from one world to the next ('Kept'), what a slice of numbers reads as ('KR'). Nothing is asked but what each fact names.
-/
import Derived.Test.YtcnonioiggniiaaRows
import Derived.Test.YtcnonioiggniiaaPa
import Derived.WalkKit
import Derived.ProofKit
import Derived.OpenShut
import Derived.WalkSpells
import Derived.Laws.CopyOwn
namespace Go.Proofs.Ytcnonioiggniiaa.Wd
open Go.ChangeShapes Go.WideShapes Go.ChangeAt Go.RowKit Go.Proofs.Ytcnonioiggniiaa.M

/-- Outside F nothing that was there has turned. -/
structure Kept (F : Nat → Prop) (w w' : World) : Prop where
  os : w'.os = w.os
  tape : w'.tape = w.tape
  output : w'.output = w.output
  size : w.heap.size ≤ w'.heap.size
  block : ∀ k, k < w.heap.size → ¬ F k → w'.heap[k]? = w.heap[k]?
/-- F, and what was made since. -/
def Gr (F : Nat → Prop) (w w' : World) : Nat → Prop := fun b => F b ∨ (w.heap.size ≤ b ∧ b < w'.heap.size)

theorem Kept.refl (F : Nat → Prop) (w : World) : Kept F w w := ⟨rfl, rfl, rfl, Nat.le_refl _, fun _ _ _ => rfl⟩
theorem Kept.trans {F : Nat → Prop} {a b c : World} (h : Kept F a b) (k : Kept (Gr F a b) b c) : Kept F a c :=
  ⟨k.os.trans h.os, k.tape.trans h.tape, k.output.trans h.output, Nat.le_trans h.size k.size, fun i hi hF =>
    (k.block i (Nat.lt_of_lt_of_le hi h.size) (fun e => e.elim hF fun e => by omega)).trans (h.block i hi hF)⟩
theorem Kept.mono {F G : Nat → Prop} {a b : World} (h : Kept F a b) (hG : ∀ i, i < a.heap.size → F i → G i) : Kept G a b :=
  ⟨h.os, h.tape, h.output, h.size, fun i hi hn => h.block i hi fun e => hn (hG i hi e)⟩
theorem Gr.trans {F : Nat → Prop} {a b c : World} (h1 : a.heap.size ≤ b.heap.size) (h2 : b.heap.size ≤ c.heap.size) : Gr (Gr F a b) b c = Gr F a c := by
  funext i
  apply propext
  unfold Gr
  constructor
  · rintro ((h | h) | h)
    · exact .inl h
    · exact .inr (by omega)
    · exact .inr (by omega)
  · rintro (h | h)
    · exact .inl (.inl h)
    · by_cases c : i < b.heap.size
      · exact .inl (.inr (by omega))
      · exact .inr (by omega)
theorem Gr.self (F : Nat → Prop) (a : World) : Gr F a a = F := by
  funext i
  apply propext
  unfold Gr
  constructor
  · rintro (h | h)
    · exact h
    · omega
  · exact .inl
theorem Kept.of_below {F : Nat → Prop} {w w' : World} (h : Below w.heap.size w w') : Kept F w w' := ⟨h.os, h.tape, h.output, h.size, fun k hk _ => h.block k hk⟩
theorem Kept.below {F : Nat → Prop} {w w' : World} {B : Nat} (h : Kept F w w') (hB : B ≤ w.heap.size) (hF : ∀ i, F i → B ≤ i) : Below B w w' :=
  ⟨h.os, h.tape, h.output, h.size, fun k hk => h.block k (by omega) fun e => by have := hF k e; omega⟩
theorem Kept.alloc (F : Nat → Prop) (w : World) (o : Obj) : Kept F w (w.alloc o) := .of_below ((Below.refl _ _).alloc (Nat.le_refl _) o)
theorem Kept.drew {F : Nat → Prop} {w w' : World} (h : Kept F w w') : Kept F w w'.drew := ⟨h.os, h.tape, h.output, h.size, h.block⟩
theorem Kept.setCell {F : Nat → Prop} {w w' : World} (h : Kept F w w') {p : Addr} (hp : F p.block) (u : Value) : Kept F w (w'.setCell p u) :=
  ⟨h.os, h.tape, h.output, by simpa [World.setCell] using h.size, fun k hk hF => (Below.heap_setCell _ _ _ _ (fun e => hF (by rw [e]; exact hp))).trans (h.block k hk hF)⟩
theorem Kept.setRow {F : Nat → Prop} {w w' : World} (h : Kept F w w') {g : Nat} (hp : F g) (cs : Array Value) : Kept F w (w'.setRow g cs) := by
  have hb := below_setRow (B := g) (Below.refl g w') (Nat.le_refl _) cs
  refine ⟨hb.os.trans h.os, hb.tape.trans h.tape, hb.output.trans h.output, Nat.le_trans h.size hb.size, fun k hk hF => ?_⟩
  rw [← h.block k hk hF]
  have hne : k ≠ g := fun e => hF (by rw [e]; exact hp)
  simp only [World.setRow, Array.getElem?_modify]
  rw [if_neg (by omega)]
/-- Blocks of unsigned numbers haven't turned. -/
def Nums (w w' : World) : Prop := ∀ (b : Nat) (cs : Array Value) (fr : Nat × Nat), w.heap[b]? = some (Obj.cells cs 30 fr) → w'.heap[b]? = w.heap[b]?
theorem Nums.refl (w : World) : Nums w w := fun _ _ _ _ => rfl
theorem Nums.trans {a b c : World} (h : Nums a b) (k : Nums b c) : Nums a c := fun i cs fr hi => (k i cs fr ((h i cs fr hi).trans hi)).trans (h i cs fr hi)
theorem Nums.of_below {w w' : World} (h : Below w.heap.size w w') : Nums w w' := fun b _ _ hb => h.block b (Array.getElem?_eq_some_iff.1 hb).1
theorem Nums.setCell {w : World} {p : Addr} {cs : Array Value} {t : TypeId} {fr : Nat × Nat} (h : w.heap[p.block]? = some (.cells cs t fr)) (ht : t ≠ 30) (v : Value) : Nums w (w.setCell p v) := fun b cs' fr' hb => Below.heap_setCell _ _ _ _ fun e => by
  rw [e, h] at hb
  simp at hb
  exact ht hb.2.1
theorem Nums.setRow {w : World} {g : Nat} {cs : Array Value} {t : TypeId} {fr : Nat × Nat} (h : w.heap[g]? = some (.cells cs t fr)) (ht : t ≠ 30) (c : Array Value) : Nums w (w.setRow g c) := fun b cs' fr' hb => by
  have e : b ≠ g := fun e => by
    rw [e, h] at hb
    simp at hb
    exact ht hb.2.1
  simp only [World.setRow, Array.getElem?_modify]
  rw [if_neg (by omega)]
theorem Kept.cell {F : Nat → Prop} {w w' : World} (h : Kept F w w') {p : Addr} (hp : p.block < w.heap.size) (hF : ¬ F p.block) : w'.cell? p = w.cell? p := World.cell?_of_block (w := w) (h.block p.block hp hF)

/-- A block's contents behind a store. -/
theorem blk_set {w : World} {g : Nat} {l : List Value} {t : TypeId} (h : w.heap[g]? = some (.cells l.toArray t (0, 0))) (i : Nat) (v : Value) : (w.setCell ⟨g, i, none⟩ v).heap[g]? = some (.cells (l.set i v).toArray t (0, 0)) := by
  simp only [World.setCell, Array.getElem?_modify]
  rw [if_pos trivial, h]
  simp
theorem blk_row {w : World} {g : Nat} {l : Array Value} {t : TypeId} (h : w.heap[g]? = some (.cells l t (0, 0))) (c : Array Value) : (w.setRow g c).heap[g]? = some (.cells c t (0, 0)) := by
  simp only [World.setRow, Array.getElem?_modify]
  rw [if_pos trivial, h]
  rfl
theorem blk_other {w : World} {g k : Nat} (h : k ≠ g) (c : Array Value) : (w.setRow g c).heap[k]? = w.heap[k]? := by
  simp only [World.setRow, Array.getElem?_modify]
  rw [if_neg (by omega)]
theorem blk_cell {w : World} {g : Nat} {l : List Value} {t : TypeId} (h : w.heap[g]? = some (.cells l.toArray t (0, 0))) {i : Nat} {v : Value} (hv : l[i]? = some v) : w.cell? ⟨g, i, none⟩ = some v := by
  simp [World.cell?, h, hv]
theorem blk_free {w : World} {g : Nat} {l : Array Value} {t : TypeId} (h : w.heap[g]? = some (.cells l t (0, 0))) (i : Nat) : w.frozen? ⟨g, i, none⟩ = false := by
  simp [World.frozen?, h]
theorem blk_lt {w : World} {g : Nat} {o : Obj} (h : w.heap[g]? = some o) : g < w.heap.size := (Array.getElem?_eq_some_iff.1 h).1

/-- A slice of numbers, for reading: what it lies in is told apart from F, or by its kind. -/
def KR (F : Nat → Prop) (w : World) (ao : Option Addr) (K : List Int) : Prop :=
  K = [] ∨ ∃ b o cs T fr, ao = some ⟨b, o, none⟩ ∧ w.heap[b]? = some (.cells cs T fr) ∧ (¬ F b ∨ T = 30) ∧ ∀ j, j < K.length → cs[o + j]? = some (.int .u64 (K.getD j 0))
theorem KR.kept {F : Nat → Prop} {w w' : World} {ao : Option Addr} {K : List Int} (h : KR F w ao K) (hk : ∀ (b : Nat) (cs : Array Value) (T : TypeId) (fr : Nat × Nat), w.heap[b]? = some (Obj.cells cs T fr) → (¬ F b ∨ T = 30) → w'.heap[b]? = w.heap[b]?) : KR F w' ao K := by
  rcases h with h | ⟨b, o, cs, T, fr, h1, h2, h3, h4⟩
  · exact .inl h
  · exact .inr ⟨b, o, cs, T, fr, h1, (hk b cs T fr h2 h3).trans h2, h3, h4⟩
theorem KR.step {F : Nat → Prop} {w w' : World} {ao : Option Addr} {K : List Int} (h : KR F w ao K) (hk : Kept F w w') (hn : Nums w w') : KR F w' ao K :=
  h.kept fun b cs T fr hb hT => by
    rcases hT with hT | rfl
    · exact hk.block b (Array.getElem?_eq_some_iff.1 hb).1 hT
    · exact hn b cs fr hb
theorem KR.grow {F G : Nat → Prop} {w : World} {ao : Option Addr} {K : List Int} (h : KR F w ao K) (hG : ∀ b, b < w.heap.size → G b → F b) : KR G w ao K := by
  rcases h with h | ⟨b, o, cs, T, fr, h1, h2, h3, h4⟩
  · exact .inl h
  · exact .inr ⟨b, o, cs, T, fr, h1, h2, h3.imp (fun x y => x (hG b (Array.getElem?_eq_some_iff.1 h2).1 y)) id, h4⟩
theorem KR.cell {F : Nat → Prop} {w : World} {ao : Option Addr} {K : List Int} (h : KR F w ao K) {j : Nat} (hj : j < K.length) : ∃ b o, ao = some ⟨b, o, none⟩ ∧ w.cell? ⟨b, o + j, none⟩ = some (.int .u64 (K.getD j 0)) := by
  rcases h with h | ⟨b, o, cs, T, fr, h1, h2, h3, h4⟩
  · subst h; simp at hj
  · exact ⟨b, o, h1, by simp [World.cell?, h2, h4 j hj]⟩

/-- The numbers that a disk has asked with lie in a block of its own. -/
def KO (F : Nat → Prop) (w : World) (ao : Option Addr) (K : List Int) : Prop :=
  K = [] ∨ ∃ b o cs fr, ao = some ⟨b, o, none⟩ ∧ w.heap[b]? = some (.cells cs 30 fr) ∧ F b ∧ ∀ j, j < K.length → cs[o + j]? = some (.int .u64 (K.getD j 0))
theorem KO.kr {F : Nat → Prop} {w : World} {ao : Option Addr} {K : List Int} (h : KO F w ao K) : KR F w ao K := by
  rcases h with h | ⟨b, o, cs, fr, h1, h2, h3, h4⟩
  · exact .inl h
  · exact .inr ⟨b, o, cs, _, fr, h1, h2, .inr rfl, h4⟩
theorem KO.kept {F G : Nat → Prop} {w w' : World} {ao : Option Addr} {K : List Int} (h : KO F w ao K) (hk : ∀ (b : Nat) (cs : Array Value) (fr : Nat × Nat), w.heap[b]? = some (Obj.cells cs 30 fr) → F b → w'.heap[b]? = w.heap[b]?) (hG : ∀ b, F b → G b) : KO G w' ao K := by
  rcases h with h | ⟨b, o, cs, fr, h1, h2, h3, h4⟩
  · exact .inl h
  · exact .inr ⟨b, o, cs, fr, h1, (hk b cs fr h2 h3).trans h2, hG b h3, h4⟩

/-- Where a disk's parts lie: the row of its regions and its room, each region's lasting bytes, each queue and its room; the numbers asked with. -/
structure Ly where
  R : Nat
  rc : Nat
  lb : Nat → Nat
  qb : Nat → Nat
  qm : Nat → Nat
  ka : Option Addr
  kc : Nat

def pt (n b : Nat) : Option Addr := if n = 0 then none else some ⟨b, 0, none⟩
def cp (n c : Nat) : Nat := if n = 0 then 0 else c
theorem pt_pos {n : Nat} (b : Nat) (h : 0 < n) : pt n b = some ⟨b, 0, none⟩ := if_neg (by omega)
theorem pt_zero (b : Nat) : pt 0 b = none := rfl
theorem cp_pos {n : Nat} (c : Nat) (h : 0 < n) : cp n c = c := if_neg (by omega)

/-- The value of a queue. -/
def qv (q : List (Nat × ByteArray)) (b c : Nat) : Value := .slice (pt q.length b) q.length (cp q.length c)
/-- The value of lasting bytes. -/
def lv (n b : Nat) : Value := .slice (some ⟨b, 0, none⟩) (64 * n) (64 * n)

/-- The code's disk in memory. -/
structure DkL (w : World) (D : Nat) (d : Dk) (F : Nat → Prop) (L : Ly) : Prop where
  dk : w.heap[D]? = some (.cells #[.slice (pt d.k L.R) d.k (cp d.k L.rc), .bool d.off, .int .i64 (aR d.ask), .int .i64 (aL d.ask), .slice L.ka (aK d.ask).length L.kc] 66 (0, 0))
  rows : 0 < d.k → ∃ l : List Value, w.heap[L.R]? = some (.cells l.toArray 70 (0, 0)) ∧ l.length = L.rc * 2 ∧ d.k ≤ L.rc ∧ ∀ i, i < d.k → l[i * 2]? = some (lv (d.r i).n (L.lb i)) ∧ l[i * 2 + 1]? = some (qv (d.r i).q (L.qb i) (L.qm i))
  lb : ∀ i, i < d.k → w.heap[L.lb i]? = some (.cells (lc (d.r i).s (d.r i).n).toArray 5 (0, 0))
  qb : ∀ i, i < d.k → 0 < (d.r i).q.length → ∃ l : List Value, w.heap[L.qb i]? = some (.cells l.toArray 143 (0, 0)) ∧ l.length = L.qm i * 65 ∧ (d.r i).q.length ≤ L.qm i ∧ L.qm i ≤ maxLen ∧ l.take ((d.r i).q.length * 65) = qc (d.r i).q
  injl : ∀ i j, i < d.k → j < d.k → L.lb i = L.lb j → i = j
  injq : ∀ i j, i < d.k → j < d.k → 0 < (d.r i).q.length → 0 < (d.r j).q.length → L.qb i = L.qb j → i = j
  kr : KO F w L.ka (aK d.ask)
  ownD : F D
  ownR : 0 < d.k → F L.R
  ownl : ∀ i, i < d.k → F (L.lb i)
  ownq : ∀ i, i < d.k → 0 < (d.r i).q.length → F (L.qb i)
  lt : ∀ b, F b → b < w.heap.size
  ok : d.ok

def DkAt (w : World) (D : Nat) (d : Dk) (F : Nat → Prop) : Prop := ∃ L, DkL w D d F L

theorem lb_ne_R {w : World} {D : Nat} {d : Dk} {F : Nat → Prop} {L : Ly} (h : DkL w D d F L) {i : Nat} (hi : i < d.k) : L.lb i ≠ L.R := fun e => by
  obtain ⟨l, h1, _⟩ := h.rows (by omega)
  have h2 := h.lb i hi
  rw [e, h1] at h2
  simp at h2

/-- A region whose lasting bytes have turned, and whose queue is empty now. -/
theorem DkL.reset {w w1 : World} {D : Nat} {d : Dk} {F : Nat → Prop} {L : Ly} (h : DkL w D d F L) {i : Nat} (hi : i < d.k) {s : Nat → ByteArray} (hs : w1.heap.size = w.heap.size)
    (hb : w1.heap[L.lb i]? = some (.cells (lc s (d.r i).n).toArray 5 (0, 0))) (hk : ∀ b, b ≠ L.lb i → w1.heap[b]? = w.heap[b]?) (hok : ∀ k, (s k).size = 64) :
    DkL (w1.setCell ⟨L.R, i * 2 + 1, none⟩ (.slice none 0 0)) D (d.at i { n := (d.r i).n, s := s, q := [] }) F L := by
  have hbR : ∀ b, b ≠ L.R → (w1.setCell ⟨L.R, i * 2 + 1, none⟩ (.slice none 0 0)).heap[b]? = w1.heap[b]? := fun b hb => Below.heap_setCell _ _ _ _ hb
  have hr : ∀ j, j ≠ i → (d.at i { n := (d.r i).n, s := s, q := [] }).r j = d.r j := fun j hj => upd_off _ _ hj
  have hri : (d.at i { n := (d.r i).n, s := s, q := [] }).r i = { n := (d.r i).n, s := s, q := [] } := upd_at _ _ _
  obtain ⟨l, g1, g2, g3, g4⟩ := h.rows (by omega)
  have ne1 := lb_ne_R h hi
  have g1' := (hk L.R (fun e => ne1 e.symm)).trans g1
  have hkn : ∀ (b : Nat) (cs : Array Value) (T : TypeId) (fr : Nat × Nat), w.heap[b]? = some (Obj.cells cs T fr) → T ≠ 5 → T ≠ 70 → (w1.setCell ⟨L.R, i * 2 + 1, none⟩ (.slice none 0 0)).heap[b]? = w.heap[b]? := fun b cs T fr h1 h2 h3 => by
    rw [hbR b (fun e => by rw [e, g1] at h1; simp at h1; exact h3 h1.2.1.symm), hk b (fun e => by rw [e, h.lb i hi] at h1; simp at h1; exact h2 h1.2.1.symm)]
  refine ⟨?_, ?_, ?_, ?_, h.injl, ?_, ?_, h.ownD, h.ownR, h.ownl, ?_, ?_, Dk.at_ok h.ok i ⟨(h.ok.r i hi).n, hok, fun x hx => by cases hx⟩⟩
  · exact (hkn D _ _ _ h.dk (by decide) (by decide)).trans h.dk
  · intro _
    refine ⟨l.set (i * 2 + 1) (.slice none 0 0), blk_set g1' _ _, by rw [List.length_set]; exact g2, g3, fun j hj => ?_⟩
    by_cases c : j = i
    · subst c
      rw [hri]
      refine ⟨?_, ?_⟩
      · rw [List.getElem?_set_ne (by omega)]
        exact (g4 j hj).1
      · have hj' : j < d.k := hj
        rw [List.getElem?_set_self (by omega)]
        rfl
    · rw [hr j c, List.getElem?_set_ne (by omega), List.getElem?_set_ne (by omega)]
      exact g4 j hj
  · intro j hj
    by_cases c : j = i
    · subst c
      rw [hri, hbR _ ne1]
      exact hb
    · rw [hr j c, hbR _ (lb_ne_R h hj), hk _ (fun e => c (h.injl j i hj hi e))]
      exact h.lb j hj
  · intro j hj hq
    by_cases c : j = i
    · subst c
      rw [hri] at hq
      exact absurd hq (by simp)
    · rw [hr j c] at hq ⊢
      obtain ⟨l', k1, k2⟩ := h.qb j hj hq
      exact ⟨l', (hkn _ _ _ _ k1 (by decide) (by decide)).trans k1, k2⟩
  · intro a b ha hb' hqa hqb e
    by_cases c1 : a = i
    · subst c1; rw [hri] at hqa; exact absurd hqa (by simp)
    · by_cases c2 : b = i
      · subst c2; rw [hri] at hqb; exact absurd hqb (by simp)
      · rw [hr a c1] at hqa
        rw [hr b c2] at hqb
        exact h.injq a b ha hb' hqa hqb e
  · exact h.kr.kept (fun b cs fr h1 _ => hkn b cs _ fr h1 (by decide) (by decide)) fun _ hb => hb
  · intro j hj hq
    by_cases c : j = i
    · subst c; rw [hri] at hq; exact absurd hq (by simp)
    · rw [hr j c] at hq
      exact h.ownq j hj hq
  · intro b hb'
    have := h.lt b hb'
    simp [World.setCell]
    omega

/-- A disk is as it was where nothing of it has turned. -/
theorem DkL.kept {w w' : World} {D : Nat} {d : Dk} {F : Nat → Prop} {L : Ly} (h : DkL w D d F L) (hs : w.heap.size ≤ w'.heap.size) (hk : ∀ b, F b → w'.heap[b]? = w.heap[b]?) : DkL w' D d F L where
  dk := (hk _ h.ownD).trans h.dk
  rows := fun hp => by
    obtain ⟨l, h1, h2⟩ := h.rows hp
    exact ⟨l, (hk _ (h.ownR hp)).trans h1, h2⟩
  lb := fun i hi => (hk _ (h.ownl i hi)).trans (h.lb i hi)
  qb := fun i hi hq => by
    obtain ⟨l, h1, h2⟩ := h.qb i hi hq
    exact ⟨l, (hk _ (h.ownq i hi hq)).trans h1, h2⟩
  injl := h.injl
  injq := h.injq
  kr := h.kr.kept (fun b _ _ _ hb => hk b hb) fun _ hb => hb
  ownD := h.ownD
  ownR := h.ownR
  ownl := h.ownl
  ownq := h.ownq
  lt := fun b hb => Nat.lt_of_lt_of_le (h.lt b hb) hs
  ok := h.ok

/-- The same with more memory counted as its own. -/
theorem DkL.more {w : World} {D : Nat} {d : Dk} {F G : Nat → Prop} {L : Ly} (h : DkL w D d F L) (hFG : ∀ b, F b → G b) (hlt : ∀ b, G b → b < w.heap.size) : DkL w D d G L where
  dk := h.dk
  rows := h.rows
  lb := h.lb
  qb := h.qb
  injl := h.injl
  injq := h.injq
  kr := h.kr.kept (fun _ _ _ _ _ => rfl) hFG
  ownD := hFG _ h.ownD
  ownR := fun hp => hFG _ (h.ownR hp)
  ownl := fun i hi => hFG _ (h.ownl i hi)
  ownq := fun i hi hq => hFG _ (h.ownq i hi hq)
  lt := hlt
  ok := h.ok

end Go.Proofs.Ytcnonioiggniiaa.Wd
