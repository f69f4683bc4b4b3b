/-
  Several texts in one. How a disk lies in memory: the code's disk by its pointer ('DkL', 'DkAt'), what is kept from one world to the next ('Kept'), what a slice of numbers reads as ('KR'). Nothing is asked but what each fact names. The walks of the disk's small readers: find, sectors, at, Sectors. Each answers what the disk as plain data says, and leaves memory as it is. The walks of a region's read, settle and lay: read answers what the region as plain data says; settle lays the writes that are kept over what lasts; lay lays a text. The rest of the disk is as it was. The walks of the functions that tell which writes are kept: all, none, or those whose bits are set. The walk of a region's settle: the writes that are kept are laid over what lasts, in order; the queue is empty. The rest of the disk is as it was.
-/
import Derived.Test.YtaojoecmbgmhoaaRows
import Derived.Test.YtaojoecmbgmhoaaPa
import Derived.WalkKit
import Derived.ProofKit
import Derived.OpenShut
import Derived.WalkSpells
import Derived.Laws.CopyOwn
import Derived.Deep.RegionWith
import Derived.Deep.QuietTactic
import Derived.BigRegion
namespace Go.Proofs.Ytaojoecmbgmhoaa.Wd
open Go.ChangeShapes Go.WideShapes Go.ChangeAt Go.RowKit Go.Proofs.Ytaojoecmbgmhoaa.M

/-- Outside F nothing that was there has turned. -/
structure Kept (F : Nat → Prop) (w w' : World) : Prop where
  os : w'.os = w.os
  tape : w'.tape = w.tape
  output : w'.output = w.output
  size : w.heap.size ≤ w'.heap.size
  block : ∀ k, k < w.heap.size → ¬ F k → w'.heap[k]? = w.heap[k]?
/-- F, and what was made since. -/
def Gr (F : Nat → Prop) (w w' : World) : Nat → Prop := fun b => F b ∨ (w.heap.size ≤ b ∧ b < w'.heap.size)

theorem Kept.refl (F : Nat → Prop) (w : World) : Kept F w w := ⟨rfl, rfl, rfl, Nat.le_refl _, fun _ _ _ => rfl⟩
theorem Kept.trans {F : Nat → Prop} {a b c : World} (h : Kept F a b) (k : Kept (Gr F a b) b c) : Kept F a c :=
  ⟨k.os.trans h.os, k.tape.trans h.tape, k.output.trans h.output, Nat.le_trans h.size k.size, fun i hi hF =>
    (k.block i (Nat.lt_of_lt_of_le hi h.size) (fun e => e.elim hF fun e => by omega)).trans (h.block i hi hF)⟩
theorem Kept.mono {F G : Nat → Prop} {a b : World} (h : Kept F a b) (hG : ∀ i, i < a.heap.size → F i → G i) : Kept G a b :=
  ⟨h.os, h.tape, h.output, h.size, fun i hi hn => h.block i hi fun e => hn (hG i hi e)⟩
theorem Gr.trans {F : Nat → Prop} {a b c : World} (h1 : a.heap.size ≤ b.heap.size) (h2 : b.heap.size ≤ c.heap.size) : Gr (Gr F a b) b c = Gr F a c := by
  funext i
  apply propext
  unfold Gr
  constructor
  · rintro ((h | h) | h)
    · exact .inl h
    · exact .inr (by omega)
    · exact .inr (by omega)
  · rintro (h | h)
    · exact .inl (.inl h)
    · by_cases c : i < b.heap.size
      · exact .inl (.inr (by omega))
      · exact .inr (by omega)
theorem Gr.self (F : Nat → Prop) (a : World) : Gr F a a = F := by
  funext i
  apply propext
  unfold Gr
  constructor
  · rintro (h | h)
    · exact h
    · omega
  · exact .inl
theorem Kept.of_below {F : Nat → Prop} {w w' : World} (h : Below w.heap.size w w') : Kept F w w' := ⟨h.os, h.tape, h.output, h.size, fun k hk _ => h.block k hk⟩
theorem Kept.below {F : Nat → Prop} {w w' : World} {B : Nat} (h : Kept F w w') (hB : B ≤ w.heap.size) (hF : ∀ i, F i → B ≤ i) : Below B w w' :=
  ⟨h.os, h.tape, h.output, h.size, fun k hk => h.block k (by omega) fun e => by have := hF k e; omega⟩
theorem Kept.alloc (F : Nat → Prop) (w : World) (o : Obj) : Kept F w (w.alloc o) := .of_below ((Below.refl _ _).alloc (Nat.le_refl _) o)
theorem Kept.drew {F : Nat → Prop} {w w' : World} (h : Kept F w w') : Kept F w w'.drew := ⟨h.os, h.tape, h.output, h.size, h.block⟩
theorem Kept.setCell {F : Nat → Prop} {w w' : World} (h : Kept F w w') {p : Addr} (hp : F p.block) (u : Value) : Kept F w (w'.setCell p u) :=
  ⟨h.os, h.tape, h.output, by simpa [World.setCell] using h.size, fun k hk hF => (Below.heap_setCell _ _ _ _ (fun e => hF (by rw [e]; exact hp))).trans (h.block k hk hF)⟩
theorem Kept.setRow {F : Nat → Prop} {w w' : World} (h : Kept F w w') {g : Nat} (hp : F g) (cs : Array Value) : Kept F w (w'.setRow g cs) := by
  have hb := below_setRow (B := g) (Below.refl g w') (Nat.le_refl _) cs
  refine ⟨hb.os.trans h.os, hb.tape.trans h.tape, hb.output.trans h.output, Nat.le_trans h.size hb.size, fun k hk hF => ?_⟩
  rw [← h.block k hk hF]
  have hne : k ≠ g := fun e => hF (by rw [e]; exact hp)
  simp only [World.setRow, Array.getElem?_modify]
  rw [if_neg (by omega)]
/-- Blocks of unsigned numbers haven't turned. -/
def Nums (w w' : World) : Prop := ∀ (b : Nat) (cs : Array Value) (fr : Nat × Nat), w.heap[b]? = some (Obj.cells cs 32 fr) → w'.heap[b]? = w.heap[b]?
theorem Nums.refl (w : World) : Nums w w := fun _ _ _ _ => rfl
theorem Nums.trans {a b c : World} (h : Nums a b) (k : Nums b c) : Nums a c := fun i cs fr hi => (k i cs fr ((h i cs fr hi).trans hi)).trans (h i cs fr hi)
theorem Nums.of_below {w w' : World} (h : Below w.heap.size w w') : Nums w w' := fun b _ _ hb => h.block b (Array.getElem?_eq_some_iff.1 hb).1
theorem Nums.setCell {w : World} {p : Addr} {cs : Array Value} {t : TypeId} {fr : Nat × Nat} (h : w.heap[p.block]? = some (.cells cs t fr)) (ht : t ≠ 32) (v : Value) : Nums w (w.setCell p v) := fun b cs' fr' hb => Below.heap_setCell _ _ _ _ fun e => by
  rw [e, h] at hb
  simp at hb
  exact ht hb.2.1
theorem Nums.setRow {w : World} {g : Nat} {cs : Array Value} {t : TypeId} {fr : Nat × Nat} (h : w.heap[g]? = some (.cells cs t fr)) (ht : t ≠ 32) (c : Array Value) : Nums w (w.setRow g c) := fun b cs' fr' hb => by
  have e : b ≠ g := fun e => by
    rw [e, h] at hb
    simp at hb
    exact ht hb.2.1
  simp only [World.setRow, Array.getElem?_modify]
  rw [if_neg (by omega)]
theorem Kept.cell {F : Nat → Prop} {w w' : World} (h : Kept F w w') {p : Addr} (hp : p.block < w.heap.size) (hF : ¬ F p.block) : w'.cell? p = w.cell? p := World.cell?_of_block (w := w) (h.block p.block hp hF)

/-- A block's contents behind a store. -/
theorem blk_set {w : World} {g : Nat} {l : List Value} {t : TypeId} (h : w.heap[g]? = some (.cells l.toArray t (0, 0))) (i : Nat) (v : Value) : (w.setCell ⟨g, i, none⟩ v).heap[g]? = some (.cells (l.set i v).toArray t (0, 0)) := by
  simp only [World.setCell, Array.getElem?_modify]
  rw [if_pos trivial, h]
  simp
theorem blk_row {w : World} {g : Nat} {l : Array Value} {t : TypeId} (h : w.heap[g]? = some (.cells l t (0, 0))) (c : Array Value) : (w.setRow g c).heap[g]? = some (.cells c t (0, 0)) := by
  simp only [World.setRow, Array.getElem?_modify]
  rw [if_pos trivial, h]
  rfl
theorem blk_other {w : World} {g k : Nat} (h : k ≠ g) (c : Array Value) : (w.setRow g c).heap[k]? = w.heap[k]? := by
  simp only [World.setRow, Array.getElem?_modify]
  rw [if_neg (by omega)]
theorem blk_cell {w : World} {g : Nat} {l : List Value} {t : TypeId} (h : w.heap[g]? = some (.cells l.toArray t (0, 0))) {i : Nat} {v : Value} (hv : l[i]? = some v) : w.cell? ⟨g, i, none⟩ = some v := by
  simp [World.cell?, h, hv]
theorem blk_free {w : World} {g : Nat} {l : Array Value} {t : TypeId} (h : w.heap[g]? = some (.cells l t (0, 0))) (i : Nat) : w.frozen? ⟨g, i, none⟩ = false := by
  simp [World.frozen?, h]
theorem blk_lt {w : World} {g : Nat} {o : Obj} (h : w.heap[g]? = some o) : g < w.heap.size := (Array.getElem?_eq_some_iff.1 h).1

/-- A slice of numbers, for reading: what it lies in is told apart from F, or by its kind. -/
def KR (F : Nat → Prop) (w : World) (ao : Option Addr) (K : List Int) : Prop :=
  K = [] ∨ ∃ b o cs T fr, ao = some ⟨b, o, none⟩ ∧ w.heap[b]? = some (.cells cs T fr) ∧ (¬ F b ∨ T = 32) ∧ ∀ j, j < K.length → cs[o + j]? = some (.int .u64 (K.getD j 0))
theorem KR.kept {F : Nat → Prop} {w w' : World} {ao : Option Addr} {K : List Int} (h : KR F w ao K) (hk : ∀ (b : Nat) (cs : Array Value) (T : TypeId) (fr : Nat × Nat), w.heap[b]? = some (Obj.cells cs T fr) → (¬ F b ∨ T = 32) → w'.heap[b]? = w.heap[b]?) : KR F w' ao K := by
  rcases h with h | ⟨b, o, cs, T, fr, h1, h2, h3, h4⟩
  · exact .inl h
  · exact .inr ⟨b, o, cs, T, fr, h1, (hk b cs T fr h2 h3).trans h2, h3, h4⟩
theorem KR.step {F : Nat → Prop} {w w' : World} {ao : Option Addr} {K : List Int} (h : KR F w ao K) (hk : Kept F w w') (hn : Nums w w') : KR F w' ao K :=
  h.kept fun b cs T fr hb hT => by
    rcases hT with hT | rfl
    · exact hk.block b (Array.getElem?_eq_some_iff.1 hb).1 hT
    · exact hn b cs fr hb
theorem KR.grow {F G : Nat → Prop} {w : World} {ao : Option Addr} {K : List Int} (h : KR F w ao K) (hG : ∀ b, b < w.heap.size → G b → F b) : KR G w ao K := by
  rcases h with h | ⟨b, o, cs, T, fr, h1, h2, h3, h4⟩
  · exact .inl h
  · exact .inr ⟨b, o, cs, T, fr, h1, h2, h3.imp (fun x y => x (hG b (Array.getElem?_eq_some_iff.1 h2).1 y)) id, h4⟩
theorem KR.cell {F : Nat → Prop} {w : World} {ao : Option Addr} {K : List Int} (h : KR F w ao K) {j : Nat} (hj : j < K.length) : ∃ b o, ao = some ⟨b, o, none⟩ ∧ w.cell? ⟨b, o + j, none⟩ = some (.int .u64 (K.getD j 0)) := by
  rcases h with h | ⟨b, o, cs, T, fr, h1, h2, h3, h4⟩
  · subst h; simp at hj
  · exact ⟨b, o, h1, by simp [World.cell?, h2, h4 j hj]⟩

/-- The numbers that a disk has asked with lie in a block of its own. -/
def KO (F : Nat → Prop) (w : World) (ao : Option Addr) (K : List Int) : Prop :=
  K = [] ∨ ∃ b o cs fr, ao = some ⟨b, o, none⟩ ∧ w.heap[b]? = some (.cells cs 32 fr) ∧ F b ∧ ∀ j, j < K.length → cs[o + j]? = some (.int .u64 (K.getD j 0))
theorem KO.kr {F : Nat → Prop} {w : World} {ao : Option Addr} {K : List Int} (h : KO F w ao K) : KR F w ao K := by
  rcases h with h | ⟨b, o, cs, fr, h1, h2, h3, h4⟩
  · exact .inl h
  · exact .inr ⟨b, o, cs, _, fr, h1, h2, .inr rfl, h4⟩
theorem KO.kept {F G : Nat → Prop} {w w' : World} {ao : Option Addr} {K : List Int} (h : KO F w ao K) (hk : ∀ (b : Nat) (cs : Array Value) (fr : Nat × Nat), w.heap[b]? = some (Obj.cells cs 32 fr) → F b → w'.heap[b]? = w.heap[b]?) (hG : ∀ b, F b → G b) : KO G w' ao K := by
  rcases h with h | ⟨b, o, cs, fr, h1, h2, h3, h4⟩
  · exact .inl h
  · exact .inr ⟨b, o, cs, fr, h1, (hk b cs fr h2 h3).trans h2, hG b h3, h4⟩

/-- Where a disk's parts lie: the row of its regions and its room, each region's lasting bytes, each queue and its room; the numbers asked with. -/
structure Ly where
  R : Nat
  rc : Nat
  lb : Nat → Nat
  qb : Nat → Nat
  qm : Nat → Nat
  ka : Option Addr
  kc : Nat

def pt (n b : Nat) : Option Addr := if n = 0 then none else some ⟨b, 0, none⟩
def cp (n c : Nat) : Nat := if n = 0 then 0 else c
theorem pt_pos {n : Nat} (b : Nat) (h : 0 < n) : pt n b = some ⟨b, 0, none⟩ := if_neg (by omega)
theorem pt_zero (b : Nat) : pt 0 b = none := rfl
theorem cp_pos {n : Nat} (c : Nat) (h : 0 < n) : cp n c = c := if_neg (by omega)

/-- The value of a queue. -/
def qv (q : List (Nat × ByteArray)) (b c : Nat) : Value := .slice (pt q.length b) q.length (cp q.length c)
/-- The value of lasting bytes. -/
def lv (n b : Nat) : Value := .slice (some ⟨b, 0, none⟩) (64 * n) (64 * n)

/-- The code's disk in memory. -/
structure DkL (w : World) (D : Nat) (d : Dk) (F : Nat → Prop) (L : Ly) : Prop where
  dk : w.heap[D]? = some (.cells #[.slice (pt d.k L.R) d.k (cp d.k L.rc), .bool d.off, .int .i64 (aR d.ask), .int .i64 (aL d.ask), .slice L.ka (aK d.ask).length L.kc] 51 (0, 0))
  rows : 0 < d.k → ∃ l : List Value, w.heap[L.R]? = some (.cells l.toArray 55 (0, 0)) ∧ l.length = L.rc * 2 ∧ d.k ≤ L.rc ∧ ∀ i, i < d.k → l[i * 2]? = some (lv (d.r i).n (L.lb i)) ∧ l[i * 2 + 1]? = some (qv (d.r i).q (L.qb i) (L.qm i))
  lb : ∀ i, i < d.k → w.heap[L.lb i]? = some (.cells (lc (d.r i).s (d.r i).n).toArray 5 (0, 0))
  qb : ∀ i, i < d.k → 0 < (d.r i).q.length → ∃ l : List Value, w.heap[L.qb i]? = some (.cells l.toArray 124 (0, 0)) ∧ l.length = L.qm i * 65 ∧ (d.r i).q.length ≤ L.qm i ∧ L.qm i ≤ maxLen ∧ l.take ((d.r i).q.length * 65) = qc (d.r i).q
  injl : ∀ i j, i < d.k → j < d.k → L.lb i = L.lb j → i = j
  injq : ∀ i j, i < d.k → j < d.k → 0 < (d.r i).q.length → 0 < (d.r j).q.length → L.qb i = L.qb j → i = j
  kr : KO F w L.ka (aK d.ask)
  ownD : F D
  ownR : 0 < d.k → F L.R
  ownl : ∀ i, i < d.k → F (L.lb i)
  ownq : ∀ i, i < d.k → 0 < (d.r i).q.length → F (L.qb i)
  lt : ∀ b, F b → b < w.heap.size
  ok : d.ok

def DkAt (w : World) (D : Nat) (d : Dk) (F : Nat → Prop) : Prop := ∃ L, DkL w D d F L

theorem lb_ne_R {w : World} {D : Nat} {d : Dk} {F : Nat → Prop} {L : Ly} (h : DkL w D d F L) {i : Nat} (hi : i < d.k) : L.lb i ≠ L.R := fun e => by
  obtain ⟨l, h1, _⟩ := h.rows (by omega)
  have h2 := h.lb i hi
  rw [e, h1] at h2
  simp at h2

/-- A region whose lasting bytes have turned, and whose queue is empty now. -/
theorem DkL.reset {w w1 : World} {D : Nat} {d : Dk} {F : Nat → Prop} {L : Ly} (h : DkL w D d F L) {i : Nat} (hi : i < d.k) {s : Nat → ByteArray} (hs : w1.heap.size = w.heap.size)
    (hb : w1.heap[L.lb i]? = some (.cells (lc s (d.r i).n).toArray 5 (0, 0))) (hk : ∀ b, b ≠ L.lb i → w1.heap[b]? = w.heap[b]?) (hok : ∀ k, (s k).size = 64) :
    DkL (w1.setCell ⟨L.R, i * 2 + 1, none⟩ (.slice none 0 0)) D (d.at i { n := (d.r i).n, s := s, q := [] }) F L := by
  have hbR : ∀ b, b ≠ L.R → (w1.setCell ⟨L.R, i * 2 + 1, none⟩ (.slice none 0 0)).heap[b]? = w1.heap[b]? := fun b hb => Below.heap_setCell _ _ _ _ hb
  have hr : ∀ j, j ≠ i → (d.at i { n := (d.r i).n, s := s, q := [] }).r j = d.r j := fun j hj => upd_off _ _ hj
  have hri : (d.at i { n := (d.r i).n, s := s, q := [] }).r i = { n := (d.r i).n, s := s, q := [] } := upd_at _ _ _
  obtain ⟨l, g1, g2, g3, g4⟩ := h.rows (by omega)
  have ne1 := lb_ne_R h hi
  have g1' := (hk L.R (fun e => ne1 e.symm)).trans g1
  have hkn : ∀ (b : Nat) (cs : Array Value) (T : TypeId) (fr : Nat × Nat), w.heap[b]? = some (Obj.cells cs T fr) → T ≠ 5 → T ≠ 55 → (w1.setCell ⟨L.R, i * 2 + 1, none⟩ (.slice none 0 0)).heap[b]? = w.heap[b]? := fun b cs T fr h1 h2 h3 => by
    rw [hbR b (fun e => by rw [e, g1] at h1; simp at h1; exact h3 h1.2.1.symm), hk b (fun e => by rw [e, h.lb i hi] at h1; simp at h1; exact h2 h1.2.1.symm)]
  refine ⟨?_, ?_, ?_, ?_, h.injl, ?_, ?_, h.ownD, h.ownR, h.ownl, ?_, ?_, Dk.at_ok h.ok i ⟨(h.ok.r i hi).n, hok, fun x hx => by cases hx⟩⟩
  · exact (hkn D _ _ _ h.dk (by decide) (by decide)).trans h.dk
  · intro _
    refine ⟨l.set (i * 2 + 1) (.slice none 0 0), blk_set g1' _ _, by rw [List.length_set]; exact g2, g3, fun j hj => ?_⟩
    by_cases c : j = i
    · subst c
      rw [hri]
      refine ⟨?_, ?_⟩
      · rw [List.getElem?_set_ne (by omega)]
        exact (g4 j hj).1
      · have hj' : j < d.k := hj
        rw [List.getElem?_set_self (by omega)]
        rfl
    · rw [hr j c, List.getElem?_set_ne (by omega), List.getElem?_set_ne (by omega)]
      exact g4 j hj
  · intro j hj
    by_cases c : j = i
    · subst c
      rw [hri, hbR _ ne1]
      exact hb
    · rw [hr j c, hbR _ (lb_ne_R h hj), hk _ (fun e => c (h.injl j i hj hi e))]
      exact h.lb j hj
  · intro j hj hq
    by_cases c : j = i
    · subst c
      rw [hri] at hq
      exact absurd hq (by simp)
    · rw [hr j c] at hq ⊢
      obtain ⟨l', k1, k2⟩ := h.qb j hj hq
      exact ⟨l', (hkn _ _ _ _ k1 (by decide) (by decide)).trans k1, k2⟩
  · intro a b ha hb' hqa hqb e
    by_cases c1 : a = i
    · subst c1; rw [hri] at hqa; exact absurd hqa (by simp)
    · by_cases c2 : b = i
      · subst c2; rw [hri] at hqb; exact absurd hqb (by simp)
      · rw [hr a c1] at hqa
        rw [hr b c2] at hqb
        exact h.injq a b ha hb' hqa hqb e
  · exact h.kr.kept (fun b cs fr h1 _ => hkn b cs _ fr h1 (by decide) (by decide)) fun _ hb => hb
  · intro j hj hq
    by_cases c : j = i
    · subst c; rw [hri] at hq; exact absurd hq (by simp)
    · rw [hr j c] at hq
      exact h.ownq j hj hq
  · intro b hb'
    have := h.lt b hb'
    simp [World.setCell]
    omega

/-- A disk is as it was where nothing of it has turned. -/
theorem DkL.kept {w w' : World} {D : Nat} {d : Dk} {F : Nat → Prop} {L : Ly} (h : DkL w D d F L) (hs : w.heap.size ≤ w'.heap.size) (hk : ∀ b, F b → w'.heap[b]? = w.heap[b]?) : DkL w' D d F L where
  dk := (hk _ h.ownD).trans h.dk
  rows := fun hp => by
    obtain ⟨l, h1, h2⟩ := h.rows hp
    exact ⟨l, (hk _ (h.ownR hp)).trans h1, h2⟩
  lb := fun i hi => (hk _ (h.ownl i hi)).trans (h.lb i hi)
  qb := fun i hi hq => by
    obtain ⟨l, h1, h2⟩ := h.qb i hi hq
    exact ⟨l, (hk _ (h.ownq i hi hq)).trans h1, h2⟩
  injl := h.injl
  injq := h.injq
  kr := h.kr.kept (fun b _ _ _ hb => hk b hb) fun _ hb => hb
  ownD := h.ownD
  ownR := h.ownR
  ownl := h.ownl
  ownq := h.ownq
  lt := fun b hb => Nat.lt_of_lt_of_le (h.lt b hb) hs
  ok := h.ok

/-- The same with more memory counted as its own. -/
theorem DkL.more {w : World} {D : Nat} {d : Dk} {F G : Nat → Prop} {L : Ly} (h : DkL w D d F L) (hFG : ∀ b, F b → G b) (hlt : ∀ b, G b → b < w.heap.size) : DkL w D d G L where
  dk := h.dk
  rows := h.rows
  lb := h.lb
  qb := h.qb
  injl := h.injl
  injq := h.injq
  kr := h.kr.kept (fun _ _ _ _ _ => rfl) hFG
  ownD := hFG _ h.ownD
  ownR := fun hp => hFG _ (h.ownR hp)
  ownl := fun i hi => hFG _ (h.ownl i hi)
  ownq := fun i hi hq => hFG _ (h.ownq i hi hq)
  lt := hlt
  ok := h.ok

end Go.Proofs.Ytaojoecmbgmhoaa.Wd

namespace Go.Proofs.Ytaojoecmbgmhoaa.Wd
open Go.ChangeShapes Go.WideShapes Go.ChangeAt Go.RowKit Go.Proofs.Ytaojoecmbgmhoaa.M

/-- The pointer to a region. -/
def rp (L : Ly) (i : Nat) : Value := .pointer (some ⟨L.R, i * 2, none⟩)

theorem DkL.cR {w : World} {D : Nat} {d : Dk} {F : Nat → Prop} {L : Ly} (h : DkL w D d F L) {i : Nat} (hi : i < d.k) : w.cell? ⟨L.R, i * 2, none⟩ = some (lv (d.r i).n (L.lb i)) ∧ w.cell? ⟨L.R, i * 2 + 1, none⟩ = some (qv (d.r i).q (L.qb i) (L.qm i)) ∧ (∀ j, w.frozen? ⟨L.R, j, none⟩ = false) := by
  obtain ⟨l, h1, h2, h3, h4⟩ := h.rows (by omega)
  exact ⟨blk_cell h1 (h4 i hi).1, blk_cell h1 (h4 i hi).2, fun j => blk_free h1 j⟩
theorem DkL.cD {w : World} {D : Nat} {d : Dk} {F : Nat → Prop} {L : Ly} (h : DkL w D d F L) : w.cell? ⟨D, 0, none⟩ = some (.slice (pt d.k L.R) d.k (cp d.k L.rc)) ∧ w.cell? ⟨D, 1, none⟩ = some (.bool d.off) ∧ w.cell? ⟨D, 2, none⟩ = some (.int .i64 (aR d.ask)) ∧ w.cell? ⟨D, 3, none⟩ = some (.int .i64 (aL d.ask)) ∧ w.cell? ⟨D, 4, none⟩ = some (.slice L.ka (aK d.ask).length L.kc) ∧ (∀ j, w.frozen? ⟨D, j, none⟩ = false) := by
  have := h.dk
  refine ⟨?_, ?_, ?_, ?_, ?_, fun j => blk_free this j⟩ <;> simp [World.cell?, this]

set_option maxRecDepth 100000 in
theorem sectorsR {w : World} {D : Nat} {d : Dk} {F : Nat → Prop} {L : Ly} (h : DkL w D d F L) {i : Nat} (hi : i < d.k) :
    Calls Try.prog 28 #[rp L i] w fun e w' => e = .returned (.int .i64 ((d.r i).n : Int)) ∧ w = w' := by
  obtain ⟨c1, c2, c3⟩ := h.cR hi
  have hn := (h.ok.r i hi).n
  have e1 : (((64 * (d.r i).n : Nat) : Int)).tdiv 64 = ((d.r i).n : Int) := by
    rw [Int.tdiv_eq_ediv_of_nonneg (by omega)]; omega
  have HE : Hid _ := e1
  clear e1
  unfold lv at c1
  unfold rp
  go_enter Try.func28, Try.ntmps28
  go_wp2
  go_ret
  exact ⟨ret_int (by first | rfl | exact HE.out), rfl⟩

set_option maxRecDepth 100000 in
theorem find {w : World} {D : Nat} {d : Dk} {F : Nat → Prop} {L : Ly} (h : DkL w D d F L) {a : Int} :
    Calls Try.prog 16 #[.pointer (some ⟨D, 0, none⟩), .int .i64 a] w fun e w' => e = .returned (if d.has a then rp L a.toNat else .pointer none) ∧ w = w' := by
  obtain ⟨c1, c2, c3⟩ := h.cD
  have hk := h.ok.k
  by_cases c : d.has a = true
  · rw [if_pos c]
    have c0 : 0 ≤ a ∧ a < d.k := by unfold Dk.has at c; simpa using c
    obtain ⟨i, rfl⟩ := Int.eq_ofNat_of_zero_le c0.1
    have hi : i < d.k := by omega
    rw [pt_pos _ (by omega), cp_pos _ (by omega)] at c1
    unfold rp
    clear c
    go_enter Try.func16, Try.ntmps16
    go_wp2
    go_ret
    exact ⟨rfl, rfl⟩
  · rw [if_neg c]
    have c0 : ¬ (0 ≤ a ∧ a < d.k) := by unfold Dk.has at c; simpa using c
    rcases Int.lt_or_le a 0 with h0 | h0
    all_goals
      go_enter Try.func16, Try.ntmps16
      go_wp2
      go_ret
      exact ⟨rfl, rfl⟩

set_option maxRecDepth 100000 in
theorem at_ {w : World} {D : Nat} {d : Dk} {F : Nat → Prop} {L : Ly} (h : DkL w D d F L) {i : Nat} (hi : i < d.k) {s : Nat} (hs : s < (d.r i).n) :
    Calls Try.prog 62 #[rp L i, .int .i64 (s : Int)] w fun e w' => e = .returned (.slice (some ⟨L.lb i, s * 64, none⟩) 64 (64 * (d.r i).n - s * 64)) ∧ w = w' := by
  obtain ⟨c1, c2, c3⟩ := h.cR hi
  have hn := (h.ok.r i hi).n
  unfold lv at c1
  unfold rp
  go_enter Try.func62, Try.ntmps62
  have e1 : Hid ((s + 1) * 64 - s * 64 = 64) := by show _ = _; omega
  go_wp2
  go_ret
  exact ⟨by rw [e1.out]; rfl, rfl⟩

end Go.Proofs.Ytaojoecmbgmhoaa.Wd

namespace Go.Proofs.Ytaojoecmbgmhoaa.Wd
open Go.ChangeShapes Go.WideShapes Go.ChangeAt Go.RowKit Go.Proofs.Ytaojoecmbgmhoaa.M

theorem DkL.drew {w : World} {D : Nat} {d : Dk} {F : Nat → Prop} {L : Ly} (h : DkL w D d F L) : DkL w.drew D d F L := h.kept (Nat.le_refl _) fun _ _ => rfl

theorem take_get {l : List Value} {m : Nat} {q : List Value} (h : l.take m = q) {j : Nat} (hj : j < m) : l[j]? = q[j]? := by
  rw [← h, List.getElem?_take, if_pos hj]

/-- The cells of a queue. -/
theorem DkL.cQ {w : World} {D : Nat} {d : Dk} {F : Nat → Prop} {L : Ly} (h : DkL w D d F L) {i : Nat} (hi : i < d.k) {t : Nat} (ht : t < (d.r i).q.length) :
    w.cell? ⟨L.qb i, t * 65, none⟩ = some (.int .i64 ((qx (d.r i).q t).1 : Int)) ∧ (∀ j, j < 64 → w.cell? ⟨L.qb i, t * 65 + 1 + j, none⟩ = some (.int .u8 (bt (qx (d.r i).q t).2 j))) := by
  obtain ⟨l, h1, h2, h3, h4, h5⟩ := h.qb i hi (by omega)
  refine ⟨blk_cell h1 ?_, fun j hj => blk_cell h1 ?_⟩
  · rw [take_get h5 (by omega), Nat.mul_comm t 65]
    exact qc_sec _ _ ht
  · rw [take_get h5 (by omega), Nat.mul_comm t 65]
    exact qc_byte _ _ _ ht hj

/-- A write's bytes as a text. -/
theorem DkL.convQ {w : World} {D : Nat} {d : Dk} {F : Nat → Prop} {L : Ly} (h : DkL w D d F L) {i : Nat} (hi : i < d.k) {t : Nat} (ht : t < (d.r i).q.length) :
    (convert 52 9 (.slice (some ⟨L.qb i, t * 65 + 1, none⟩) 64 64)).run Try.prog w = .ok (.string (qx (d.r i).q t).2) w := by
  have hs := ((h.ok.r i hi).q _ (qx_mem ht)).2
  have := run_convert_bytes_arg (P := Try.prog) (w := w) 52 5 Try.underlying52 Try.underlying5 (L.qb i) (t * 65 + 1) 64 64 ((List.range 64).map fun j => bt (qx (d.r i).q t).2 j) (by simp) (fun j hj => by
    rw [(h.cQ hi ht).2 j hj]
    simp [List.getD, hj]) 9 Try.underlying9
  rw [str_dc _ hs] at this
  exact this
/-- A sector's lasting bytes as a text. -/
theorem DkL.convL {w : World} {D : Nat} {d : Dk} {F : Nat → Prop} {L : Ly} (h : DkL w D d F L) {i : Nat} (hi : i < d.k) {s : Nat} (hs : s < (d.r i).n) (c : Nat) :
    (convert 52 9 (.slice (some ⟨L.lb i, s * 64, none⟩) 64 c)).run Try.prog w = .ok (.string ((d.r i).s s)) w := by
  have := run_convert_bytes_arg (P := Try.prog) (w := w) 52 5 Try.underlying52 Try.underlying5 (L.lb i) (s * 64) 64 c ((List.range 64).map fun j => bt ((d.r i).s s) j) (by simp) (fun j hj => by
    rw [blk_cell (h.lb i hi) (lc_get _ _ (s * 64 + j) (by omega))]
    have e1 : (s * 64 + j) / 64 = s := by omega
    have e2 : (s * 64 + j) % 64 = j := by omega
    rw [e1, e2]
    simp [List.getD, hj]) 9 Try.underlying9
  rw [str_dc _ ((h.ok.r i hi).s s)] at this
  exact this
/-- All of a region's lasting bytes as a text. -/
theorem DkL.convI {w : World} {D : Nat} {d : Dk} {F : Nat → Prop} {L : Ly} (h : DkL w D d F L) {i : Nat} (hi : i < d.k) :
    (convert 52 9 (.slice (some ⟨L.lb i, 0, none⟩) (64 * (d.r i).n) (64 * (d.r i).n))).run Try.prog w = .ok (.string (img (d.r i).s (d.r i).n)) w := by
  have := run_convert_bytes_arg (P := Try.prog) (w := w) 52 5 Try.underlying52 Try.underlying5 (L.lb i) 0 (64 * (d.r i).n) (64 * (d.r i).n) ((List.range (64 * (d.r i).n)).map fun j => bt ((d.r i).s (j / 64)) (j % 64)) (by simp) (fun j hj => by
    rw [Nat.zero_add, blk_cell (h.lb i hi) (lc_get _ _ j hj)]
    simp [List.getD, hj]) 9 Try.underlying9
  rw [str_img] at this
  exact this

set_option maxRecDepth 100000 in
theorem read {w : World} {D : Nat} {d : Dk} {F : Nat → Prop} {L : Ly} (h : DkL w D d F L) {i : Nat} (hi : i < d.k) {s : Nat} (hs : s < (d.r i).n) (hq : (d.r i).q.length ≤ 1048576) :
    Calls Try.prog 48 #[rp L i, .int .i64 (s : Int)] w fun e w' => e = .returned (.string ((d.r i).rd s)) ∧ w = w' := by
  obtain ⟨c1, c2, c3⟩ := h.cR hi
  have hn := (h.ok.r i hi).n
  have CA : Hid _ := fun w h => at_ (w := w) (D := D) (F := F) (L := L) (d := d) h hi hs
  have cI := h.convL hi hs
  unfold rp qv at *
  go_enter Try.func48, Try.ntmps48
  go_wp2
  go_loop [5] (fun iv => ∃ j : Nat, j ≤ (d.r i).q.length ∧ iv = .int .i64 ((j : Int) - 1) ∧ ∀ t, j ≤ t → t < (d.r i).q.length → (qx (d.r i).q t).1 ≠ s) (fun iv => (intOf iv + 1).toNat)
  case atStart => exact ⟨_, Nat.le_refl _, rfl, fun t h1 h2 => absurd h2 (by omega)⟩
  case round =>
    obtain ⟨j, hj, hiv, hno⟩ := hrel
    have HN : Hid _ := hno
    clear hno
    rcases j with _ | t
    · subst hiv
      have hR : Hid ((d.r i).rd s = (d.r i).s s) := rdk_none _ _ 0 _ (Nat.zero_le _) HN.out
      go_wp2_with fail
      refine (CA.out _ h).mono ?_
      rintro e w1 ⟨rfl, rfl⟩
      go_wp2
      go_ret
      exact ⟨by rw [hR.out]; rfl, rfl⟩
    · have e1 : ((t + 1 : Nat) : Int) - 1 = (t : Int) := by omega
      rw [e1] at hiv
      subst hiv
      obtain ⟨q1, q2⟩ := h.cQ hi (t := t) (by omega)
      have q3 := h.convQ hi (t := t) (by omega)
      rw [pt_pos _ (by omega), cp_pos _ (by omega)] at c2
      by_cases c : (qx (d.r i).q t).1 = s
      · have hR : Hid ((d.r i).rd s = (qx (d.r i).q t).2) := (rdk_none _ _ (t + 1) _ hj HN.out).trans (rdk_hit _ _ _ c)
        rw [c] at q1
        clear q2 e1 c
        generalize (qx (d.r i).q t).2 = x at q3 hR
        go_wp2
        go_ret
        exact ⟨by rw [hR.out]; rfl, rfl⟩
      · have hne : ¬ (((qx (d.r i).q t).1 : Int) = (s : Int)) := by omega
        have HNo : Hid (∀ t', t ≤ t' → t' < (d.r i).q.length → (qx (d.r i).q t').1 ≠ s) := fun t' h1 h2 => by
          by_cases ct : t' = t
          · rw [ct]; exact c
          · exact HN.out t' (by omega) h2
        clear q2 e1 c q3
        generalize (qx (d.r i).q t).1 = x at q1 hne
        go_wp2
        go_round
        case rel => exact ⟨t, by omega, by go_num, HNo.out⟩
        case measure => simp [intOf] <;> omega

end Go.Proofs.Ytaojoecmbgmhoaa.Wd

namespace Go.Proofs.Ytaojoecmbgmhoaa.Wd
open Go.ChangeShapes Go.WideShapes Go.ChangeAt Go.RowKit Go.Proofs.Ytaojoecmbgmhoaa.M

theorem bit_code {x : Int} (h0 : 0 ≤ x) (h1 : x < 18446744073709551616) {a : Nat} : (bits BinOp.and IntKind.u64 (x / 2 ^ a) 1 == 1) = bitB x (a : Int) := by
  obtain ⟨N, rfl⟩ := Int.eq_ofNat_of_zero_le h0
  have e : ((N : Int) / 2 ^ a) = hv (N : Int) a := by
    rw [hv_nat, Int.natCast_ediv, Int.natCast_pow]
    rfl
  have hr := hv_range h0 h1 a
  rw [e, and_one _ hr.1 hr.2, hv_bit h0]
  cases bitB (N : Int) (a : Int) <;> rfl

/-- A function that tells which writes are kept. -/
def FV (w : World) (fv : Value) (kp : Nat → Bool) : Prop :=
  (fv = .func (.func 70) #[] #[] ∧ ∀ m, kp m = true) ∨ (fv = .func (.func 63) #[] #[] ∧ ∀ m, kp m = false) ∨
  ∃ b x, fv = .func (.func 64) #[] #[.pointer (some ⟨b, 0, none⟩)] ∧ w.heap[b]? = some (.cells #[.int .u64 x] 32 (0, 0)) ∧ 0 ≤ x ∧ x < 18446744073709551616 ∧ ∀ m, kp m = bitB x ((m % 64 : Nat) : Int)

theorem kAll (m : Int) (w : World) : Calls Try.prog 70 #[.int .i64 m] w fun e w' => e = .returned (.bool true) ∧ w = w' := by
  go_enter Try.func70, Try.ntmps70
  go_wp2
  go_ret
  exact ⟨rfl, rfl⟩
theorem kNone (m : Int) (w : World) : Calls Try.prog 63 #[.int .i64 m] w fun e w' => e = .returned (.bool false) ∧ w = w' := by
  go_enter Try.func63, Try.ntmps63
  go_wp2
  go_ret
  exact ⟨rfl, rfl⟩
theorem kBits (x : Int) (m b : Nat) (w : World) (h0 : 0 ≤ x) (h1 : x < 18446744073709551616) (hm : m ≤ 1048576) (hb : w.heap[b]? = some (.cells #[.int .u64 x] 32 (0, 0))) : Calls Try.prog 64 #[.int .i64 (m : Int), .pointer (some ⟨b, 0, none⟩)] w fun e w' => e = .returned (.bool (bitB x ((m % 64 : Nat) : Int))) ∧ w = w' := by
  have c1 : w.cell? ⟨b, 0, none⟩ = some (.int .u64 x) := by simp [World.cell?, hb]
  clear hb
  go_enter Try.func64, Try.ntmps64
  go_wp2
  go_ret
  exact ⟨by rw [← bit_code h0 h1]; rfl, rfl⟩

end Go.Proofs.Ytaojoecmbgmhoaa.Wd

namespace Go.Proofs.Ytaojoecmbgmhoaa.Wd
open Go.ChangeShapes Go.WideShapes Go.ChangeAt Go.RowKit Go.Proofs.Ytaojoecmbgmhoaa.M

theorem sizeU8 : (Try.prog.info? 5).map (·.size) = some 1 := by kernel_rfl

theorem hid {p : Prop} (h : p) : Hid p := h

/-- Only block g has turned. -/
structure Only (g : Nat) (w w' : World) : Prop where
  os : w'.os = w.os
  tape : w'.tape = w.tape
  output : w'.output = w.output
  size : w'.heap.size = w.heap.size
  block : ∀ k, k ≠ g → w'.heap[k]? = w.heap[k]?
theorem Only.refl (g : Nat) (w : World) : Only g w w := ⟨rfl, rfl, rfl, rfl, fun _ _ => rfl⟩
theorem Only.drew {g : Nat} {w w' : World} (h : Only g w w') : Only g w w'.drew := ⟨h.os, h.tape, h.output, h.size, h.block⟩
theorem Only.row {g : Nat} {w w' : World} (h : Only g w w') (c : Array Value) : Only g w (w'.setRow g c) :=
  ⟨h.os, h.tape, h.output, by simpa [World.setRow] using h.size, fun k hk => (blk_other hk c).trans (h.block k hk)⟩

/-- The disk while a region is being settled. -/
theorem DkL.mid {w w1 : World} {D : Nat} {d : Dk} {F : Nat → Prop} {L : Ly} (h : DkL w D d F L) {i : Nat} (hi : i < d.k) {s : Nat → ByteArray} (ho : Only (L.lb i) w w1)
    (hb : w1.heap[L.lb i]? = some (.cells (lc s (d.r i).n).toArray 5 (0, 0))) (hok : ∀ k, (s k).size = 64) : DkL w1 D (d.at i { d.r i with s := s }) F L := by
  have hr : ∀ j, j ≠ i → (d.at i { d.r i with s := s }).r j = d.r j := fun j hj => upd_off _ _ hj
  have hri : (d.at i { d.r i with s := s }).r i = { d.r i with s := s } := upd_at _ _ _
  have hrn : ∀ j, ((d.at i { d.r i with s := s }).r j).n = (d.r j).n := fun j => by
    by_cases c : j = i
    · subst c; rw [hri]
    · rw [hr j c]
  have hrq : ∀ j, ((d.at i { d.r i with s := s }).r j).q = (d.r j).q := fun j => by
    by_cases c : j = i
    · subst c; rw [hri]
    · rw [hr j c]
  have hkn : ∀ (b : Nat) (cs : Array Value) (T : TypeId) (fr : Nat × Nat), w.heap[b]? = some (.cells cs T fr) → T ≠ 5 → w1.heap[b]? = w.heap[b]? := fun b cs T fr h1 h2 =>
    ho.block b (fun e => by rw [e, h.lb i hi] at h1; simp at h1; exact h2 h1.2.1.symm)
  refine ⟨(hkn D _ _ _ h.dk (by decide)).trans h.dk, ?_, ?_, ?_, h.injl, ?_, ?_, h.ownD, h.ownR, h.ownl, ?_, ?_, Dk.at_ok h.ok i ⟨(h.ok.r i hi).n, hok, (h.ok.r i hi).q⟩⟩
  · intro _
    obtain ⟨l, g1, g2, g3, g4⟩ := h.rows (by omega)
    refine ⟨l, (hkn _ _ _ _ g1 (by decide)).trans g1, g2, g3, fun j hj => ?_⟩
    rw [hrn, hrq]
    exact g4 j hj
  · intro j hj
    by_cases c : j = i
    · subst c; rw [hri]; exact hb
    · rw [hr j c, ho.block _ (fun e => c (h.injl j i hj hi e))]
      exact h.lb j hj
  · intro j hj hq
    rw [hrq] at hq ⊢
    obtain ⟨l', k1, k2⟩ := h.qb j hj hq
    exact ⟨l', (hkn _ _ _ _ k1 (by decide)).trans k1, k2⟩
  · intro a b ha hb' hqa hqb e
    rw [hrq] at hqa hqb
    exact h.injq a b ha hb' hqa hqb e
  · exact h.kr.kept (fun b cs fr h1 _ => hkn b cs _ fr h1 (by decide)) fun _ hb => hb
  · intro j hj hq
    rw [hrq] at hq
    exact h.ownq j hj hq
  · intro b hb'
    rw [ho.size]
    exact h.lt b hb'

/-- One write laid over what lasts. -/
theorem copyW {w : World} {D : Nat} {d : Dk} {F : Nat → Prop} {L : Ly} (h : DkL w D d F L) {i : Nat} (hi : i < d.k) {t : Nat} (ht : t < (d.r i).q.length) (c ty : Nat) :
    (Builtin.copy_ #[52, 52] ty #[.slice (some ⟨L.lb i, (qx (d.r i).q t).1 * 64, none⟩) 64 c, .slice (some ⟨L.qb i, t * 65 + 1, none⟩) 64 64]).run Try.prog w =
      .ok (goInt 64) (w.setRow (L.lb i) (lc (upd (d.r i).s (qx (d.r i).q t).1 (qx (d.r i).q t).2) (d.r i).n).toArray) := by
  have hx := (h.ok.r i hi).q _ (qx_mem ht)
  have r := run_copy_row (P := Try.prog) w 52 52 ty 5 (L.lb i) ((qx (d.r i).q t).1 * 64) 64 c ⟨L.qb i, t * 65 + 1, none⟩ 64 64 _ 5 (dc (qx (d.r i).q t).2) Try.underlying52 sizeU8 (h.lb i hi) (by rw [dc_length]; rfl) (fun j v hj => by
      have hj' : j < 64 := by
        have := (List.getElem?_eq_some_iff.1 hj).1
        rwa [dc_length] at this
      rw [dc_get _ _ hj'] at hj
      rw [Addr.add_lit, (h.cQ hi ht).2 j hj', hj]) (by rw [dc_length, List.size_toArray, lc_length]; omega) (fun v hv => by
      unfold dc at hv
      rw [List.mem_map] at hv
      obtain ⟨_, _, rfl⟩ := hv
      rfl)
  rw [dc_length, List.append_assoc, Nat.mul_comm _ 64, lc_splice _ _ _ _ hx.1] at r
  rw [Nat.mul_comm _ 64]
  exact r

theorem u64_ne {w : World} {D : Nat} {d : Dk} {F : Nat → Prop} {L : Ly} (h : DkL w D d F L) {i : Nat} (hi : i < d.k) {b : Nat} {cs : Array Value} {fr : Nat × Nat} (hb : w.heap[b]? = some (.cells cs 32 fr)) : b ≠ L.lb i := fun e => by
  rw [e, h.lb i hi] at hb
  simp at hb

theorem at_set {d : Dk} {i : Nat} {kp : Nat → Bool} : d.at i ((d.r i).set kp) = d.at i { n := (d.r i).n, s := stL kp (d.r i).s (d.r i).q (d.r i).q.length, q := [] } := rfl

set_option maxRecDepth 100000 in
set_option maxHeartbeats 3200000 in
theorem settleAll {w : World} {D : Nat} {d : Dk} {F : Nat → Prop} {L : Ly} (h : DkL w D d F L) {i : Nat} (hi : i < d.k) (hq : (d.r i).q.length ≤ 1048576) {kp : Nat → Bool} (hkp : ∀ m, kp m = true) :
    Calls Try.prog 45 #[rp L i, .func (.func 70) #[] #[]] w fun e w' => e = .returned (.tuple #[]) ∧ DkL w' D (d.at i ((d.r i).set kp)) F L ∧ Kept F w w' ∧ Nums w w' ∧ w'.heap.size = w.heap.size := by
  obtain ⟨c1, c2, c3⟩ := h.cR hi
  have hn := (h.ok.r i hi).n
  have hlbF := h.ownl i hi
  have hRF := h.ownR (by omega)
  unfold rp qv at *
  have HF : Hid (∀ (t : Nat) wr, t ≤ 1048576 → Only (L.lb i) w wr → Calls Try.prog 70 #[.int .i64 (t : Int)] wr fun e w' => e = .returned (.bool (kp t)) ∧ wr = w') := fun t wr ht ho => by
    rw [hkp]; exact kAll _ _
  go_enter Try.func45, Try.ntmps45
  go_wp2
  go_loopw [11] (fun iv wr => ∃ t : Nat, t ≤ (d.r i).q.length ∧ iv = .int .i64 (t : Int) ∧ Only (L.lb i) w wr ∧ wr.heap[L.lb i]? = some (.cells (lc (stL kp (d.r i).s (d.r i).q t) (d.r i).n).toArray 5 (0, 0))) (fun iv _ => (d.r i).q.length - (intOf iv).toNat)
  case atStart => exact ⟨0, Nat.zero_le _, rfl, Only.refl _ _, h.lb i hi⟩
  case round =>
    obtain ⟨t, ht, rfl, ho, hb⟩ := hrel
    have hsz : ∀ k, (stL kp (d.r i).s (d.r i).q t k).size = 64 := fun k => stL_size (h.ok.r i hi).s (fun x hx => ((h.ok.r i hi).q x hx).2) t ht k
    have hm := h.mid hi ho hb hsz
    have HS : Hid _ := hsz
    clear hsz
    obtain ⟨m1, m2, m3⟩ := hm.cR (i := i) hi
    have hri : (d.at i { d.r i with s := stL kp (d.r i).s (d.r i).q t }).r i = { d.r i with s := stL kp (d.r i).s (d.r i).q t } := upd_at _ _ _
    have HRI : Hid _ := hri
    rw [hri] at m1 m2
    clear hri
    unfold qv at m2
    by_cases c : t < (d.r i).q.length
    · dsimp only at m1 m2
      rw [pt_pos _ (by omega), cp_pos _ (by omega)] at m2
      have HK := hid (HF.out t wr (by omega) ho)
      cases hkt : kp t
      · rw [hkt] at HK
        have hst := stL_no hkt (d.r i).s (d.r i).q
        have HST : Hid _ := hst
        clear hst hkt
        go_wp2_with fail
        refine HK.out.mono ?_
        rintro e w1 ⟨rfl, rfl⟩
        go_wp2
        go_roundw
        case rel => exact ⟨t + 1, by omega, by go_num, ho, by rw [HST.out]; exact hb⟩
        case measure => simp [intOf] <;> omega
      · rw [hkt] at HK
        have hst := stL_yes hkt (d.r i).s (d.r i).q
        have HST : Hid _ := hst
        clear hst hkt
        have hq1 : t < ((d.at i { d.r i with s := stL kp (d.r i).s (d.r i).q t }).r i).q.length := by rw [HRI.out]; exact c
        have q1 := (hm.cQ (i := i) hi hq1).1
        have cp1 := copyW hm.drew (i := i) hi hq1 (64 * (d.r i).n - (qx (d.r i).q t).1 * 64) 3
        have hx := (h.ok.r i hi).q _ (qx_mem c)
        have CA := hid <| at_ hm.drew (i := i) hi (s := (qx (d.r i).q t).1) (by rw [HRI.out]; exact hx.1)
        rw [HRI.out] at q1 cp1 CA
        dsimp only at q1 cp1 CA
        unfold rp at CA
        have hx1 := hx.1
        clear hq1 hx
        generalize hgx : (qx (d.r i).q t).1 = xs at q1 cp1 CA hx1 HST
        have HGX : Hid _ := hgx
        clear hgx
        go_wp2_with fail
        refine HK.out.mono ?_
        rintro e w1 ⟨rfl, rfl⟩
        go_wp2_with fail
        go_region_with (go_at_call 62; refine CA.out.mono ?_; rintro e w1 ⟨rfl, rfl⟩)
        all_goals try go_wp2
        all_goals go_roundw
        case rel => exact ⟨t + 1, by omega, by go_num, ho.drew.row _, by rw [HST.out, blk_row (w := wr.drew) hb]⟩
        case measure => simp [intOf] <;> omega
    · have ht2 : t = (d.r i).q.length := by omega
      subst ht2
      have hres := h.reset hi ho.size hb ho.block HS.out
      have hk1 : Kept F w (wr.setCell ⟨L.R, i * 2 + 1, none⟩ (.slice none 0 0)) := Kept.setCell ⟨ho.os, ho.tape, ho.output, by rw [ho.size]; exact Nat.le_refl _, fun k _ hF => ho.block k fun e => hF (by rw [e]; exact hlbF)⟩ hRF _
      have hn1 : Nums w (wr.setCell ⟨L.R, i * 2 + 1, none⟩ (.slice none 0 0)) := by
        obtain ⟨l, g1, _⟩ := h.rows (by omega)
        have g2 : wr.heap[L.R]? = _ := (ho.block _ (fun e => lb_ne_R h hi e.symm)).trans g1
        exact Nums.trans (fun b cs fr hb => ho.block b (u64_ne h hi hb)) (Nums.setCell g2 (by decide) _)
      have hs1 : (wr.setCell ⟨L.R, i * 2 + 1, none⟩ (.slice none 0 0)).heap.size = w.heap.size := by rw [← ho.size]; simp [World.setCell]
      have HP : Hid (DkL (wr.setCell ⟨L.R, i * 2 + 1, none⟩ (.slice none 0 0)) D (d.at i ((d.r i).set kp)) F L ∧ Kept F w (wr.setCell ⟨L.R, i * 2 + 1, none⟩ (.slice none 0 0)) ∧ Nums w (wr.setCell ⟨L.R, i * 2 + 1, none⟩ (.slice none 0 0)) ∧ (wr.setCell ⟨L.R, i * 2 + 1, none⟩ (.slice none 0 0)).heap.size = w.heap.size) := ⟨hres, hk1, hn1, hs1⟩
      clear hres hk1 hn1 hs1
      go_wp2
      go_end0
      exact ⟨rfl, HP.out⟩

set_option maxRecDepth 100000 in
set_option maxHeartbeats 3200000 in
theorem settleNone {w : World} {D : Nat} {d : Dk} {F : Nat → Prop} {L : Ly} (h : DkL w D d F L) {i : Nat} (hi : i < d.k) (hq : (d.r i).q.length ≤ 1048576) {kp : Nat → Bool} (hkp : ∀ m, kp m = false) :
    Calls Try.prog 45 #[rp L i, .func (.func 63) #[] #[]] w fun e w' => e = .returned (.tuple #[]) ∧ DkL w' D (d.at i ((d.r i).set kp)) F L ∧ Kept F w w' ∧ Nums w w' ∧ w'.heap.size = w.heap.size := by
  obtain ⟨c1, c2, c3⟩ := h.cR hi
  have hn := (h.ok.r i hi).n
  have hlbF := h.ownl i hi
  have hRF := h.ownR (by omega)
  unfold rp qv at *
  have HF : Hid (∀ (t : Nat) wr, t ≤ 1048576 → Only (L.lb i) w wr → Calls Try.prog 63 #[.int .i64 (t : Int)] wr fun e w' => e = .returned (.bool (kp t)) ∧ wr = w') := fun t wr ht ho => by
    rw [hkp]; exact kNone _ _
  go_enter Try.func45, Try.ntmps45
  go_wp2
  go_loopw [11] (fun iv wr => ∃ t : Nat, t ≤ (d.r i).q.length ∧ iv = .int .i64 (t : Int) ∧ Only (L.lb i) w wr ∧ wr.heap[L.lb i]? = some (.cells (lc (stL kp (d.r i).s (d.r i).q t) (d.r i).n).toArray 5 (0, 0))) (fun iv _ => (d.r i).q.length - (intOf iv).toNat)
  case atStart => exact ⟨0, Nat.zero_le _, rfl, Only.refl _ _, h.lb i hi⟩
  case round =>
    obtain ⟨t, ht, rfl, ho, hb⟩ := hrel
    have hsz : ∀ k, (stL kp (d.r i).s (d.r i).q t k).size = 64 := fun k => stL_size (h.ok.r i hi).s (fun x hx => ((h.ok.r i hi).q x hx).2) t ht k
    have hm := h.mid hi ho hb hsz
    have HS : Hid _ := hsz
    clear hsz
    obtain ⟨m1, m2, m3⟩ := hm.cR (i := i) hi
    have hri : (d.at i { d.r i with s := stL kp (d.r i).s (d.r i).q t }).r i = { d.r i with s := stL kp (d.r i).s (d.r i).q t } := upd_at _ _ _
    have HRI : Hid _ := hri
    rw [hri] at m1 m2
    clear hri
    unfold qv at m2
    by_cases c : t < (d.r i).q.length
    · dsimp only at m1 m2
      rw [pt_pos _ (by omega), cp_pos _ (by omega)] at m2
      have HK := hid (HF.out t wr (by omega) ho)
      cases hkt : kp t
      · rw [hkt] at HK
        have hst := stL_no hkt (d.r i).s (d.r i).q
        have HST : Hid _ := hst
        clear hst hkt
        go_wp2_with fail
        refine HK.out.mono ?_
        rintro e w1 ⟨rfl, rfl⟩
        go_wp2
        go_roundw
        case rel => exact ⟨t + 1, by omega, by go_num, ho, by rw [HST.out]; exact hb⟩
        case measure => simp [intOf] <;> omega
      · rw [hkt] at HK
        have hst := stL_yes hkt (d.r i).s (d.r i).q
        have HST : Hid _ := hst
        clear hst hkt
        have hq1 : t < ((d.at i { d.r i with s := stL kp (d.r i).s (d.r i).q t }).r i).q.length := by rw [HRI.out]; exact c
        have q1 := (hm.cQ (i := i) hi hq1).1
        have cp1 := copyW hm.drew (i := i) hi hq1 (64 * (d.r i).n - (qx (d.r i).q t).1 * 64) 3
        have hx := (h.ok.r i hi).q _ (qx_mem c)
        have CA := hid <| at_ hm.drew (i := i) hi (s := (qx (d.r i).q t).1) (by rw [HRI.out]; exact hx.1)
        rw [HRI.out] at q1 cp1 CA
        dsimp only at q1 cp1 CA
        unfold rp at CA
        have hx1 := hx.1
        clear hq1 hx
        generalize hgx : (qx (d.r i).q t).1 = xs at q1 cp1 CA hx1 HST
        have HGX : Hid _ := hgx
        clear hgx
        go_wp2_with fail
        refine HK.out.mono ?_
        rintro e w1 ⟨rfl, rfl⟩
        go_wp2_with fail
        go_region_with (go_at_call 62; refine CA.out.mono ?_; rintro e w1 ⟨rfl, rfl⟩)
        all_goals try go_wp2
        all_goals go_roundw
        case rel => exact ⟨t + 1, by omega, by go_num, ho.drew.row _, by rw [HST.out, blk_row (w := wr.drew) hb]⟩
        case measure => simp [intOf] <;> omega
    · have ht2 : t = (d.r i).q.length := by omega
      subst ht2
      have hres := h.reset hi ho.size hb ho.block HS.out
      have hk1 : Kept F w (wr.setCell ⟨L.R, i * 2 + 1, none⟩ (.slice none 0 0)) := Kept.setCell ⟨ho.os, ho.tape, ho.output, by rw [ho.size]; exact Nat.le_refl _, fun k _ hF => ho.block k fun e => hF (by rw [e]; exact hlbF)⟩ hRF _
      have hn1 : Nums w (wr.setCell ⟨L.R, i * 2 + 1, none⟩ (.slice none 0 0)) := by
        obtain ⟨l, g1, _⟩ := h.rows (by omega)
        have g2 : wr.heap[L.R]? = _ := (ho.block _ (fun e => lb_ne_R h hi e.symm)).trans g1
        exact Nums.trans (fun b cs fr hb => ho.block b (u64_ne h hi hb)) (Nums.setCell g2 (by decide) _)
      have hs1 : (wr.setCell ⟨L.R, i * 2 + 1, none⟩ (.slice none 0 0)).heap.size = w.heap.size := by rw [← ho.size]; simp [World.setCell]
      have HP : Hid (DkL (wr.setCell ⟨L.R, i * 2 + 1, none⟩ (.slice none 0 0)) D (d.at i ((d.r i).set kp)) F L ∧ Kept F w (wr.setCell ⟨L.R, i * 2 + 1, none⟩ (.slice none 0 0)) ∧ Nums w (wr.setCell ⟨L.R, i * 2 + 1, none⟩ (.slice none 0 0)) ∧ (wr.setCell ⟨L.R, i * 2 + 1, none⟩ (.slice none 0 0)).heap.size = w.heap.size) := ⟨hres, hk1, hn1, hs1⟩
      clear hres hk1 hn1 hs1
      go_wp2
      go_end0
      exact ⟨rfl, HP.out⟩

set_option maxRecDepth 100000 in
set_option maxHeartbeats 3200000 in
theorem settleBits {w : World} {D : Nat} {d : Dk} {F : Nat → Prop} {L : Ly} (h : DkL w D d F L) {i : Nat} (hi : i < d.k) (hq : (d.r i).q.length ≤ 1048576) {kp : Nat → Bool} {kbk : Nat} {x : Int} (hkb : w.heap[kbk]? = some (.cells #[.int .u64 x] 32 (0, 0))) (hx0 : 0 ≤ x) (hx1 : x < 18446744073709551616) (hkp : ∀ m, kp m = bitB x ((m % 64 : Nat) : Int)) :
    Calls Try.prog 45 #[rp L i, .func (.func 64) #[] #[.pointer (some ⟨kbk, 0, none⟩)]] w fun e w' => e = .returned (.tuple #[]) ∧ DkL w' D (d.at i ((d.r i).set kp)) F L ∧ Kept F w w' ∧ Nums w w' ∧ w'.heap.size = w.heap.size := by
  obtain ⟨c1, c2, c3⟩ := h.cR hi
  have hn := (h.ok.r i hi).n
  have hlbF := h.ownl i hi
  have hRF := h.ownR (by omega)
  unfold rp qv at *
  have HF : Hid (∀ (t : Nat) wr, t ≤ 1048576 → Only (L.lb i) w wr → Calls Try.prog 64 #[.int .i64 (t : Int), .pointer (some ⟨kbk, 0, none⟩)] wr fun e w' => e = .returned (.bool (kp t)) ∧ wr = w') := fun t wr ht ho => by
    rw [hkp]; exact kBits x t kbk wr hx0 hx1 ht ((ho.block _ (u64_ne h hi hkb)).trans hkb)
  clear hkb
  go_enter Try.func45, Try.ntmps45
  go_wp2
  go_loopw [11] (fun iv wr => ∃ t : Nat, t ≤ (d.r i).q.length ∧ iv = .int .i64 (t : Int) ∧ Only (L.lb i) w wr ∧ wr.heap[L.lb i]? = some (.cells (lc (stL kp (d.r i).s (d.r i).q t) (d.r i).n).toArray 5 (0, 0))) (fun iv _ => (d.r i).q.length - (intOf iv).toNat)
  case atStart => exact ⟨0, Nat.zero_le _, rfl, Only.refl _ _, h.lb i hi⟩
  case round =>
    obtain ⟨t, ht, rfl, ho, hb⟩ := hrel
    have hsz : ∀ k, (stL kp (d.r i).s (d.r i).q t k).size = 64 := fun k => stL_size (h.ok.r i hi).s (fun x hx => ((h.ok.r i hi).q x hx).2) t ht k
    have hm := h.mid hi ho hb hsz
    have HS : Hid _ := hsz
    clear hsz
    obtain ⟨m1, m2, m3⟩ := hm.cR (i := i) hi
    have hri : (d.at i { d.r i with s := stL kp (d.r i).s (d.r i).q t }).r i = { d.r i with s := stL kp (d.r i).s (d.r i).q t } := upd_at _ _ _
    have HRI : Hid _ := hri
    rw [hri] at m1 m2
    clear hri
    unfold qv at m2
    by_cases c : t < (d.r i).q.length
    · dsimp only at m1 m2
      rw [pt_pos _ (by omega), cp_pos _ (by omega)] at m2
      have HK := hid (HF.out t wr (by omega) ho)
      cases hkt : kp t
      · rw [hkt] at HK
        have hst := stL_no hkt (d.r i).s (d.r i).q
        have HST : Hid _ := hst
        clear hst hkt
        go_wp2_with fail
        refine HK.out.mono ?_
        rintro e w1 ⟨rfl, rfl⟩
        go_wp2
        go_roundw
        case rel => exact ⟨t + 1, by omega, by go_num, ho, by rw [HST.out]; exact hb⟩
        case measure => simp [intOf] <;> omega
      · rw [hkt] at HK
        have hst := stL_yes hkt (d.r i).s (d.r i).q
        have HST : Hid _ := hst
        clear hst hkt
        have hq1 : t < ((d.at i { d.r i with s := stL kp (d.r i).s (d.r i).q t }).r i).q.length := by rw [HRI.out]; exact c
        have q1 := (hm.cQ (i := i) hi hq1).1
        have cp1 := copyW hm.drew (i := i) hi hq1 (64 * (d.r i).n - (qx (d.r i).q t).1 * 64) 3
        have hx := (h.ok.r i hi).q _ (qx_mem c)
        have CA := hid <| at_ hm.drew (i := i) hi (s := (qx (d.r i).q t).1) (by rw [HRI.out]; exact hx.1)
        rw [HRI.out] at q1 cp1 CA
        dsimp only at q1 cp1 CA
        unfold rp at CA
        have hx1 := hx.1
        clear hq1 hx
        generalize hgx : (qx (d.r i).q t).1 = xs at q1 cp1 CA hx1 HST
        have HGX : Hid _ := hgx
        clear hgx
        go_wp2_with fail
        refine HK.out.mono ?_
        rintro e w1 ⟨rfl, rfl⟩
        go_wp2_with fail
        go_region_with (go_at_call 62; refine CA.out.mono ?_; rintro e w1 ⟨rfl, rfl⟩)
        all_goals try go_wp2
        all_goals go_roundw
        case rel => exact ⟨t + 1, by omega, by go_num, ho.drew.row _, by rw [HST.out, blk_row (w := wr.drew) hb]⟩
        case measure => simp [intOf] <;> omega
    · have ht2 : t = (d.r i).q.length := by omega
      subst ht2
      have hres := h.reset hi ho.size hb ho.block HS.out
      have hk1 : Kept F w (wr.setCell ⟨L.R, i * 2 + 1, none⟩ (.slice none 0 0)) := Kept.setCell ⟨ho.os, ho.tape, ho.output, by rw [ho.size]; exact Nat.le_refl _, fun k _ hF => ho.block k fun e => hF (by rw [e]; exact hlbF)⟩ hRF _
      have hn1 : Nums w (wr.setCell ⟨L.R, i * 2 + 1, none⟩ (.slice none 0 0)) := by
        obtain ⟨l, g1, _⟩ := h.rows (by omega)
        have g2 : wr.heap[L.R]? = _ := (ho.block _ (fun e => lb_ne_R h hi e.symm)).trans g1
        exact Nums.trans (fun b cs fr hb => ho.block b (u64_ne h hi hb)) (Nums.setCell g2 (by decide) _)
      have hs1 : (wr.setCell ⟨L.R, i * 2 + 1, none⟩ (.slice none 0 0)).heap.size = w.heap.size := by rw [← ho.size]; simp [World.setCell]
      have HP : Hid (DkL (wr.setCell ⟨L.R, i * 2 + 1, none⟩ (.slice none 0 0)) D (d.at i ((d.r i).set kp)) F L ∧ Kept F w (wr.setCell ⟨L.R, i * 2 + 1, none⟩ (.slice none 0 0)) ∧ Nums w (wr.setCell ⟨L.R, i * 2 + 1, none⟩ (.slice none 0 0)) ∧ (wr.setCell ⟨L.R, i * 2 + 1, none⟩ (.slice none 0 0)).heap.size = w.heap.size) := ⟨hres, hk1, hn1, hs1⟩
      clear hres hk1 hn1 hs1
      go_wp2
      go_end0
      exact ⟨rfl, HP.out⟩

theorem settle {w : World} {D : Nat} {d : Dk} {F : Nat → Prop} {L : Ly} (h : DkL w D d F L) {i : Nat} (hi : i < d.k) (hq : (d.r i).q.length ≤ 1048576) {fv : Value} {kp : Nat → Bool} (hf : FV w fv kp) :
    Calls Try.prog 45 #[rp L i, fv] w fun e w' => e = .returned (.tuple #[]) ∧ DkL w' D (d.at i ((d.r i).set kp)) F L ∧ Kept F w w' ∧ Nums w w' ∧ w'.heap.size = w.heap.size := by
  rcases hf with ⟨rfl, hkp⟩ | ⟨rfl, hkp⟩ | ⟨b, x, rfl, hb, h0, h1, hkp⟩
  · exact settleAll h hi hq hkp
  · exact settleNone h hi hq hkp
  · exact settleBits h hi hq hb h0 h1 hkp

end Go.Proofs.Ytaojoecmbgmhoaa.Wd
