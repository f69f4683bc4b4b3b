/-
  Several texts in one. How the document's disk lies in memory: by its pointer ('RkL'), its regions by theirs; what a call may turn of it. Nothing is asked but what each fact names. The walks of the document's Sectors, Read and Image: each answers what the disk as plain data says, and leaves memory as it is. The walks of the document's None and New: a disk of regions of noughts, one for each of the first eight sizes. The walk of the document's New.
-/
import Derived.Test.YthmholgfnjpgbaaGreatDc
import Derived.Test.YthmholgfnjpgbaaGreatDkP
import Derived.Deep.AppendLies
namespace Go.Proofs.YthmholgfnjpgbaaGreat.Wr
open Go.ChangeShapes Go.WideShapes Go.ChangeAt Go.RowKit Go.Proofs.YthmholgfnjpgbaaGreat.M Go.Proofs.YthmholgfnjpgbaaGreat.Wd

/-- The cells of sectors. -/
def sl (s : Nat → ByteArray) (n : Nat) : List Value := (List.range n).map fun k => .string (s k)
theorem sl_length (s : Nat → ByteArray) (n : Nat) : (sl s n).length = n := by simp [sl]
theorem sl_get (s : Nat → ByteArray) (n k : Nat) (h : k < n) : (sl s n)[k]? = some (.string (s k)) := by
  unfold sl
  rw [List.getElem?_map, List.getElem?_range h]
  rfl
theorem sl_succ (s : Nat → ByteArray) (n : Nat) : sl s (n + 1) = sl s n ++ [.string (s n)] := by
  unfold sl
  rw [List.range_succ, List.map_append]
  rfl
theorem sl_set (s : Nat → ByteArray) (n k : Nat) (x : ByteArray) (h : k < n) : (sl s n).set k (.string x) = sl (upd s k x) n := by
  apply List.ext_getElem?
  intro j
  by_cases hj : j < n
  · rw [sl_get _ _ _ hj]
    by_cases c : j = k
    · subst c
      rw [List.getElem?_set_self (by rw [sl_length]; exact hj), upd_at]
    · rw [List.getElem?_set_ne (fun e => c e.symm), sl_get _ _ _ hj, upd_off _ _ c]
  · rw [List.getElem?_eq_none (by rw [List.length_set, sl_length]; omega), List.getElem?_eq_none (by rw [sl_length]; omega)]
/-- The cells of a queue. -/
def qs : List (Nat × ByteArray) → List Value
  | [] => []
  | x :: q => .int .i64 (x.1 : Int) :: .string x.2 :: qs q
theorem qs_length : ∀ q, (qs q).length = q.length * 2
  | [] => rfl
  | x :: q => by
    show (qs q).length + 1 + 1 = (q.length + 1) * 2
    rw [qs_length q]
    omega
theorem qs_app : ∀ (q p : List (Nat × ByteArray)), qs (q ++ p) = qs q ++ qs p
  | [], p => rfl
  | x :: q, p => by
    show _ :: _ :: qs (q ++ p) = _
    rw [qs_app q p]
    rfl
theorem qs_get : ∀ (q : List (Nat × ByteArray)) (k : Nat), k < q.length → (qs q)[k * 2]? = some (.int .i64 ((qx q k).1 : Int)) ∧ (qs q)[k * 2 + 1]? = some (.string (qx q k).2)
  | x :: q, 0, _ => ⟨rfl, rfl⟩
  | x :: q, k + 1, h => by
    have := qs_get q k (by simpa using h)
    have e1 : (k + 1) * 2 = k * 2 + 1 + 1 := by omega
    rw [e1]
    exact this

/-- Where the document's disk's parts lie. -/
structure Lr where
  R : Nat
  rc : Nat
  rb : Nat → Nat
  lb : Nat → Nat
  lm : Nat → Nat
  qb : Nat → Nat
  qm : Nat → Nat
  ta : Int
  ka : Option Addr
  kc : Nat

structure RkL (w : World) (D : Nat) (d : Dk) (F : Nat → Prop) (L : Lr) : Prop where
  dk : w.heap[D]? = some (.cells #[.slice (pt d.k L.R) d.k (cp d.k L.rc), .bool d.off, .int .i64 L.ta, .int .i64 (aL d.ask), .slice L.ka (aK d.ask).length L.kc] 69 (0, 0))
  ta : ∀ a l K, d.ask = some (a, l, K) → L.ta = (a : Int)
  rows : 0 < d.k → ∃ l : List Value, w.heap[L.R]? = some (.cells l.toArray 70 (0, 0)) ∧ l.length = L.rc ∧ d.k ≤ L.rc ∧ L.rc ≤ maxLen ∧ ∀ i, i < d.k → l[i]? = some (.pointer (some ⟨L.rb i, 0, none⟩))
  reg : ∀ i, i < d.k → w.heap[L.rb i]? = some (.cells #[.slice (pt (d.r i).n (L.lb i)) (d.r i).n (cp (d.r i).n (L.lm i)), .slice (pt (d.r i).q.length (L.qb i)) (d.r i).q.length (cp (d.r i).q.length (L.qm i))] 73 (0, 0))
  las : ∀ i, i < d.k → 0 < (d.r i).n → ∃ l : List Value, w.heap[L.lb i]? = some (.cells l.toArray 9 (0, 0)) ∧ l.length = L.lm i ∧ (d.r i).n ≤ L.lm i ∧ L.lm i ≤ maxLen ∧ l.take (d.r i).n = sl (d.r i).s (d.r i).n
  que : ∀ i, i < d.k → 0 < (d.r i).q.length → ∃ l : List Value, w.heap[L.qb i]? = some (.cells l.toArray 143 (0, 0)) ∧ l.length = L.qm i * 2 ∧ (d.r i).q.length ≤ L.qm i ∧ L.qm i ≤ maxLen ∧ l.take ((d.r i).q.length * 2) = qs (d.r i).q
  injr : ∀ i j, i < d.k → j < d.k → L.rb i = L.rb j → i = j
  injl : ∀ i j, i < d.k → j < d.k → 0 < (d.r i).n → 0 < (d.r j).n → L.lb i = L.lb j → i = j
  injq : ∀ i j, i < d.k → j < d.k → 0 < (d.r i).q.length → 0 < (d.r j).q.length → L.qb i = L.qb j → i = j
  kr : KO F w L.ka (aK d.ask)
  ownD : F D
  ownR : 0 < d.k → F L.R
  ownr : ∀ i, i < d.k → F (L.rb i)
  ownl : ∀ i, i < d.k → 0 < (d.r i).n → F (L.lb i)
  ownq : ∀ i, i < d.k → 0 < (d.r i).q.length → F (L.qb i)
  lt : ∀ b, F b → b < w.heap.size
  ok : d.ok

theorem RkL.kept {w w' : World} {D : Nat} {d : Dk} {F : Nat → Prop} {L : Lr} (h : RkL w D d F L) (hs : w.heap.size ≤ w'.heap.size) (hk : ∀ b, F b → w'.heap[b]? = w.heap[b]?) : RkL w' D d F L where
  dk := (hk _ h.ownD).trans h.dk
  ta := h.ta
  rows := fun hp => by
    obtain ⟨l, h1, h2⟩ := h.rows hp
    exact ⟨l, (hk _ (h.ownR hp)).trans h1, h2⟩
  reg := fun i hi => (hk _ (h.ownr i hi)).trans (h.reg i hi)
  las := fun i hi hn => by
    obtain ⟨l, h1, h2⟩ := h.las i hi hn
    exact ⟨l, (hk _ (h.ownl i hi hn)).trans h1, h2⟩
  que := fun i hi hq => by
    obtain ⟨l, h1, h2⟩ := h.que i hi hq
    exact ⟨l, (hk _ (h.ownq i hi hq)).trans h1, h2⟩
  injr := h.injr
  injl := h.injl
  injq := h.injq
  kr := h.kr.kept (fun b _ _ _ hb => hk b hb) fun _ hb => hb
  ownD := h.ownD
  ownR := h.ownR
  ownr := h.ownr
  ownl := h.ownl
  ownq := h.ownq
  lt := fun b hb => Nat.lt_of_lt_of_le (h.lt b hb) hs
  ok := h.ok

theorem RkL.more {w : World} {D : Nat} {d : Dk} {F G : Nat → Prop} {L : Lr} (h : RkL w D d F L) (hFG : ∀ b, F b → G b) (hlt : ∀ b, G b → b < w.heap.size) : RkL w D d G L where
  dk := h.dk
  ta := h.ta
  rows := h.rows
  reg := h.reg
  las := h.las
  que := h.que
  injr := h.injr
  injl := h.injl
  injq := h.injq
  kr := h.kr.kept (fun _ _ _ _ _ => rfl) hFG
  ownD := hFG _ h.ownD
  ownR := fun hp => hFG _ (h.ownR hp)
  ownr := fun i hi => hFG _ (h.ownr i hi)
  ownl := fun i hi hn => hFG _ (h.ownl i hi hn)
  ownq := fun i hi hq => hFG _ (h.ownq i hi hq)
  lt := hlt
  ok := h.ok

theorem RkL.congr {w : World} {D : Nat} {d d' : Dk} {F : Nat → Prop} {L : Lr} (h : RkL w D d F L) (hk : d'.k = d.k) (ho : d'.off = d.off) (ha : d'.ask = d.ask) (hr : ∀ j, j < d.k → d'.r j = d.r j) : RkL w D d' F L where
  dk := by rw [hk, ho, ha]; exact h.dk
  ta := by rw [ha]; exact h.ta
  rows := fun hp => by
    rw [hk] at hp ⊢
    exact h.rows hp
  reg := fun i hi => by rw [hk] at hi; rw [hr i hi]; exact h.reg i hi
  las := fun i hi => by rw [hk] at hi; rw [hr i hi]; exact h.las i hi
  que := fun i hi => by rw [hk] at hi; rw [hr i hi]; exact h.que i hi
  injr := fun i j hi hj => by rw [hk] at hi hj; exact h.injr i j hi hj
  injl := fun i j hi hj => by rw [hk] at hi hj; rw [hr i hi, hr j hj]; exact h.injl i j hi hj
  injq := fun i j hi hj => by rw [hk] at hi hj; rw [hr i hi, hr j hj]; exact h.injq i j hi hj
  kr := by rw [ha]; exact h.kr
  ownD := h.ownD
  ownR := fun hp => by rw [hk] at hp; exact h.ownR hp
  ownr := fun i hi => by rw [hk] at hi; exact h.ownr i hi
  ownl := fun i hi => by rw [hk] at hi; rw [hr i hi]; exact h.ownl i hi
  ownq := fun i hi => by rw [hk] at hi; rw [hr i hi]; exact h.ownq i hi
  lt := h.lt
  ok := ⟨by rw [hk]; exact h.ok.k, fun i hi => by rw [hk] at hi; rw [hr i hi]; exact h.ok.r i hi, fun a l K e => by rw [ha] at e; rw [hk]; exact h.ok.ask a l K e⟩

/-- One region has turned. -/
theorem RkL.turn {w w' : World} {D : Nat} {d : Dk} {F : Nat → Prop} {L : Lr} (h : RkL w D d F L) {i : Nat} (hi : i < d.k) {r : Rg} (hr : r.ok) {lb lm qb qm : Nat} (hsz : w.heap.size ≤ w'.heap.size)
    (hk : ∀ b, b < w.heap.size → b ≠ L.rb i → (0 < (d.r i).n → b ≠ L.lb i) → (0 < (d.r i).q.length → b ≠ L.qb i) → w'.heap[b]? = w.heap[b]?)
    (hreg : w'.heap[L.rb i]? = some (.cells #[.slice (pt r.n lb) r.n (cp r.n lm), .slice (pt r.q.length qb) r.q.length (cp r.q.length qm)] 73 (0, 0)))
    (hl : 0 < r.n → ∃ l : List Value, w'.heap[lb]? = some (.cells l.toArray 9 (0, 0)) ∧ l.length = lm ∧ r.n ≤ lm ∧ lm ≤ maxLen ∧ l.take r.n = sl r.s r.n)
    (hl2 : 0 < r.n → (0 < (d.r i).n ∧ lb = L.lb i) ∨ w.heap.size ≤ lb)
    (hq : 0 < r.q.length → ∃ l : List Value, w'.heap[qb]? = some (.cells l.toArray 143 (0, 0)) ∧ l.length = qm * 2 ∧ r.q.length ≤ qm ∧ qm ≤ maxLen ∧ l.take (r.q.length * 2) = qs r.q)
    (hq2 : 0 < r.q.length → (0 < (d.r i).q.length ∧ qb = L.qb i) ∨ w.heap.size ≤ qb) :
    RkL w' D (d.at i r) (Gr F w w') { L with lb := upd L.lb i lb, lm := upd L.lm i lm, qb := upd L.qb i qb, qm := upd L.qm i qm } := by
  have hro : ∀ j, j ≠ i → (d.at i r).r j = d.r j := fun j hj => upd_off _ _ hj
  have hri : (d.at i r).r i = r := upd_at _ _ _
  have hK : ∀ (b : Nat) (cs : Array Value) (T : TypeId) (fr : Nat × Nat), w.heap[b]? = some (.cells cs T fr) → T ≠ 73 → T ≠ 9 → T ≠ 143 → w'.heap[b]? = w.heap[b]? := fun b cs T fr h1 h2 h3 h4 =>
    hk b (blk_lt h1) (fun e => by rw [e, h.reg i hi] at h1; simp at h1; exact h2 h1.2.1.symm) (fun hn e => by
      obtain ⟨l, k1, _⟩ := h.las i hi hn
      rw [e, k1] at h1; simp at h1; exact h3 h1.2.1.symm) (fun hn e => by
      obtain ⟨l, k1, _⟩ := h.que i hi hn
      rw [e, k1] at h1; simp at h1; exact h4 h1.2.1.symm)
  refine ⟨(hK D _ _ _ h.dk (by decide) (by decide) (by decide)).trans h.dk, h.ta, ?_, ?_, ?_, ?_, h.injr, ?_, ?_, ?_, .inl h.ownD, fun hp => .inl (h.ownR hp), fun j hj => .inl (h.ownr j hj), ?_, ?_, ?_, Dk.at_ok h.ok i hr⟩
  · intro hp
    obtain ⟨l, k1, k2⟩ := h.rows hp
    exact ⟨l, (hK _ _ _ _ k1 (by decide) (by decide) (by decide)).trans k1, k2⟩
  · intro j hj
    by_cases c : j = i
    · subst c
      rw [hri]
      show w'.heap[L.rb j]? = some (Obj.cells #[.slice (pt r.n (upd L.lb j lb j)) r.n (cp r.n (upd L.lm j lm j)), .slice (pt r.q.length (upd L.qb j qb j)) r.q.length (cp r.q.length (upd L.qm j qm j))] _ _)
      rw [upd_at, upd_at, upd_at, upd_at]
      exact hreg
    · rw [hro j c]
      show w'.heap[L.rb j]? = some (Obj.cells #[.slice (pt _ (upd L.lb i lb j)) _ (cp _ (upd L.lm i lm j)), .slice (pt _ (upd L.qb i qb j)) _ (cp _ (upd L.qm i qm j))] _ _)
      rw [upd_off _ _ c, upd_off _ _ c, upd_off _ _ c, upd_off _ _ c]
      have k1 := h.reg j hj
      rw [hk _ (blk_lt k1) (fun e => c (h.injr j i hj hi e)) (fun hn e => by
        obtain ⟨l, k2, _⟩ := h.las i hi hn
        rw [e, k2] at k1; simp at k1) (fun hn e => by
        obtain ⟨l, k2, _⟩ := h.que i hi hn
        rw [e, k2] at k1; simp at k1)]
      exact k1
  · intro j hj hn
    by_cases c : j = i
    · subst c
      rw [hri] at hn ⊢
      show ∃ l : List Value, w'.heap[upd L.lb j lb j]? = _ ∧ l.length = upd L.lm j lm j ∧ _ ≤ upd L.lm j lm j ∧ upd L.lm j lm j ≤ maxLen ∧ _
      rw [upd_at, upd_at]
      exact hl hn
    · rw [hro j c] at hn ⊢
      show ∃ l : List Value, w'.heap[upd L.lb i lb j]? = _ ∧ l.length = upd L.lm i lm j ∧ _ ≤ upd L.lm i lm j ∧ upd L.lm i lm j ≤ maxLen ∧ _
      rw [upd_off _ _ c, upd_off _ _ c]
      obtain ⟨l, k1, k2⟩ := h.las j hj hn
      refine ⟨l, ?_, k2⟩
      rw [hk _ (blk_lt k1) (fun e => by rw [e, h.reg i hi] at k1; simp at k1) (fun hn' e => c (h.injl j i hj hi hn hn' e)) (fun hn' e => by
        obtain ⟨l', k3, _⟩ := h.que i hi hn'
        rw [e, k3] at k1; simp at k1)]
      exact k1
  · intro j hj hn
    by_cases c : j = i
    · subst c
      rw [hri] at hn ⊢
      show ∃ l : List Value, w'.heap[upd L.qb j qb j]? = _ ∧ l.length = upd L.qm j qm j * 2 ∧ _ ≤ upd L.qm j qm j ∧ upd L.qm j qm j ≤ maxLen ∧ _
      rw [upd_at, upd_at]
      exact hq hn
    · rw [hro j c] at hn ⊢
      show ∃ l : List Value, w'.heap[upd L.qb i qb j]? = _ ∧ l.length = upd L.qm i qm j * 2 ∧ _ ≤ upd L.qm i qm j ∧ upd L.qm i qm j ≤ maxLen ∧ _
      rw [upd_off _ _ c, upd_off _ _ c]
      obtain ⟨l, k1, k2⟩ := h.que j hj hn
      refine ⟨l, ?_, k2⟩
      rw [hk _ (blk_lt k1) (fun e => by rw [e, h.reg i hi] at k1; simp at k1) (fun hn' e => by
        obtain ⟨l', k3, _⟩ := h.las i hi hn'
        rw [e, k3] at k1; simp at k1) (fun hn' e => c (h.injq j i hj hi hn hn' e))]
      exact k1
  · intro a b ha hb hna hnb e
    have e' : upd L.lb i lb a = upd L.lb i lb b := e
    have key : ∀ j, j < d.k → j ≠ i → 0 < (d.r j).n → 0 < r.n → L.lb j ≠ lb := by
      intro j hj hne hn hn' e
      obtain ⟨l', k1, _⟩ := h.las j hj hn
      rcases hl2 hn' with ⟨q0, rfl⟩ | hg
      · exact hne (h.injl j i hj hi hn q0 e)
      · have := blk_lt k1; omega
    by_cases c1 : a = i
    · by_cases c2 : b = i
      · rw [c1, c2]
      · subst c1
        rw [hro b c2] at hnb
        rw [hri] at hna
        rw [upd_at, upd_off _ _ c2] at e'
        exact absurd e'.symm (key b hb c2 hnb hna)
    · by_cases c2 : b = i
      · subst c2
        rw [hro a c1] at hna
        rw [hri] at hnb
        rw [upd_at, upd_off _ _ c1] at e'
        exact absurd e' (key a ha c1 hna hnb)
      · rw [hro a c1] at hna
        rw [hro b c2] at hnb
        rw [upd_off _ _ c1, upd_off _ _ c2] at e'
        exact h.injl a b ha hb hna hnb e'
  · intro a b ha hb hna hnb e
    have e' : upd L.qb i qb a = upd L.qb i qb b := e
    have key : ∀ j, j < d.k → j ≠ i → 0 < (d.r j).q.length → 0 < r.q.length → L.qb j ≠ qb := by
      intro j hj hne hn hn' e
      obtain ⟨l', k1, _⟩ := h.que j hj hn
      rcases hq2 hn' with ⟨q0, rfl⟩ | hg
      · exact hne (h.injq j i hj hi hn q0 e)
      · have := blk_lt k1; omega
    by_cases c1 : a = i
    · by_cases c2 : b = i
      · rw [c1, c2]
      · subst c1
        rw [hro b c2] at hnb
        rw [hri] at hna
        rw [upd_at, upd_off _ _ c2] at e'
        exact absurd e'.symm (key b hb c2 hnb hna)
    · by_cases c2 : b = i
      · subst c2
        rw [hro a c1] at hna
        rw [hri] at hnb
        rw [upd_at, upd_off _ _ c1] at e'
        exact absurd e' (key a ha c1 hna hnb)
      · rw [hro a c1] at hna
        rw [hro b c2] at hnb
        rw [upd_off _ _ c1, upd_off _ _ c2] at e'
        exact h.injq a b ha hb hna hnb e'
  · exact h.kr.kept (fun b cs fr h1 _ => hK b cs _ fr h1 (by decide) (by decide) (by decide)) fun _ hb => .inl hb
  · intro j hj hn
    show Gr F w w' (upd L.lb i lb j)
    by_cases c : j = i
    · subst c
      rw [hri] at hn
      rw [upd_at]
      obtain ⟨l, k1, _⟩ := hl hn
      rcases hl2 hn with ⟨q0, rfl⟩ | hg
      · exact .inl (h.ownl _ hj q0)
      · exact .inr ⟨hg, blk_lt k1⟩
    · rw [hro j c] at hn
      rw [upd_off _ _ c]
      exact .inl (h.ownl j hj hn)
  · intro j hj hn
    show Gr F w w' (upd L.qb i qb j)
    by_cases c : j = i
    · subst c
      rw [hri] at hn
      rw [upd_at]
      obtain ⟨l, k1, _⟩ := hq hn
      rcases hq2 hn with ⟨q0, rfl⟩ | hg
      · exact .inl (h.ownq _ hj q0)
      · exact .inr ⟨hg, blk_lt k1⟩
    · rw [hro j c] at hn
      rw [upd_off _ _ c]
      exact .inl (h.ownq j hj hn)
  · intro b hb
    rcases hb with hb | hb
    · have := h.lt b hb; omega
    · exact hb.2

end Go.Proofs.YthmholgfnjpgbaaGreat.Wr

namespace Go.Proofs.YthmholgfnjpgbaaGreat.Wr
open Go.ChangeShapes Go.WideShapes Go.ChangeAt Go.RowKit Go.Proofs.YthmholgfnjpgbaaGreat.M Go.Proofs.YthmholgfnjpgbaaGreat.Wd

theorem RkL.cD {w : World} {D : Nat} {d : Dk} {F : Nat → Prop} {L : Lr} (h : RkL w D d F L) : w.cell? ⟨D, 0, none⟩ = some (.slice (pt d.k L.R) d.k (cp d.k L.rc)) ∧ w.cell? ⟨D, 1, none⟩ = some (.bool d.off) ∧ w.cell? ⟨D, 2, none⟩ = some (.int .i64 L.ta) ∧ w.cell? ⟨D, 3, none⟩ = some (.int .i64 (aL d.ask)) ∧ w.cell? ⟨D, 4, none⟩ = some (.slice L.ka (aK d.ask).length L.kc) ∧ (∀ j, w.frozen? ⟨D, j, none⟩ = false) := by
  have := h.dk
  refine ⟨?_, ?_, ?_, ?_, ?_, fun j => blk_free this j⟩ <;> simp [World.cell?, this]
theorem RkL.cR {w : World} {D : Nat} {d : Dk} {F : Nat → Prop} {L : Lr} (h : RkL w D d F L) {i : Nat} (hi : i < d.k) : w.cell? ⟨L.R, i, none⟩ = some (.pointer (some ⟨L.rb i, 0, none⟩)) := by
  obtain ⟨l, h1, h2, h3, h4, h5⟩ := h.rows (by omega)
  exact blk_cell h1 (h5 i hi)
theorem RkL.cG {w : World} {D : Nat} {d : Dk} {F : Nat → Prop} {L : Lr} (h : RkL w D d F L) {i : Nat} (hi : i < d.k) : w.cell? ⟨L.rb i, 0, none⟩ = some (.slice (pt (d.r i).n (L.lb i)) (d.r i).n (cp (d.r i).n (L.lm i))) ∧ w.cell? ⟨L.rb i, 1, none⟩ = some (.slice (pt (d.r i).q.length (L.qb i)) (d.r i).q.length (cp (d.r i).q.length (L.qm i))) ∧ (∀ j, w.frozen? ⟨L.rb i, j, none⟩ = false) := by
  have := h.reg i hi
  refine ⟨?_, ?_, fun j => blk_free this j⟩ <;> simp [World.cell?, this]
theorem RkL.cL {w : World} {D : Nat} {d : Dk} {F : Nat → Prop} {L : Lr} (h : RkL w D d F L) {i : Nat} (hi : i < d.k) {k : Nat} (hk : k < (d.r i).n) : w.cell? ⟨L.lb i, k, none⟩ = some (.string ((d.r i).s k)) ∧ w.frozen? ⟨L.lb i, k, none⟩ = false := by
  obtain ⟨l, h1, h2, h3, h4, h5⟩ := h.las i hi (by omega)
  refine ⟨blk_cell h1 ?_, blk_free h1 _⟩
  rw [take_get h5 hk]
  exact sl_get _ _ _ hk
theorem RkL.cQ {w : World} {D : Nat} {d : Dk} {F : Nat → Prop} {L : Lr} (h : RkL w D d F L) {i : Nat} (hi : i < d.k) {t : Nat} (ht : t < (d.r i).q.length) : w.cell? ⟨L.qb i, t * 2, none⟩ = some (.int .i64 ((qx (d.r i).q t).1 : Int)) ∧ w.cell? ⟨L.qb i, t * 2 + 1, none⟩ = some (.string (qx (d.r i).q t).2) := by
  obtain ⟨l, h1, h2, h3, h4, h5⟩ := h.que i hi (by omega)
  have := qs_get _ _ ht
  refine ⟨blk_cell h1 ?_, blk_cell h1 ?_⟩
  · rw [take_get h5 (by omega)]; exact this.1
  · rw [take_get h5 (by omega)]; exact this.2

set_option maxRecDepth 100000 in
theorem sectorsR {w : World} {D : Nat} {d : Dk} {F : Nat → Prop} {L : Lr} (h : RkL w D d F L) (a : Int) :
    Calls Tryz.prog 28 #[.pointer (some ⟨D, 0, none⟩), .int .i64 a] w fun e w' => e = .returned (.int .i64 (d.secs a : Int)) ∧ w = w' := by
  have c1 := h.cD.1
  have hk := h.ok.k
  by_cases c : d.has a = true
  · obtain ⟨i, rfl, hi⟩ := has_nat c
    have hE : Hid (d.secs (i : Int) = (d.r i).n) := if_pos c
    have r1 := h.cR hi
    have g1 := (h.cG hi).1
    have hn := (h.ok.r i hi).n
    rw [pt_pos _ (by omega), cp_pos _ (by omega)] at c1
    clear c
    go_enter Tryz.func28, Tryz.ntmps28
    go_wp2
    go_ret
    exact ⟨by rw [hE.out]; rfl, rfl⟩
  · have hE : Hid (d.secs a = 0) := if_neg c
    have c0 : ¬ (0 ≤ a ∧ a < d.k) := fun h => c (has_iff.2 h)
    clear c
    rcases Int.lt_or_le a 0 with h0 | h0
    all_goals
      go_enter Tryz.func28, Tryz.ntmps28
      go_wp2
      go_ret
      exact ⟨by rw [hE.out]; rfl, rfl⟩

theorem img_succ (s : Nat → ByteArray) (n : Nat) (h : (s n).size = 64) : img s n ++ s n = img s (n + 1) := by
  apply ext_bx
  · rw [ByteArray.size_append, img_size, img_size, h]; omega
  · intro j hj
    rw [ByteArray.size_append, img_size, h] at hj
    have hl : ∀ (a b : ByteArray) (j : Nat), bx (a ++ b) j = if j < a.size then bx a j else bx b (j - a.size) := by
      intro a b j
      have key : ∀ (s : ByteArray) (j : Nat), bx s j = (s.data.toList.getD j 0).toNat := by
        intro s j
        by_cases h : j < s.size
        · rw [bx_get h]
          have h' : j < s.data.toList.length := by rw [Array.length_toList]; exact h
          rw [List.getD_eq_getElem?_getD, List.getElem?_eq_getElem h']
          rfl
        · rw [bx_none h, List.getD_eq_getElem?_getD, List.getElem?_eq_none (by rw [Array.length_toList]; exact Nat.not_lt.1 h)]
          rfl
      have e : (a ++ b).data.toList = a.data.toList ++ b.data.toList := by rw [ByteArray.data_append, Array.toList_append]
      have hl : a.data.toList.length = a.size := Array.length_toList
      rw [key, e]
      split
      · rw [List.getD_eq_getElem?_getD, List.getElem?_append_left (by omega), ← List.getD_eq_getElem?_getD, key]
      · rw [List.getD_eq_getElem?_getD, List.getElem?_append_right (by omega), hl, ← List.getD_eq_getElem?_getD, key]
    rw [hl, img_size]
    split
    · rw [img_bx _ _ _ ‹_›, img_bx s (n + 1) j (by omega)]
    · rw [img_bx s (n + 1) j (by omega)]
      have e1 : j / 64 = n := by omega
      have e2 : j % 64 = j - 64 * n := by omega
      rw [e1, e2]
theorem img_zero (s : Nat → ByteArray) : img s 0 = ⟨#[]⟩ := rfl

set_option maxRecDepth 100000 in
theorem imageR {w : World} {D : Nat} {d : Dk} {F : Nat → Prop} {L : Lr} (h : RkL w D d F L) (a : Int) :
    Calls Tryz.prog 33 #[.pointer (some ⟨D, 0, none⟩), .int .i64 a] w fun e w' => e = .returned (.string (d.image a)) ∧ w = w' := by
  have c1 := h.cD.1
  have hk := h.ok.k
  by_cases c : d.has a = true
  · obtain ⟨i, rfl, hi⟩ := has_nat c
    have hE : Hid (d.image (i : Int) = img (d.r i).s (d.r i).n) := if_pos c
    have r1 := h.cR hi
    have g1 := (h.cG hi).1
    have hn := (h.ok.r i hi).n
    have hs := hid (h.ok.r i hi).s
    rw [pt_pos _ (by omega), cp_pos _ (by omega)] at c1
    clear c
    go_enter Tryz.func33, Tryz.ntmps33
    go_wp2
    go_loop [5, 6] (fun sv iv => ∃ j : Nat, j ≤ (d.r i).n ∧ iv = .int .i64 (j : Int) ∧ sv = .string (img (d.r i).s j)) (fun _ iv => (d.r i).n - (intOf iv).toNat)
    case atStart => exact ⟨0, Nat.zero_le _, rfl, rfl⟩
    case round =>
      obtain ⟨j, hj, rfl, rfl⟩ := hrel
      by_cases hlt : j < (d.r i).n
      · have l1 := (h.cL hi hlt).1
        have hsz := img_size (d.r i).s j
        have hss := hs.out j
        have hnx := hid (img_succ (d.r i).s j (hs.out j))
        rw [pt_pos _ (by omega), cp_pos _ (by omega)] at g1
        generalize (d.r i).s j = x at *
        generalize img (d.r i).s j = y at *
        go_wp2
        go_round
        case rel => exact ⟨j + 1, by omega, by go_num, by rw [← hnx.out]⟩
        case measure => simp [intOf] <;> omega
      · have hE2 : j = (d.r i).n := by omega
        rw [← hE2] at hE g1
        generalize img (d.r i).s j = y at *
        go_wp2
        go_ret
        exact ⟨by rw [hE.out]; rfl, rfl⟩
  · have hE : Hid (d.image a = ⟨#[]⟩) := if_neg c
    have c0 : ¬ (0 ≤ a ∧ a < d.k) := fun h => c (has_iff.2 h)
    clear c
    rcases Int.lt_or_le a 0 with h0 | h0
    all_goals
      go_enter Tryz.func33, Tryz.ntmps33
      go_wp2
      go_ret
      exact ⟨by rw [hE.out]; rfl, rfl⟩

set_option maxRecDepth 100000 in
theorem readR {w : World} {D : Nat} {d : Dk} {F : Nat → Prop} {L : Lr} (h : RkL w D d F L) (hq : ∀ j, j < d.k → (d.r j).q.length ≤ 1048576) (a b : Int) :
    Calls Tryz.prog 48 #[.pointer (some ⟨D, 0, none⟩), .int .i64 a, .int .i64 b] w fun e w' => e = .returned (.tuple #[.string (d.readB a b), .int .i64 (d.readE a b)]) ∧ w = w' := by
  obtain ⟨c1, c2, _⟩ := h.cD
  have hk := h.ok.k
  by_cases co : d.off = true
  · have hE : Hid (d.readE a b = 11 ∧ d.readB a b = ⟨#[]⟩) := by
      have e : d.readE a b = 11 := if_pos co
      exact ⟨e, by unfold Dk.readB; rw [e]; rfl⟩
    rw [co] at c2
    clear co c1
    go_enter Tryz.func48, Tryz.ntmps48
    go_wp2
    go_ret2
    exact ⟨by rw [hE.out.1, hE.out.2]; rfl, rfl⟩
  · have co' : d.off = false := by simpa using co
    rw [co'] at c2
    by_cases c : d.has a = true
    · obtain ⟨i, rfl, hi⟩ := has_nat c
      have hp : d.preF (i : Int) = 0 := by unfold Dk.preF; rw [co', c]; rfl
      have r1 := h.cR hi
      obtain ⟨g1, g2, _⟩ := h.cG hi
      have hn := (h.ok.r i hi).n
      have hR := readE_in (b := b) hp
      rw [Int.toNat_natCast] at hR
      rw [pt_pos _ (by omega), cp_pos _ (by omega)] at c1
      clear c co hp
      by_cases cb : 0 ≤ b ∧ b < (d.r i).n
      · rw [if_pos cb] at hR
        obtain ⟨s, rfl⟩ := Int.eq_ofNat_of_zero_le cb.1
        have hs : s < (d.r i).n := by omega
        have hB : Hid (d.readB (i : Int) (s : Int) = (d.r i).rd s) := by show _ = _; unfold Dk.readB; rw [if_pos hR]; rfl
        have HR := hid hR
        have l1 := (h.cL hi hs).1
        have hqi := hq i hi
        rw [pt_pos _ (by omega), cp_pos _ (by omega)] at g1
        clear hR cb
        go_enter Tryz.func48, Tryz.ntmps48
        go_wp2
        go_loop [9, 10] (fun sv iv => ∃ j : Nat, j ≤ (d.r i).q.length ∧ iv = .int .i64 (j : Int) ∧ sv = .string (rdk (d.r i) s j)) (fun _ iv => (d.r i).q.length - (intOf iv).toNat)
        case atStart => exact ⟨0, Nat.zero_le _, rfl, rfl⟩
        case round =>
          obtain ⟨j, hj, rfl, rfl⟩ := hrel
          by_cases hlt : j < (d.r i).q.length
          · obtain ⟨q1, q2⟩ := h.cQ hi hlt
            rw [pt_pos _ (by omega), cp_pos _ (by omega)] at g2
            by_cases ct : (qx (d.r i).q j).1 = s
            · have hnx := hid (rdk_hit (d.r i) s j ct)
              rw [ct] at q1
              clear ct
              generalize (qx (d.r i).q j).2 = y at *
              go_wp2
              go_round
              case rel => exact ⟨j + 1, by omega, by go_num, by rw [hnx.out]⟩
              case measure => simp [intOf] <;> omega
            · have hnx : Hid (rdk (d.r i) s (j + 1) = rdk (d.r i) s j) := if_neg ct
              have hne : (((qx (d.r i).q j).1 : Int) == (s : Int)) = false := by simp; omega
              clear ct q2
              generalize (qx (d.r i).q j).1 = y at *
              go_wp2
              go_round
              case rel => exact ⟨j + 1, by omega, by go_num, by rw [hnx.out]⟩
              case measure => simp [intOf] <;> omega
          · have hE2 : j = (d.r i).q.length := by omega
            have HE2 := hid hE2
            rw [← hE2] at g2
            clear hE2
            go_wp2
            go_ret2
            exact ⟨by rw [hB.out, HR.out]; first | rfl | (unfold Rg.rd; rw [← HE2.out]; rfl), rfl⟩
      · rw [if_neg cb] at hR
        have hB : Hid (d.readB (i : Int) b = ⟨#[]⟩) := by show _ = _; unfold Dk.readB; rw [hR]; rfl
        have HR := hid hR
        clear hR
        generalize (d.r i).n = n at *
        rcases Int.lt_or_le b 0 with h0 | h0
        all_goals
          go_enter Tryz.func48, Tryz.ntmps48
          go_wp2
          go_ret2
          exact ⟨by rw [hB.out, HR.out]; rfl, rfl⟩
    · have hp : d.preF a = 10 := by unfold Dk.preF; rw [co', if_neg c]; rfl
      have hR : d.readE a b = 10 := by rw [readE_pre (by rw [hp]; decide), hp]
      have hB : Hid (d.readB a b = ⟨#[]⟩) := by show _ = _; unfold Dk.readB; rw [hR]; rfl
      have HR := hid hR
      have c0 : ¬ (0 ≤ a ∧ a < d.k) := fun h => c (has_iff.2 h)
      clear c hR hp co
      rcases Int.lt_or_le a 0 with h0 | h0
      all_goals
        go_enter Tryz.func48, Tryz.ntmps48
        go_wp2
        go_ret2
        exact ⟨by rw [hB.out, HR.out]; rfl, rfl⟩

end Go.Proofs.YthmholgfnjpgbaaGreat.Wr

namespace Go.Proofs.YthmholgfnjpgbaaGreat.Wr
open Go.ChangeShapes Go.WideShapes Go.ChangeAt Go.RowKit Go.Proofs.YthmholgfnjpgbaaGreat.M Go.Proofs.YthmholgfnjpgbaaGreat.Wd

theorem dc_lc : (lc (fun _ => noB) 1) = dc noB := by
  apply List.ext_getElem?
  intro j
  by_cases hj : j < 64
  · rw [lc_get _ _ _ (by omega), dc_get _ _ hj, noB_bt, noB_bt]
  · rw [List.getElem?_eq_none (by rw [lc_length]; omega), List.getElem?_eq_none (by rw [dc_length]; omega)]

set_option maxRecDepth 100000 in
theorem none_ (w : World) : Calls Tryz.prog 22 #[] w fun e w' => e = .returned (.string noB) ∧ Below w.heap.size w w' := by
  have hm := make64
  rw [dc_lc] at hm
  have hcv := conv_dc (W := w.alloc (.cells (dc noB).toArray 5)) (heap_alloc_last w _) noB_size
  generalize (dc noB).toArray = M at hm hcv
  generalize noB = nb at hcv ⊢
  go_enter Tryz.func22, Tryz.ntmps22
  go_wp2
  go_ret
  exact ⟨rfl, (Below.refl _ _).alloc (Nat.le_refl _) _⟩

/-- A disk with one region more. -/
theorem RkL.newreg {w w3 : World} {D : Nat} {d : Dk} {F : Nat → Prop} {L : Lr} (h : RkL w D d F L) (hk8 : d.k < 8) {z : Int} (hr : d.r d.k = newR z) {g cap b lb lm : Nat} (hsz : w.heap.size ≤ w3.heap.size)
    (hblk : ∀ k, k < w.heap.size → (0 < d.k → k ≠ L.R) → w3.heap[k]? = w.heap[k]?) (hg : (0 < d.k ∧ g = L.R) ∨ w.heap.size ≤ g) (hgl : g < w3.heap.size) (hb : w.heap.size ≤ b)
    (hbb : w3.heap[b]? = some (.cells #[.slice (pt (szN z) lb) (szN z) (cp (szN z) lm), .slice none 0 0] 73 (0, 0)))
    (hl : 0 < szN z → w.heap.size ≤ lb ∧ ∃ l : List Value, w3.heap[lb]? = some (.cells l.toArray 9 (0, 0)) ∧ l.length = lm ∧ szN z ≤ lm ∧ lm ≤ maxLen ∧ l.take (szN z) = sl (fun _ => noB) (szN z))
    {l : List Value} (l1 : w3.heap[g]? = some (.cells l.toArray 70 (0, 0))) (l2 : l.length = cap) (l3 : d.k + 1 ≤ cap) (l3' : cap ≤ maxLen) (l4 : ∀ i, i < d.k → l[i]? = some (.pointer (some ⟨L.rb i, 0, none⟩))) (l5 : l[d.k]? = some (.pointer (some ⟨b, 0, none⟩))) :
    RkL (w3.setCell ⟨D, 0, none⟩ (.slice (some ⟨g, 0, none⟩) (d.k + 1) cap)) D { d with k := d.k + 1 } (Gr F w w3) { L with R := g, rc := cap, rb := upd L.rb d.k b, lb := upd L.lb d.k lb, lm := upd L.lm d.k lm } := by
  have hK : ∀ (k : Nat) (cs : Array Value) (T : TypeId) (fr : Nat × Nat), w.heap[k]? = some (.cells cs T fr) → T ≠ 70 → w3.heap[k]? = w.heap[k]? := fun k cs T fr h1 h2 => hblk k (blk_lt h1) (fun hp e => by
    obtain ⟨l', k1, _⟩ := h.rows hp
    rw [e, k1] at h1
    simp at h1
    exact h2 h1.2.1.symm)
  have hD3 := (hK D _ _ _ h.dk (by decide)).trans h.dk
  have hO : ∀ k, k ≠ D → (w3.setCell ⟨D, 0, none⟩ (.slice (some ⟨g, 0, none⟩) (d.k + 1) cap)).heap[k]? = w3.heap[k]? := fun k hk => setD_other hk
  have hK2 : ∀ (k : Nat) (cs : Array Value) (T : TypeId) (fr : Nat × Nat), w.heap[k]? = some (.cells cs T fr) → T ≠ 70 → T ≠ 69 → (w3.setCell ⟨D, 0, none⟩ (.slice (some ⟨g, 0, none⟩) (d.k + 1) cap)).heap[k]? = w.heap[k]? := fun k cs T fr h1 h2 h3 =>
    (hO k (fun e => by rw [e, h.dk] at h1; simp at h1; exact h3 h1.2.1.symm)).trans (hK k cs T fr h1 h2)
  have hgD : g ≠ D := fun e => by rw [e, hD3] at l1; simp at l1
  have hbD : b ≠ D := fun e => by rw [e, hD3] at hbb; simp at hbb
  have hold : ∀ {α : Type} (f : Nat → α) (x : α) i, i < d.k → upd f d.k x i = f i := fun f x i hi => upd_off _ _ (by omega)
  have hqn : (d.r d.k).q = [] := by rw [hr]; rfl
  have hnn : (d.r d.k).n = szN z := by rw [hr]; rfl
  have cas : ∀ i, i < d.k + 1 → i < d.k ∨ i = d.k := fun i hi => by omega
  refine ⟨?_, h.ta, ?_, ?_, ?_, ?_, ?_, ?_, ?_, ?_, .inl h.ownD, ?_, ?_, ?_, ?_, ?_, ?_⟩
  · have := blk_set (l := [_, _, _, _, _]) hD3 0 (.slice (some ⟨g, 0, none⟩) (d.k + 1) cap)
    rw [this]
    show _ = some (Obj.cells #[.slice (pt (d.k + 1) g) (d.k + 1) (cp (d.k + 1) cap), _, _, _, _] _ _)
    rw [pt_pos (n := d.k + 1) g (by omega), cp_pos (n := d.k + 1) cap (by omega)]
    rfl
  · intro _
    refine ⟨l, (hO g hgD).trans l1, l2, l3, l3', fun i hi => ?_⟩
    show _ = some (Value.pointer (some ⟨upd L.rb d.k b i, 0, none⟩))
    rcases cas i hi with c | c
    · rw [hold _ _ i c]; exact l4 i c
    · subst c; rw [upd_at]; exact l5
  · intro i hi
    show (World.setCell _ _ _).heap[upd L.rb d.k b i]? = some (Obj.cells #[.slice (pt (d.r i).n (upd L.lb d.k lb i)) (d.r i).n (cp (d.r i).n (upd L.lm d.k lm i)), .slice (pt (d.r i).q.length (L.qb i)) (d.r i).q.length (cp (d.r i).q.length (L.qm i))] _ _)
    rcases cas i hi with c | c
    · rw [hold _ _ i c, hold _ _ i c, hold _ _ i c]
      exact (hK2 _ _ _ _ (h.reg i c) (by decide) (by decide)).trans (h.reg i c)
    · subst c
      rw [upd_at, upd_at, upd_at, hnn, hqn]
      exact (hO b hbD).trans hbb
  · intro i hi hn
    have hn' : 0 < (d.r i).n := hn
    show ∃ l : List Value, (World.setCell _ _ _).heap[upd L.lb d.k lb i]? = _ ∧ l.length = upd L.lm d.k lm i ∧ (d.r i).n ≤ upd L.lm d.k lm i ∧ upd L.lm d.k lm i ≤ maxLen ∧ l.take (d.r i).n = sl (d.r i).s (d.r i).n
    rcases cas i hi with c | c
    · rw [hold _ _ i c, hold _ _ i c]
      obtain ⟨l', k1, k2⟩ := h.las i c hn'
      exact ⟨l', (hK2 _ _ _ _ k1 (by decide) (by decide)).trans k1, k2⟩
    · subst c
      rw [hnn] at hn'
      rw [upd_at, upd_at, hnn]
      obtain ⟨_, l', k1, k2, k3, k4, k5⟩ := hl hn'
      refine ⟨l', (hO lb (fun e => by rw [e, hD3] at k1; simp at k1)).trans k1, k2, k3, k4, ?_⟩
      rw [k5, hr]
      rfl
  · intro i hi hq
    rcases cas i hi with c | c
    · obtain ⟨l', k1, k2⟩ := h.que i c hq
      exact ⟨l', (hK2 _ _ _ _ k1 (by decide) (by decide)).trans k1, k2⟩
    · subst c
      exact absurd hq (by show ¬ 0 < (d.r d.k).q.length; rw [hqn]; simp)
  · intro i j hi hj e
    have e' : upd L.rb d.k b i = upd L.rb d.k b j := e
    rcases cas i hi with c1 | c1 <;> rcases cas j hj with c2 | c2
    · rw [hold _ _ i c1, hold _ _ j c2] at e'
      exact h.injr i j c1 c2 e'
    · subst c2
      rw [hold _ _ i c1, upd_at] at e'
      have := blk_lt (h.reg i c1)
      omega
    · subst c1
      rw [hold _ _ j c2, upd_at] at e'
      have := blk_lt (h.reg j c2)
      omega
    · omega
  · intro i j hi hj hni hnj e
    have e' : upd L.lb d.k lb i = upd L.lb d.k lb j := e
    have hni' : 0 < (d.r i).n := hni
    have hnj' : 0 < (d.r j).n := hnj
    rcases cas i hi with c1 | c1 <;> rcases cas j hj with c2 | c2
    · rw [hold _ _ i c1, hold _ _ j c2] at e'
      exact h.injl i j c1 c2 hni' hnj' e'
    · subst c2
      rw [hold _ _ i c1, upd_at] at e'
      obtain ⟨l', k1, _⟩ := h.las i c1 hni'
      have := blk_lt k1
      rw [hnn] at hnj'
      have := (hl hnj').1
      omega
    · subst c1
      rw [hold _ _ j c2, upd_at] at e'
      obtain ⟨l', k1, _⟩ := h.las j c2 hnj'
      have := blk_lt k1
      rw [hnn] at hni'
      have := (hl hni').1
      omega
    · omega
  · intro i j hi hj hqi hqj e
    rcases cas i hi with c1 | c1
    · rcases cas j hj with c2 | c2
      · exact h.injq i j c1 c2 hqi hqj e
      · subst c2; exact absurd hqj (by show ¬ 0 < (d.r d.k).q.length; rw [hqn]; simp)
    · subst c1; exact absurd hqi (by show ¬ 0 < (d.r d.k).q.length; rw [hqn]; simp)
  · exact h.kr.kept (fun k cs fr h1 _ => hK2 k cs _ fr h1 (by decide) (by decide)) fun _ hb => .inl hb
  · intro _
    show Gr F w w3 g
    rcases hg with ⟨q0, rfl⟩ | hg
    · exact .inl (h.ownR q0)
    · exact .inr ⟨hg, hgl⟩
  · intro i hi
    show Gr F w w3 (upd L.rb d.k b i)
    rcases cas i hi with c | c
    · rw [hold _ _ i c]; exact .inl (h.ownr i c)
    · subst c; rw [upd_at]; exact .inr ⟨hb, blk_lt hbb⟩
  · intro i hi hn
    have hn' : 0 < (d.r i).n := hn
    show Gr F w w3 (upd L.lb d.k lb i)
    rcases cas i hi with c | c
    · rw [hold _ _ i c]; exact .inl (h.ownl i c hn')
    · subst c
      rw [hnn] at hn'
      obtain ⟨k0, l', k1, _⟩ := hl hn'
      rw [upd_at]; exact .inr ⟨k0, blk_lt k1⟩
  · intro i hi hq
    rcases cas i hi with c | c
    · exact .inl (h.ownq i c hq)
    · subst c; exact absurd hq (by show ¬ 0 < (d.r d.k).q.length; rw [hqn]; simp)
  · intro k hk
    rw [setD_size]
    rcases hk with hk | hk
    · have := h.lt k hk; omega
    · exact hk.2
  · refine ⟨by show d.k + 1 ≤ 8; omega, fun i hi => ?_, fun a l K e => ?_⟩
    · rcases cas i hi with c | c
      · exact h.ok.r i c
      · subst c
        show (d.r d.k).ok
        rw [hr]; exact newR_ok _
    · have := h.ok.ask a l K e
      exact ⟨by show a < d.k + 1; omega, this.2⟩

/-- The document's disk at its start. -/
theorem startR (w : World) (z : Nat → Int) : RkL (w.alloc (.cells #[.slice none 0 0, .bool false, .int .i64 0, .int .i64 0, .slice none 0 0] 69)) w.heap.size (newD z 0) (Gr no w (w.alloc (.cells #[.slice none 0 0, .bool false, .int .i64 0, .int .i64 0, .slice none 0 0] 69))) { R := 0, rc := 0, rb := fun _ => 0, lb := fun _ => 0, lm := fun _ => 0, qb := fun _ => 0, qm := fun _ => 0, ta := 0, ka := none, kc := 0 } where
  dk := heap_alloc_last w _
  ta := fun a l K e => by cases e
  rows := fun hp => absurd hp (by show ¬ 0 < 0; omega)
  reg := fun i hi => absurd hi (by show ¬ i < 0; omega)
  las := fun i hi => absurd hi (by show ¬ i < 0; omega)
  que := fun i hi => absurd hi (by show ¬ i < 0; omega)
  injr := fun i j hi => absurd hi (by show ¬ i < 0; omega)
  injl := fun i j hi => absurd hi (by show ¬ i < 0; omega)
  injq := fun i j hi => absurd hi (by show ¬ i < 0; omega)
  kr := .inl rfl
  ownD := .inr ⟨Nat.le_refl _, by simp⟩
  ownR := fun hp => absurd hp (by show ¬ 0 < 0; omega)
  ownr := fun i hi => absurd hi (by show ¬ i < 0; omega)
  ownl := fun i hi => absurd hi (by show ¬ i < 0; omega)
  ownq := fun i hi => absurd hi (by show ¬ i < 0; omega)
  lt := fun b hb => by
    rcases hb with hb | hb
    · exact absurd hb id
    · exact hb.2
  ok := newD_ok _ _ (by omega)

end Go.Proofs.YthmholgfnjpgbaaGreat.Wr

namespace Go.Proofs.YthmholgfnjpgbaaGreat.Wr
open Go.ChangeShapes Go.WideShapes Go.ChangeAt Go.RowKit Go.Proofs.YthmholgfnjpgbaaGreat.M Go.Proofs.YthmholgfnjpgbaaGreat.Wd

theorem infoS : (Tryz.prog.info? 9).map (fun i => (i.zero, i.size, i.bytes)) = some (some (.string ⟨#[]⟩), 1, 16) := by kernel_rfl
theorem infoP : (Tryz.prog.info? 70).map (fun i => (i.zero, i.size, i.bytes)) = some (some (.pointer none), 1, 8) := by kernel_rfl

/-- A region of k sectors, under way. -/
def Inn (wr : World) (k lb lm : Nat) (wk : World) : Prop :=
  wk.heap[wr.heap.size]? = some (.cells #[.slice (pt k lb) k (cp k lm), .slice none 0 0] 73 (0, 0)) ∧
  (0 < k → wr.heap.size ≤ lb ∧ ∃ l : List Value, wk.heap[lb]? = some (.cells l.toArray 9 (0, 0)) ∧ l.length = lm ∧ k ≤ lm ∧ lm ≤ maxLen ∧ l.take k = sl (fun _ => noB) k) ∧ Below wr.heap.size wr wk
theorem Inn.own {wr wk : World} {k lb lm : Nat} (h : Inn wr k lb lm wk) : wk.ownsRow 0 9 1 (.slice (pt k lb) k (cp k lm)) k (sl (fun _ => noB) k) := by
  refine ⟨by rw [sl_length, Nat.mul_one], ?_⟩
  by_cases c : 0 < k
  · obtain ⟨_, l, h1, h2, h3, h4, h5⟩ := h.2.1 c
    exact .inr ⟨lb, lm, l.toArray, by rw [pt_pos _ c, cp_pos _ c], Nat.zero_le _, h1, h3, h4, by rw [List.size_toArray, h2, Nat.mul_one], by rw [Nat.mul_one]; exact h5⟩
  · have e : k = 0 := by omega
    subst e
    exact .inl ⟨rfl, rfl⟩
theorem Inn.push {wr wk w3 : World} {k lb lm g cap : Nat} {o : Obj} (h : Inn wr k lb lm wk) (hs : wr.heap.size < wk.heap.size) (own3 : w3.ownsRow 0 9 1 (.slice (some ⟨g, 0, none⟩) (k + 1) cap) (k + 1) (sl (fun _ => noB) k ++ [.string noB])) (gr3 : (wk.alloc o).grownBy w3 (Value.slice (pt k lb) k (cp k lm)).ownBlock)
    (hg3 : (Value.slice (pt k lb) k (cp k lm)).ownBlock = some g ∨ g = wk.heap.size + 1) :
    (w3.cell? ⟨wr.heap.size, 0, none⟩ = some (.slice (pt k lb) k (cp k lm)) ∧ w3.frozen? ⟨wr.heap.size, 0, none⟩ = false) ∧ wr.heap.size < (w3.setCell ⟨wr.heap.size, 0, none⟩ (.slice (some ⟨g, 0, none⟩) (k + 1) cap)).heap.size ∧ Inn wr (k + 1) g cap (w3.setCell ⟨wr.heap.size, 0, none⟩ (.slice (some ⟨g, 0, none⟩) (k + 1) cap)) := by
  have hob : ∀ b, (Value.slice (pt k lb) k (cp k lm)).ownBlock = some b → 0 < k ∧ b = lb := by
    intro b hb
    by_cases c : 0 < k
    · rw [pt_pos _ c] at hb
      exact ⟨c, by simpa [Value.ownBlock] using hb.symm⟩
    · have e : k = 0 := by omega
      subst e
      rw [pt_zero] at hb
      cases hb
  have sW : (wk.alloc o).heap.size = wk.heap.size + 1 := by simp
  have hsz : wk.heap.size + 1 ≤ w3.heap.size := by rw [← sW]; exact gr3.size
  have hblk : ∀ b, b < wk.heap.size → (0 < k → b ≠ lb) → w3.heap[b]? = wk.heap[b]? := fun b hb hne =>
    (gr3.block b (by omega) (fun e => by
      obtain ⟨q0, e'⟩ := hob b e.symm
      exact hne q0 e')).trans (Below.heap_alloc wk o b hb)
  have hrb : w3.heap[wr.heap.size]? = wk.heap[wr.heap.size]? := hblk _ hs (fun hp e => by
    obtain ⟨_, l, k1, _⟩ := h.2.1 hp
    have k2 := h.1
    rw [e, k1] at k2
    simp at k2)
  have hb3 := hrb.trans h.1
  have hne : g ≠ wr.heap.size := by
    intro e
    rcases hg3 with e2 | e2
    · obtain ⟨hp, e3⟩ := hob g e2
      obtain ⟨_, l, k1, _⟩ := h.2.1 hp
      have k2 := h.1
      rw [← e, e3, k1] at k2
      simp at k2
    · omega
  refine ⟨⟨blk_cell (l := [_, _]) hb3 rfl, blk_free hb3 _⟩, by rw [setD_size]; omega, ?_, ?_, ?_⟩
  · rw [pt_pos _ (by omega), cp_pos _ (by omega)]
    exact blk_set (l := [_, _]) hb3 0 _
  · intro _
    rcases own3.2 with ⟨_, e⟩ | ⟨g', cap', cur, e, _, k1, k2, k3, k4, k5⟩
    · omega
    · simp at e
      obtain ⟨rfl, rfl⟩ := e
      refine ⟨?_, cur.toList, ?_, by simpa using k4, k2, k3, ?_⟩
      · rcases hg3 with e2 | e2
        · obtain ⟨hp, e3⟩ := hob g e2
          rw [e3]
          exact (h.2.1 hp).1
        · omega
      · rw [setD_other hne]
        simpa using k1
      · rw [Nat.mul_one] at k5
        rw [k5, sl_succ]
  · refine h.2.2.trans ⟨gr3.os, gr3.tape, gr3.output, by rw [setD_size]; omega, fun b hb => ?_⟩
    rw [setD_other (by omega)]
    exact hblk b (by have := h.2.2.size; omega) (fun hp e => by
      have := (h.2.1 hp).1
      omega)

theorem RkL.ownR2 {w : World} {D : Nat} {d : Dk} {F : Nat → Prop} {L : Lr} (h : RkL w D d F L) : ∃ xs : List Value, w.ownsRow 0 70 1 (.slice (pt d.k L.R) d.k (cp d.k L.rc)) d.k xs ∧ ∀ i, i < d.k → xs[i]? = some (.pointer (some ⟨L.rb i, 0, none⟩)) := by
  by_cases c : 0 < d.k
  · obtain ⟨l, h1, h2, h3, h4, h5⟩ := h.rows c
    refine ⟨l.take (d.k * 1), ⟨by rw [List.length_take]; omega, .inr ⟨L.R, L.rc, l.toArray, by rw [pt_pos _ c, cp_pos _ c], Nat.zero_le _, h1, h3, h4, by rw [List.size_toArray, h2, Nat.mul_one], rfl⟩⟩, fun i hi => ?_⟩
    rw [List.getElem?_take, if_pos (by omega)]
    exact h5 i hi
  · have e : d.k = 0 := by omega
    rw [e]
    exact ⟨[], ⟨rfl, .inl ⟨rfl, rfl⟩⟩, fun i hi => absurd hi (by omega)⟩

/-- Behind the append of a new region's pointer. -/
theorem new_end {w wr wk w3 : World} {D : Nat} {z : Nat → Int} {j lb lm : Nat} {L : Lr} (hd : RkL wr D (newD z j) (Gr no w wr) L) (hDw : D = w.heap.size) (hbel : Below w.heap.size w wr) (hj : j < 8) {xs : List Value} (hin : Inn wr (szN (z j)) lb lm wk) (hs : wr.heap.size < wk.heap.size)
    (hxs : ∀ i, i < j → xs[i]? = some (.pointer (some ⟨L.rb i, 0, none⟩))) (hxl : xs.length = j * 1) {g cap : Nat} {o : Obj}
    (own3 : w3.ownsRow 0 70 1 (.slice (some ⟨g, 0, none⟩) (j + 1) cap) (j + 1) (xs ++ [.pointer (some ⟨wr.heap.size, 0, none⟩)])) (gr3 : (wk.alloc o).grownBy w3 (Value.slice (pt j L.R) j (cp j L.rc)).ownBlock) (hg3 : (Value.slice (pt j L.R) j (cp j L.rc)).ownBlock = some g ∨ g = wk.heap.size + 1) (hlt3 : g < w3.heap.size) :
    (w3.cell? ⟨D, 0, none⟩ = some (.slice (pt j L.R) j (cp j L.rc)) ∧ w3.frozen? ⟨D, 0, none⟩ = false) ∧
    ∃ L', RkL (w3.setCell ⟨D, 0, none⟩ (.slice (some ⟨g, 0, none⟩) (j + 1) cap)) D (newD z (j + 1)) (Gr no w (w3.setCell ⟨D, 0, none⟩ (.slice (some ⟨g, 0, none⟩) (j + 1) cap))) L' ∧ Below w.heap.size w (w3.setCell ⟨D, 0, none⟩ (.slice (some ⟨g, 0, none⟩) (j + 1) cap)) := by
  have hob : ∀ k, (Value.slice (pt j L.R) j (cp j L.rc)).ownBlock = some k → 0 < j ∧ k = L.R := by
    intro k hk
    by_cases c : 0 < j
    · rw [pt_pos _ c] at hk
      exact ⟨c, by simpa [Value.ownBlock] using hk.symm⟩
    · have e : j = 0 := by omega
      rw [e, pt_zero] at hk
      cases hk
  have sz1 := hin.2.2.size
  have sW : (wk.alloc o).heap.size = wk.heap.size + 1 := by simp
  have hsz : wk.heap.size + 1 ≤ w3.heap.size := by rw [← sW]; exact gr3.size
  have hRlt : 0 < j → L.R < wr.heap.size := fun hp => by
    obtain ⟨l', k1, _⟩ := hd.rows hp
    exact blk_lt k1
  have hnew : ∀ k, k < wk.heap.size → (0 < j → k ≠ L.R) → w3.heap[k]? = wk.heap[k]? := fun k hk hne =>
    (gr3.block k (by omega) (fun e => by
      obtain ⟨q0, e'⟩ := hob k e.symm
      exact hne q0 e')).trans (Below.heap_alloc wk o k hk)
  have hblk : ∀ k, k < wr.heap.size → (0 < j → k ≠ L.R) → w3.heap[k]? = wr.heap[k]? := fun k hk hne => (hnew k (by omega) hne).trans (hin.2.2.block k hk)
  rcases own3.2 with ⟨_, e⟩ | ⟨g', cap', cur, e, _, k1, k2, k3, k4, k5⟩
  · omega
  · simp at e
    obtain ⟨rfl, rfl⟩ := e
    have hD3 : w3.heap[D]? = _ := (hblk D (blk_lt hd.dk) (fun hp e => by
      obtain ⟨l', q1, _⟩ := hd.rows hp
      have q2 := hd.dk
      rw [e, q1] at q2
      simp at q2)).trans hd.dk
    have hk5 : ∀ i, i < j + 1 → cur.toList[i]? = (xs ++ [.pointer (some ⟨wr.heap.size, 0, none⟩)])[i]? := fun i hi => by
      rw [← k5, List.getElem?_take, if_pos (by omega)]
    have P := hd.newreg (w3 := w3) (by exact hj) (z := z j) rfl (g := g) (cap := cap) (b := wr.heap.size) (lb := lb) (lm := lm) (by omega) hblk (by
      rcases hg3 with e | e
      · exact .inl (hob g e)
      · exact .inr (by omega)) hlt3 (Nat.le_refl _) ((hnew _ hs (fun hp e => by have := hRlt hp; omega)).trans hin.1) (fun hp => by
        obtain ⟨q0, l', q1, q2⟩ := hin.2.1 hp
        exact ⟨q0, l', (hnew _ (blk_lt q1) (fun hp e => by have := hRlt hp; omega)).trans q1, q2⟩) (l := cur.toList) (by simpa using k1) (by simpa using k4) k2 k3 (fun i hi => by
        have hi' : i < j := hi
        rw [hk5 _ (by omega), List.getElem?_append_left (by omega)]
        exact hxs i hi') (by
        show cur.toList[j]? = _
        rw [hk5 _ (by omega), List.getElem?_append_right (by omega), hxl, Nat.mul_one, Nat.sub_self]
        rfl)
    have eS : (w3.setCell ⟨D, 0, none⟩ (.slice (some ⟨g, 0, none⟩) (j + 1) cap)).heap.size = w3.heap.size := setD_size
    have eG : Gr (Gr no w wr) wr w3 = Gr no w (w3.setCell ⟨D, 0, none⟩ (.slice (some ⟨g, 0, none⟩) (j + 1) cap)) := by
      rw [Gr.trans hbel.size (by omega)]
      unfold Gr
      rw [eS]
    rw [eG] at P
    refine ⟨⟨blk_cell (l := [_, _, _, _, _]) hD3 rfl, blk_free hD3 _⟩, _, P, ?_⟩
    have hbs := hbel.size
    refine ⟨gr3.os.trans (hin.2.2.os.trans hbel.os), gr3.tape.trans (hin.2.2.tape.trans hbel.tape), gr3.output.trans (hin.2.2.output.trans hbel.output), by rw [eS]; omega, fun k hk => ?_⟩
    rw [setD_other (by omega), hblk k (by omega) (fun hp e => by
      have := hd.ownR hp
      rcases this with h | h
      · exact h
      · omega)]
    exact hbel.block k hk

set_option maxRecDepth 100000 in
set_option maxHeartbeats 1600000 in
theorem new (ao : Option Addr) (n cap : Nat) (z : Nat → Int) (w : World) (hn : n ≤ 140737488355328) (hz : ∀ j, -9223372036854775808 ≤ z j ∧ z j < 9223372036854775808) (hc : ∀ j, j < n → ∃ b o, ao = some ⟨b, o, none⟩ ∧ b < w.heap.size ∧ w.cell? ⟨b, o + j, none⟩ = some (.int .i64 (z j))) :
    Calls Tryz.prog 5 #[.slice ao n cap] w fun e w' => e = .returned (.pointer (some ⟨w.heap.size, 0, none⟩)) ∧ (∃ L, RkL w' w.heap.size (newD z (min n 8)) (Gr no w w') L) ∧ Below w.heap.size w w' := by
  obtain ⟨i0, hi0, hz0, hz1, hz2⟩ := info_parts infoS
  obtain ⟨i1, hi1, hy0, hy1, hy2⟩ := info_parts infoP
  obtain ⟨k, hk⟩ : ∃ k, k = min n 8 := ⟨_, rfl⟩
  rw [← hk]
  have HK := hid hk
  have hk8 : k ≤ 8 := by omega
  have hkn : k ≤ n := by omega
  have hkm : k = n ∨ k = 8 := by omega
  have HS := hid (startR w z)
  clear hk
  go_enter Tryz.func5, Tryz.ntmps5
  go_wp2
  go_loopw [4] (fun iv wr => ∃ j : Nat, j ≤ k ∧ iv = .int .i64 (j : Int) ∧ ∃ L, RkL wr w.heap.size (newD z j) (Gr no w wr) L ∧ Below w.heap.size w wr) (fun iv _ => k - (intOf iv).toNat)
  case atStart => exact ⟨0, Nat.zero_le _, rfl, _, HS.out, (Below.refl _ _).alloc (Nat.le_refl _) _⟩
  case round =>
    obtain ⟨j, hj, rfl, L, hd, hbel⟩ := hrel
    rename World => wo
    by_cases hlt : j < k
    · obtain ⟨b, o, rfl, hb, hcl⟩ := hc j (by omega)
      have r1 := (hbel.cell (p := ⟨b, o + j, none⟩) (by exact hb)).trans hcl
      have hzj := hz j
      obtain ⟨xs, hox, hxs⟩ := hd.ownR2
      have hxl : xs.length = j * 1 := hox.1
      have rD : Hid (∀ W, Below wo.heap.size wo W → W.cell? ⟨w.heap.size, 0, none⟩ = some (.slice (pt j L.R) j (cp j L.rc))) := fun W hW => (hW.cell (hd.lt _ hd.ownD)).trans hd.cD.1
      have OWN : Hid (∀ W o, Below wo.heap.size wo W → (World.alloc W o).ownsRow 0 70 1 (.slice (pt j L.R) j (cp j L.rc)) j xs) := fun W o hW => World.ownsRow.alloc (own_below hox hW) o
      have FIN := hid (fun (wk w3 : World) (lb lm g cap : Nat) (o : Obj) (hin : Inn wo (szN (z j)) lb lm wk) (hs : wo.heap.size < wk.heap.size) own3 gr3 hg3 hlt3 => new_end (w3 := w3) (g := g) (cap := cap) (o := o) hd rfl hbel (by omega) hin hs hxs hxl own3 gr3 hg3 hlt3)
      have hszn : (z j ≤ 4096 ∧ szN (z j) = (z j).toNat) ∨ (4096 < z j ∧ szN (z j) = 4096) := by unfold szN; omega
      have hN4 : szN (z j) ≤ 4096 := by unfold szN; omega
      have CN := hid (none_ (wo.alloc (.cells #[.slice none 0 0, .slice none 0 0] 73)))
      have I0 : Hid (∀ W, Below (wo.heap.size + 1) (wo.alloc (.cells #[.slice none 0 0, .slice none 0 0] 73)) W → wo.heap.size < W.heap.size ∧ Inn wo 0 0 0 W) := fun W hW => by
        have h1 := hW.size
        simp at h1
        refine ⟨by omega, (hW.block _ (by omega)).trans (heap_alloc_last wo _), fun h => absurd h (by omega), ?_⟩
        exact ((Below.refl wo.heap.size wo).alloc (Nat.le_refl _) _).trans (hW.mono (by omega))
      clear hox hxs hd hc hcl
      generalize hNg : szN (z j) = N at *
      have HNg := hid hNg
      clear hNg
      generalize z j = zj at *
      rcases hszn with ⟨hA, hB⟩ | ⟨hA, hB⟩
      all_goals
        go_wp2_with fail
        refine CN.out.mono ?_
        rintro e w1 ⟨rfl, b0⟩
        have I1 := hid (I0.out w1 (b0.mono (by simp)))
        clear b0
        go_wp2
        go_loopw [8] (fun kv wk => ∃ m : Nat, m ≤ N ∧ kv = .int .i64 (m : Int) ∧ ∃ lb lm, wo.heap.size < wk.heap.size ∧ Inn wo m lb lm wk) (fun kv _ => N - (intOf kv).toNat)
        case atStart => exact ⟨0, Nat.zero_le _, rfl, 0, 0, I1.out⟩
        case round =>
          clear I1
          obtain ⟨m, hm, rfl, lb, lm, hs, hin⟩ := hrel
          by_cases hmN : m < N
          · have c0 : wr.cell? ⟨wo.heap.size, 0, none⟩ = some (.slice (pt m lb) m (cp m lm)) := blk_cell (l := [_, _]) hin.1 rfl
            have OW := hid (fun o => hin.own.alloc o)
            have PU := hid (fun (w3 : World) (g cap : Nat) (o : Obj) own3 gr3 hg3 => hin.push (w3 := w3) (g := g) (cap := cap) (o := o) hs own3 gr3 hg3)
            clear hin
            generalize noB = nb at *
            go_wp2_with (at_builtin; refine wpList_append_lies _ rfl _ _ 31 rfl 0 9 i0 (.string ⟨#[]⟩) 1 16 Tryz.underlying31 hi0 hz0 hz1 hz2 rfl (by decide) _ _ _ rfl (OW.out _) ⟨wr.heap.size, 0, none⟩ 1 1 [.string nb] rfl rfl (World.news_of_block (heap_alloc_last wr _)) (by intro u hu; simp at hu; subst hu; rfl) (by decide) (by unfold maxLen; omega) (by omega) (Nat.zero_le _) (wr.heap.size + 1) (by simp) ?_; intro g cap w3 own3 gr3 hg3 hlt3; obtain ⟨⟨f1, f2⟩, f3, f4⟩ := PU.out w3 g cap _ own3 gr3 hg3; have F3 := hid (And.intro f3 f4); clear f3 f4 own3 gr3 hg3 hlt3)
            go_roundw
            case rel => exact ⟨m + 1, by omega, by go_num, _, _, F3.out⟩
            case measure => simp [intOf] <;> omega
          · have hE : m = N := by omega
            have hin2 := hin
            rw [hE] at hin2
            have HI := hid hin2
            have rD1 := rD.out _ hin.2.2
            have rb := hid hin.2.2
            clear hin hin2
            go_wp2_with (at_builtin; refine wpList_append_lies _ rfl _ _ 67 rfl 0 70 i1 (.pointer none) 1 8 Tryz.underlying67 hi1 hy0 hy1 hy2 rfl (by decide) _ _ _ rfl (OWN.out _ _ rb.out) ⟨wr.heap.size, 0, none⟩ 1 1 [.pointer (some ⟨wo.heap.size, 0, none⟩)] rfl rfl (World.news_of_block (heap_alloc_last wr _)) (by intro u hu; simp at hu; subst hu; rfl) (by decide) (by unfold maxLen; omega) (by omega) (Nat.zero_le _) (wr.heap.size + 1) (by simp) ?_; intro g cap w3 own3 gr3 hg3 hlt3; obtain ⟨⟨f1, f2⟩, f3⟩ := FIN.out _ w3 lb lm g cap _ HI.out hs own3 gr3 hg3 hlt3; have F3 := hid f3; clear f3 own3 gr3 hg3 hlt3)
            go_roundw
            case rel => exact ⟨j + 1, by omega, by go_num, F3.out⟩
            case measure => simp [intOf] <;> omega
    · have hE : j = k := by omega
      subst hE
      have HD := hid (show (∃ L, RkL wo w.heap.size (newD z j) (Gr no w wo) L) ∧ Below w.heap.size w wo from ⟨⟨L, hd⟩, hbel⟩)
      clear hd hbel hc
      rcases hkm with hkm | hkm
      · subst hkm
        go_wp2
        go_ret
        exact ⟨rfl, HD.out⟩
      · subst hkm
        go_wp2
        all_goals
          go_ret
          exact ⟨rfl, HD.out⟩

end Go.Proofs.YthmholgfnjpgbaaGreat.Wr
