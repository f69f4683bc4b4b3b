/-
  How the document's disk lies in memory: by its pointer ('RkL'), its regions by theirs; what a call may turn of it. Nothing is asked but what each fact names.
-/
import Derived.Test.YtffhnkljmalbiaaDkQ
namespace Go.Proofs.Ytffhnkljmalbiaa.Wr
open Go.ChangeShapes Go.WideShapes Go.ChangeAt Go.RowKit Go.Proofs.Ytffhnkljmalbiaa.M Go.Proofs.Ytffhnkljmalbiaa.Wd

/-- The cells of sectors. -/
def sl (s : Nat → ByteArray) (n : Nat) : List Value := (List.range n).map fun k => .string (s k)
theorem sl_length (s : Nat → ByteArray) (n : Nat) : (sl s n).length = n := by simp [sl]
theorem sl_get (s : Nat → ByteArray) (n k : Nat) (h : k < n) : (sl s n)[k]? = some (.string (s k)) := by
  unfold sl
  rw [List.getElem?_map, List.getElem?_range h]
  rfl
theorem sl_succ (s : Nat → ByteArray) (n : Nat) : sl s (n + 1) = sl s n ++ [.string (s n)] := by
  unfold sl
  rw [List.range_succ, List.map_append]
  rfl
theorem sl_set (s : Nat → ByteArray) (n k : Nat) (x : ByteArray) (h : k < n) : (sl s n).set k (.string x) = sl (upd s k x) n := by
  apply List.ext_getElem?
  intro j
  by_cases hj : j < n
  · rw [sl_get _ _ _ hj]
    by_cases c : j = k
    · subst c
      rw [List.getElem?_set_self (by rw [sl_length]; exact hj), upd_at]
    · rw [List.getElem?_set_ne (fun e => c e.symm), sl_get _ _ _ hj, upd_off _ _ c]
  · rw [List.getElem?_eq_none (by rw [List.length_set, sl_length]; omega), List.getElem?_eq_none (by rw [sl_length]; omega)]
/-- The cells of a queue. -/
def qs : List (Nat × ByteArray) → List Value
  | [] => []
  | x :: q => .int .i64 (x.1 : Int) :: .string x.2 :: qs q
theorem qs_length : ∀ q, (qs q).length = q.length * 2
  | [] => rfl
  | x :: q => by
    show (qs q).length + 1 + 1 = (q.length + 1) * 2
    rw [qs_length q]
    omega
theorem qs_app : ∀ (q p : List (Nat × ByteArray)), qs (q ++ p) = qs q ++ qs p
  | [], p => rfl
  | x :: q, p => by
    show _ :: _ :: qs (q ++ p) = _
    rw [qs_app q p]
    rfl
theorem qs_get : ∀ (q : List (Nat × ByteArray)) (k : Nat), k < q.length → (qs q)[k * 2]? = some (.int .i64 ((qx q k).1 : Int)) ∧ (qs q)[k * 2 + 1]? = some (.string (qx q k).2)
  | x :: q, 0, _ => ⟨rfl, rfl⟩
  | x :: q, k + 1, h => by
    have := qs_get q k (by simpa using h)
    have e1 : (k + 1) * 2 = k * 2 + 1 + 1 := by omega
    rw [e1]
    exact this

/-- Where the document's disk's parts lie. -/
structure Lr where
  R : Nat
  rc : Nat
  rb : Nat → Nat
  lb : Nat → Nat
  lm : Nat → Nat
  qb : Nat → Nat
  qm : Nat → Nat
  ta : Int
  ka : Option Addr
  kc : Nat

structure RkL (w : World) (D : Nat) (d : Dk) (F : Nat → Prop) (L : Lr) : Prop where
  dk : w.heap[D]? = some (.cells #[.slice (pt d.k L.R) d.k (cp d.k L.rc), .bool d.off, .int .i64 L.ta, .int .i64 (aL d.ask), .slice L.ka (aK d.ask).length L.kc] 68 (0, 0))
  ta : ∀ a l K, d.ask = some (a, l, K) → L.ta = (a : Int)
  rows : 0 < d.k → ∃ l : List Value, w.heap[L.R]? = some (.cells l.toArray 69 (0, 0)) ∧ l.length = L.rc ∧ d.k ≤ L.rc ∧ L.rc ≤ maxLen ∧ ∀ i, i < d.k → l[i]? = some (.pointer (some ⟨L.rb i, 0, none⟩))
  reg : ∀ i, i < d.k → w.heap[L.rb i]? = some (.cells #[.slice (pt (d.r i).n (L.lb i)) (d.r i).n (cp (d.r i).n (L.lm i)), .slice (pt (d.r i).q.length (L.qb i)) (d.r i).q.length (cp (d.r i).q.length (L.qm i))] 72 (0, 0))
  las : ∀ i, i < d.k → 0 < (d.r i).n → ∃ l : List Value, w.heap[L.lb i]? = some (.cells l.toArray 9 (0, 0)) ∧ l.length = L.lm i ∧ (d.r i).n ≤ L.lm i ∧ L.lm i ≤ maxLen ∧ l.take (d.r i).n = sl (d.r i).s (d.r i).n
  que : ∀ i, i < d.k → 0 < (d.r i).q.length → ∃ l : List Value, w.heap[L.qb i]? = some (.cells l.toArray 94 (0, 0)) ∧ l.length = L.qm i * 2 ∧ (d.r i).q.length ≤ L.qm i ∧ L.qm i ≤ maxLen ∧ l.take ((d.r i).q.length * 2) = qs (d.r i).q
  injr : ∀ i j, i < d.k → j < d.k → L.rb i = L.rb j → i = j
  injl : ∀ i j, i < d.k → j < d.k → 0 < (d.r i).n → 0 < (d.r j).n → L.lb i = L.lb j → i = j
  injq : ∀ i j, i < d.k → j < d.k → 0 < (d.r i).q.length → 0 < (d.r j).q.length → L.qb i = L.qb j → i = j
  kr : KO F w L.ka (aK d.ask)
  ownD : F D
  ownR : 0 < d.k → F L.R
  ownr : ∀ i, i < d.k → F (L.rb i)
  ownl : ∀ i, i < d.k → 0 < (d.r i).n → F (L.lb i)
  ownq : ∀ i, i < d.k → 0 < (d.r i).q.length → F (L.qb i)
  lt : ∀ b, F b → b < w.heap.size
  ok : d.ok

theorem RkL.kept {w w' : World} {D : Nat} {d : Dk} {F : Nat → Prop} {L : Lr} (h : RkL w D d F L) (hs : w.heap.size ≤ w'.heap.size) (hk : ∀ b, F b → w'.heap[b]? = w.heap[b]?) : RkL w' D d F L where
  dk := (hk _ h.ownD).trans h.dk
  ta := h.ta
  rows := fun hp => by
    obtain ⟨l, h1, h2⟩ := h.rows hp
    exact ⟨l, (hk _ (h.ownR hp)).trans h1, h2⟩
  reg := fun i hi => (hk _ (h.ownr i hi)).trans (h.reg i hi)
  las := fun i hi hn => by
    obtain ⟨l, h1, h2⟩ := h.las i hi hn
    exact ⟨l, (hk _ (h.ownl i hi hn)).trans h1, h2⟩
  que := fun i hi hq => by
    obtain ⟨l, h1, h2⟩ := h.que i hi hq
    exact ⟨l, (hk _ (h.ownq i hi hq)).trans h1, h2⟩
  injr := h.injr
  injl := h.injl
  injq := h.injq
  kr := h.kr.kept (fun b _ _ _ hb => hk b hb) fun _ hb => hb
  ownD := h.ownD
  ownR := h.ownR
  ownr := h.ownr
  ownl := h.ownl
  ownq := h.ownq
  lt := fun b hb => Nat.lt_of_lt_of_le (h.lt b hb) hs
  ok := h.ok

theorem RkL.more {w : World} {D : Nat} {d : Dk} {F G : Nat → Prop} {L : Lr} (h : RkL w D d F L) (hFG : ∀ b, F b → G b) (hlt : ∀ b, G b → b < w.heap.size) : RkL w D d G L where
  dk := h.dk
  ta := h.ta
  rows := h.rows
  reg := h.reg
  las := h.las
  que := h.que
  injr := h.injr
  injl := h.injl
  injq := h.injq
  kr := h.kr.kept (fun _ _ _ _ _ => rfl) hFG
  ownD := hFG _ h.ownD
  ownR := fun hp => hFG _ (h.ownR hp)
  ownr := fun i hi => hFG _ (h.ownr i hi)
  ownl := fun i hi hn => hFG _ (h.ownl i hi hn)
  ownq := fun i hi hq => hFG _ (h.ownq i hi hq)
  lt := hlt
  ok := h.ok

theorem RkL.congr {w : World} {D : Nat} {d d' : Dk} {F : Nat → Prop} {L : Lr} (h : RkL w D d F L) (hk : d'.k = d.k) (ho : d'.off = d.off) (ha : d'.ask = d.ask) (hr : ∀ j, j < d.k → d'.r j = d.r j) : RkL w D d' F L where
  dk := by rw [hk, ho, ha]; exact h.dk
  ta := by rw [ha]; exact h.ta
  rows := fun hp => by
    rw [hk] at hp ⊢
    exact h.rows hp
  reg := fun i hi => by rw [hk] at hi; rw [hr i hi]; exact h.reg i hi
  las := fun i hi => by rw [hk] at hi; rw [hr i hi]; exact h.las i hi
  que := fun i hi => by rw [hk] at hi; rw [hr i hi]; exact h.que i hi
  injr := fun i j hi hj => by rw [hk] at hi hj; exact h.injr i j hi hj
  injl := fun i j hi hj => by rw [hk] at hi hj; rw [hr i hi, hr j hj]; exact h.injl i j hi hj
  injq := fun i j hi hj => by rw [hk] at hi hj; rw [hr i hi, hr j hj]; exact h.injq i j hi hj
  kr := by rw [ha]; exact h.kr
  ownD := h.ownD
  ownR := fun hp => by rw [hk] at hp; exact h.ownR hp
  ownr := fun i hi => by rw [hk] at hi; exact h.ownr i hi
  ownl := fun i hi => by rw [hk] at hi; rw [hr i hi]; exact h.ownl i hi
  ownq := fun i hi => by rw [hk] at hi; rw [hr i hi]; exact h.ownq i hi
  lt := h.lt
  ok := ⟨by rw [hk]; exact h.ok.k, fun i hi => by rw [hk] at hi; rw [hr i hi]; exact h.ok.r i hi, fun a l K e => by rw [ha] at e; rw [hk]; exact h.ok.ask a l K e⟩

/-- One region has turned. -/
theorem RkL.turn {w w' : World} {D : Nat} {d : Dk} {F : Nat → Prop} {L : Lr} (h : RkL w D d F L) {i : Nat} (hi : i < d.k) {r : Rg} (hr : r.ok) {lb lm qb qm : Nat} (hsz : w.heap.size ≤ w'.heap.size)
    (hk : ∀ b, b < w.heap.size → b ≠ L.rb i → (0 < (d.r i).n → b ≠ L.lb i) → (0 < (d.r i).q.length → b ≠ L.qb i) → w'.heap[b]? = w.heap[b]?)
    (hreg : w'.heap[L.rb i]? = some (.cells #[.slice (pt r.n lb) r.n (cp r.n lm), .slice (pt r.q.length qb) r.q.length (cp r.q.length qm)] 72 (0, 0)))
    (hl : 0 < r.n → ∃ l : List Value, w'.heap[lb]? = some (.cells l.toArray 9 (0, 0)) ∧ l.length = lm ∧ r.n ≤ lm ∧ lm ≤ maxLen ∧ l.take r.n = sl r.s r.n)
    (hl2 : 0 < r.n → (0 < (d.r i).n ∧ lb = L.lb i) ∨ w.heap.size ≤ lb)
    (hq : 0 < r.q.length → ∃ l : List Value, w'.heap[qb]? = some (.cells l.toArray 94 (0, 0)) ∧ l.length = qm * 2 ∧ r.q.length ≤ qm ∧ qm ≤ maxLen ∧ l.take (r.q.length * 2) = qs r.q)
    (hq2 : 0 < r.q.length → (0 < (d.r i).q.length ∧ qb = L.qb i) ∨ w.heap.size ≤ qb) :
    RkL w' D (d.at i r) (Gr F w w') { L with lb := upd L.lb i lb, lm := upd L.lm i lm, qb := upd L.qb i qb, qm := upd L.qm i qm } := by
  have hro : ∀ j, j ≠ i → (d.at i r).r j = d.r j := fun j hj => upd_off _ _ hj
  have hri : (d.at i r).r i = r := upd_at _ _ _
  have hK : ∀ (b : Nat) (cs : Array Value) (T : TypeId) (fr : Nat × Nat), w.heap[b]? = some (.cells cs T fr) → T ≠ 72 → T ≠ 9 → T ≠ 94 → w'.heap[b]? = w.heap[b]? := fun b cs T fr h1 h2 h3 h4 =>
    hk b (blk_lt h1) (fun e => by rw [e, h.reg i hi] at h1; simp at h1; exact h2 h1.2.1.symm) (fun hn e => by
      obtain ⟨l, k1, _⟩ := h.las i hi hn
      rw [e, k1] at h1; simp at h1; exact h3 h1.2.1.symm) (fun hn e => by
      obtain ⟨l, k1, _⟩ := h.que i hi hn
      rw [e, k1] at h1; simp at h1; exact h4 h1.2.1.symm)
  refine ⟨(hK D _ _ _ h.dk (by decide) (by decide) (by decide)).trans h.dk, h.ta, ?_, ?_, ?_, ?_, h.injr, ?_, ?_, ?_, .inl h.ownD, fun hp => .inl (h.ownR hp), fun j hj => .inl (h.ownr j hj), ?_, ?_, ?_, Dk.at_ok h.ok i hr⟩
  · intro hp
    obtain ⟨l, k1, k2⟩ := h.rows hp
    exact ⟨l, (hK _ _ _ _ k1 (by decide) (by decide) (by decide)).trans k1, k2⟩
  · intro j hj
    by_cases c : j = i
    · subst c
      rw [hri]
      show w'.heap[L.rb j]? = some (Obj.cells #[.slice (pt r.n (upd L.lb j lb j)) r.n (cp r.n (upd L.lm j lm j)), .slice (pt r.q.length (upd L.qb j qb j)) r.q.length (cp r.q.length (upd L.qm j qm j))] _ _)
      rw [upd_at, upd_at, upd_at, upd_at]
      exact hreg
    · rw [hro j c]
      show w'.heap[L.rb j]? = some (Obj.cells #[.slice (pt _ (upd L.lb i lb j)) _ (cp _ (upd L.lm i lm j)), .slice (pt _ (upd L.qb i qb j)) _ (cp _ (upd L.qm i qm j))] _ _)
      rw [upd_off _ _ c, upd_off _ _ c, upd_off _ _ c, upd_off _ _ c]
      have k1 := h.reg j hj
      rw [hk _ (blk_lt k1) (fun e => c (h.injr j i hj hi e)) (fun hn e => by
        obtain ⟨l, k2, _⟩ := h.las i hi hn
        rw [e, k2] at k1; simp at k1) (fun hn e => by
        obtain ⟨l, k2, _⟩ := h.que i hi hn
        rw [e, k2] at k1; simp at k1)]
      exact k1
  · intro j hj hn
    by_cases c : j = i
    · subst c
      rw [hri] at hn ⊢
      show ∃ l : List Value, w'.heap[upd L.lb j lb j]? = _ ∧ l.length = upd L.lm j lm j ∧ _ ≤ upd L.lm j lm j ∧ upd L.lm j lm j ≤ maxLen ∧ _
      rw [upd_at, upd_at]
      exact hl hn
    · rw [hro j c] at hn ⊢
      show ∃ l : List Value, w'.heap[upd L.lb i lb j]? = _ ∧ l.length = upd L.lm i lm j ∧ _ ≤ upd L.lm i lm j ∧ upd L.lm i lm j ≤ maxLen ∧ _
      rw [upd_off _ _ c, upd_off _ _ c]
      obtain ⟨l, k1, k2⟩ := h.las j hj hn
      refine ⟨l, ?_, k2⟩
      rw [hk _ (blk_lt k1) (fun e => by rw [e, h.reg i hi] at k1; simp at k1) (fun hn' e => c (h.injl j i hj hi hn hn' e)) (fun hn' e => by
        obtain ⟨l', k3, _⟩ := h.que i hi hn'
        rw [e, k3] at k1; simp at k1)]
      exact k1
  · intro j hj hn
    by_cases c : j = i
    · subst c
      rw [hri] at hn ⊢
      show ∃ l : List Value, w'.heap[upd L.qb j qb j]? = _ ∧ l.length = upd L.qm j qm j * 2 ∧ _ ≤ upd L.qm j qm j ∧ upd L.qm j qm j ≤ maxLen ∧ _
      rw [upd_at, upd_at]
      exact hq hn
    · rw [hro j c] at hn ⊢
      show ∃ l : List Value, w'.heap[upd L.qb i qb j]? = _ ∧ l.length = upd L.qm i qm j * 2 ∧ _ ≤ upd L.qm i qm j ∧ upd L.qm i qm j ≤ maxLen ∧ _
      rw [upd_off _ _ c, upd_off _ _ c]
      obtain ⟨l, k1, k2⟩ := h.que j hj hn
      refine ⟨l, ?_, k2⟩
      rw [hk _ (blk_lt k1) (fun e => by rw [e, h.reg i hi] at k1; simp at k1) (fun hn' e => by
        obtain ⟨l', k3, _⟩ := h.las i hi hn'
        rw [e, k3] at k1; simp at k1) (fun hn' e => c (h.injq j i hj hi hn hn' e))]
      exact k1
  · intro a b ha hb hna hnb e
    have e' : upd L.lb i lb a = upd L.lb i lb b := e
    have key : ∀ j, j < d.k → j ≠ i → 0 < (d.r j).n → 0 < r.n → L.lb j ≠ lb := by
      intro j hj hne hn hn' e
      obtain ⟨l', k1, _⟩ := h.las j hj hn
      rcases hl2 hn' with ⟨q0, rfl⟩ | hg
      · exact hne (h.injl j i hj hi hn q0 e)
      · have := blk_lt k1; omega
    by_cases c1 : a = i
    · by_cases c2 : b = i
      · rw [c1, c2]
      · subst c1
        rw [hro b c2] at hnb
        rw [hri] at hna
        rw [upd_at, upd_off _ _ c2] at e'
        exact absurd e'.symm (key b hb c2 hnb hna)
    · by_cases c2 : b = i
      · subst c2
        rw [hro a c1] at hna
        rw [hri] at hnb
        rw [upd_at, upd_off _ _ c1] at e'
        exact absurd e' (key a ha c1 hna hnb)
      · rw [hro a c1] at hna
        rw [hro b c2] at hnb
        rw [upd_off _ _ c1, upd_off _ _ c2] at e'
        exact h.injl a b ha hb hna hnb e'
  · intro a b ha hb hna hnb e
    have e' : upd L.qb i qb a = upd L.qb i qb b := e
    have key : ∀ j, j < d.k → j ≠ i → 0 < (d.r j).q.length → 0 < r.q.length → L.qb j ≠ qb := by
      intro j hj hne hn hn' e
      obtain ⟨l', k1, _⟩ := h.que j hj hn
      rcases hq2 hn' with ⟨q0, rfl⟩ | hg
      · exact hne (h.injq j i hj hi hn q0 e)
      · have := blk_lt k1; omega
    by_cases c1 : a = i
    · by_cases c2 : b = i
      · rw [c1, c2]
      · subst c1
        rw [hro b c2] at hnb
        rw [hri] at hna
        rw [upd_at, upd_off _ _ c2] at e'
        exact absurd e'.symm (key b hb c2 hnb hna)
    · by_cases c2 : b = i
      · subst c2
        rw [hro a c1] at hna
        rw [hri] at hnb
        rw [upd_at, upd_off _ _ c1] at e'
        exact absurd e' (key a ha c1 hna hnb)
      · rw [hro a c1] at hna
        rw [hro b c2] at hnb
        rw [upd_off _ _ c1, upd_off _ _ c2] at e'
        exact h.injq a b ha hb hna hnb e'
  · exact h.kr.kept (fun b cs fr h1 _ => hK b cs _ fr h1 (by decide) (by decide) (by decide)) fun _ hb => .inl hb
  · intro j hj hn
    show Gr F w w' (upd L.lb i lb j)
    by_cases c : j = i
    · subst c
      rw [hri] at hn
      rw [upd_at]
      obtain ⟨l, k1, _⟩ := hl hn
      rcases hl2 hn with ⟨q0, rfl⟩ | hg
      · exact .inl (h.ownl _ hj q0)
      · exact .inr ⟨hg, blk_lt k1⟩
    · rw [hro j c] at hn
      rw [upd_off _ _ c]
      exact .inl (h.ownl j hj hn)
  · intro j hj hn
    show Gr F w w' (upd L.qb i qb j)
    by_cases c : j = i
    · subst c
      rw [hri] at hn
      rw [upd_at]
      obtain ⟨l, k1, _⟩ := hq hn
      rcases hq2 hn with ⟨q0, rfl⟩ | hg
      · exact .inl (h.ownq _ hj q0)
      · exact .inr ⟨hg, blk_lt k1⟩
    · rw [hro j c] at hn
      rw [upd_off _ _ c]
      exact .inl (h.ownq j hj hn)
  · intro b hb
    rcases hb with hb | hb
    · have := h.lt b hb; omega
    · exact hb.2

end Go.Proofs.Ytffhnkljmalbiaa.Wr
