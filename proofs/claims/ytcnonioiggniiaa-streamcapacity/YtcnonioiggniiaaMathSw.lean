/-
  Plain facts on a disk on which texts are laid, sector by sector, and flushed ('layD', 'layX'): it goes well, or the power fails on the way, and then some of the writes are kept. Nothing is asked but what each fact names.
-/
import Derived.Test.YtcnonioiggniiaaMathSv
namespace Go.Proofs.Ytcnonioiggniiaa.M

/-- A disk with its power on, and a region of n sectors. -/
structure Live (d : Dk) (i n : Nat) : Prop where
  off : d.off = false
  hi : i < d.k
  n : (d.r i).n = n
/-- One call less. -/
def dec (o : Option (Nat × Nat × List Int)) (i : Nat) : Option (Nat × Nat × List Int) := match o with
  | none => none
  | some (b, l, K) => if b = i then some (b, l - 1, K) else some (b, l, K)
theorem dec_none (i : Nat) : dec none i = none := rfl
theorem dec_some {o : Option (Nat × Nat × List Int)} {i : Nat} (h : ¬ o = none) : ¬ dec o i = none := by
  rcases o with _ | ⟨b, l, K⟩
  · exact absurd rfl h
  · unfold dec
    simp only
    split <;> simp

theorem Live.has {d : Dk} {i n : Nat} (h : Live d i n) : d.has (i : Int) = true := by
  unfold Dk.has
  have := h.hi
  exact decide_eq_true ⟨by omega, by omega⟩
theorem Live.readE {d : Dk} {i n : Nat} (h : Live d i n) {a : Nat} (ha : a < n) : d.readE (i : Int) (a : Int) = 0 := by
  unfold Dk.readE Dk.hasS
  rw [h.off, h.has, Int.toNat_natCast, h.n, decide_eq_true (show 0 ≤ (a : Int) ∧ (a : Int) < (n : Int) by omega)]
  rfl
theorem cnt_not {d : Dk} {i : Nat} (h : d.now i = false) : d.cnt i = { d with ask := dec d.ask i } := by
  rcases d with ⟨k, r, off, ask⟩
  unfold Dk.now at h
  unfold Dk.cnt dec
  rcases ask with _ | ⟨b, l, K⟩
  · rfl
  · simp only at h ⊢
    by_cases c : b = i
    · have c2 : ¬ l = 1 := fun e => by
        rw [decide_eq_true ⟨c, e⟩] at h
        cases h
      rw [if_pos c, if_neg c2, if_pos c]
    · rw [if_neg c, if_neg c]
theorem cnt_now {d : Dk} {i : Nat} (h : d.now i = true) : ∃ K, d.ask = some (i, 1, K) ∧ d.cnt i = { d.lose K with off := true, ask := none } := by
  rcases d with ⟨k, r, off, ask⟩
  unfold Dk.now at h
  rcases ask with _ | ⟨b, l, K⟩
  · simp only at h
    cases h
  · simp only at h
    obtain ⟨rfl, rfl⟩ := of_decide_eq_true h
    refine ⟨K, rfl, ?_⟩
    unfold Dk.cnt
    simp only [if_true]

/-- A write. -/
theorem Live.write {d : Dk} {i n : Nat} (h : Live d i n) {a : Nat} (ha : a < n) {x : ByteArray} (hx : x.size = 64) :
    (d.now i = false → d.writeE (i : Int) (a : Int) x = 0 ∧ d.write (i : Int) (a : Int) x = { d.at i ((d.r i).put a x) with ask := dec d.ask i }) ∧
    (d.now i = true → ∃ K, d.ask = some (i, 1, K) ∧ d.writeE (i : Int) (a : Int) x = 11 ∧ d.write (i : Int) (a : Int) x = { (d.at i ((d.r i).put a x)).lose K with off := true, ask := none }) := by
  have hp : d.preW (i : Int) (a : Int) x = 0 := by
    unfold Dk.preW
    rw [if_pos (h.readE ha), if_pos hx]
  have hput : d.put (i : Int) (a : Int) x = d.at i ((d.r i).put a x) := by
    unfold Dk.put
    rw [Int.toNat_natCast, Int.toNat_natCast]
  have hE : d.writeE (i : Int) (a : Int) x = if (d.at i ((d.r i).put a x)).now i then 11 else 0 := by
    unfold Dk.writeE
    rw [if_pos hp, hput, Int.toNat_natCast]
  have hW : d.write (i : Int) (a : Int) x = (d.at i ((d.r i).put a x)).cnt i := by
    unfold Dk.write
    rw [if_pos hp, hput, Int.toNat_natCast]
  have hn : (d.at i ((d.r i).put a x)).now i = d.now i := rfl
  constructor
  · intro c
    rw [hE, hW, hn, c]
    exact ⟨rfl, cnt_not (by rw [hn]; exact c)⟩
  · intro c
    obtain ⟨K, k1, k2⟩ := cnt_now (d := d.at i ((d.r i).put a x)) (i := i) (by rw [hn]; exact c)
    exact ⟨K, k1, by rw [hE, hn, c]; rfl, by rw [hW, k2]⟩
/-- A flush. -/
theorem Live.flush {d : Dk} {i n : Nat} (h : Live d i n) :
    (d.now i = false → d.flushE (i : Int) = 0 ∧ d.flush (i : Int) = { d.at i ((d.r i).set fun _ => true) with ask := dec d.ask i }) ∧
    (d.now i = true → ∃ K, d.ask = some (i, 1, K) ∧ d.flushE (i : Int) = 11 ∧ d.flush (i : Int) = { d.lose K with off := true, ask := none }) := by
  have hp : d.preF (i : Int) = 0 := by
    unfold Dk.preF
    rw [h.off, h.has]
    rfl
  have hE : d.flushE (i : Int) = if d.now i then 11 else 0 := by
    unfold Dk.flushE
    rw [if_pos hp, Int.toNat_natCast]
  have hF : d.flush (i : Int) = if d.now i then d.cnt i else (d.cnt i).at i ((d.r i).set fun _ => true) := by
    unfold Dk.flush
    rw [if_pos hp, Int.toNat_natCast]
  constructor
  · intro c
    rw [hE, hF, c]
    refine ⟨rfl, ?_⟩
    show (d.cnt i).at i _ = _
    rw [cnt_not c]
    rfl
  · intro c
    obtain ⟨K, k1, k2⟩ := cnt_now c
    rw [hE, hF, c]
    exact ⟨K, k1, rfl, k2⟩

/-- Texts laid from a sector on, the m-th first, r of them; then a flush. -/
def layD (i a : Nat) (c : Nat → ByteArray) : Nat → Nat → Dk → Dk
  | _, 0, d => d.flush (i : Int)
  | m, r + 1, d => if d.writeE (i : Int) ((a + m : Nat) : Int) (c m) = 0 then layD i a c (m + 1) r (d.write (i : Int) ((a + m : Nat) : Int) (c m)) else d.write (i : Int) ((a + m : Nat) : Int) (c m)
/-- The error of that; 0: none. -/
def layX (i a : Nat) (c : Nat → ByteArray) : Nat → Nat → Dk → Int
  | _, 0, d => d.flushE (i : Int)
  | m, r + 1, d => if d.writeE (i : Int) ((a + m : Nat) : Int) (c m) = 0 then layX i a c (m + 1) r (d.write (i : Int) ((a + m : Nat) : Int) (c m)) else d.writeE (i : Int) ((a + m : Nat) : Int) (c m)

/-- What lasts once all is laid. -/
def laid (s : Nat → ByteArray) (a : Nat) (c : Nat → ByteArray) (m : Nat) : Nat → ByteArray := fun k => if a ≤ k ∧ k < a + m then c (k - a) else s k

/-- It goes well. -/
structure LayOk (d e : Dk) (i n a m : Nat) (c : Nat → ByteArray) (s : Nat → ByteArray) : Prop where
  live : Live e i n
  k : e.k = d.k
  r : e.r i = ⟨n, laid s a c m, []⟩
  other : ∀ j, j ≠ i → e.r j = d.r j
  ask : d.ask = none → e.ask = none
/-- The power fails on the way. -/
structure LayNo (d e : Dk) (i n a m : Nat) (c : Nat → ByteArray) (s : Nat → ByteArray) : Prop where
  had : ¬ d.ask = none
  off : e.off = true
  ask : e.ask = none
  k : e.k = d.k
  r : ∃ K t, t ≤ m ∧ e.r i = ⟨n, stL (kb K i) s (qs a c t) t, []⟩ ∧ ∀ j, j ≠ i → e.r j = (d.r j).set (kb K j)

theorem lay_out {i n a : Nat} {c : Nat → ByteArray} {s : Nat → ByteArray} : ∀ r m (d : Dk), Live d i n → d.r i = ⟨n, s, qs a c m⟩ → a + m + r ≤ n → (∀ j, (c j).size = 64) →
    (layX i a c m r d = 0 ∧ LayOk d (layD i a c m r d) i n a (m + r) c s) ∨ (layX i a c m r d = 11 ∧ LayNo d (layD i a c m r d) i n a (m + r) c s)
  | 0, m, d, hl, hr, hn, hc => by
    have hs : ∀ kp, (d.r i).set kp = ⟨n, stL kp s (qs a c m) m, []⟩ := fun kp => by
      rw [hr]
      show Rg.mk n (stL kp s (qs a c m) (qs a c m).length) [] = _
      rw [qs_length]
    obtain ⟨f1, f2⟩ := hl.flush
    cases hnow : d.now i with
    | false =>
      obtain ⟨e1, e2⟩ := f1 hnow
      left
      refine ⟨e1, ?_⟩
      show LayOk d (d.flush (i : Int)) i n a (m + 0) c s
      rw [e2]
      have er : (d.at i ((d.r i).set fun _ => true)).r i = ⟨n, laid s a c (m + 0), []⟩ := by
        show upd d.r i _ i = _
        rw [upd_at, hs]
        have : stL (fun _ => true) s (qs a c m) m = laid s a c (m + 0) := by
          funext k
          rw [stL_qs _ s a c m m (Nat.le_refl _) k]
          unfold laid
          by_cases ck : a ≤ k ∧ k < a + m
          · rw [if_pos ⟨ck.1, ck.2, rfl⟩, if_pos ⟨ck.1, by omega⟩]
          · rw [if_neg (fun h => ck ⟨h.1, h.2.1⟩), if_neg (fun h => ck ⟨h.1, by omega⟩)]
        rw [this]
      refine ⟨⟨hl.off, hl.hi, ?_⟩, rfl, er, fun j hj => upd_off _ _ hj, fun h => ?_⟩
      · show ((d.at i ((d.r i).set fun _ => true)).r i).n = n
        rw [er]
      · show dec d.ask i = none
        rw [h]
        rfl
    | true =>
      obtain ⟨K, k1, e1, e2⟩ := f2 hnow
      right
      refine ⟨e1, ?_⟩
      show LayNo d (d.flush (i : Int)) i n a (m + 0) c s
      rw [e2]
      exact ⟨by rw [k1]; simp, rfl, rfl, rfl, K, m, by omega, hs _, fun j _ => rfl⟩
  | r + 1, m, d, hl, hr, hn, hc => by
    obtain ⟨f1, f2⟩ := hl.write (a := a + m) (by omega) (hc m)
    have hput : (d.r i).put (a + m) (c m) = ⟨n, s, qs a c (m + 1)⟩ := by
      rw [hr]
      rfl
    cases hnow : d.now i with
    | false =>
      obtain ⟨e1, e2⟩ := f1 hnow
      have u1 : layD i a c m (r + 1) d = layD i a c (m + 1) r (d.write (i : Int) ((a + m : Nat) : Int) (c m)) := if_pos e1
      have u2 : layX i a c m (r + 1) d = layX i a c (m + 1) r (d.write (i : Int) ((a + m : Nat) : Int) (c m)) := if_pos e1
      have er : (d.write (i : Int) ((a + m : Nat) : Int) (c m)).r i = ⟨n, s, qs a c (m + 1)⟩ := by
        rw [e2]
        show upd d.r i _ i = _
        rw [upd_at, hput]
      have hl2 : Live (d.write (i : Int) ((a + m : Nat) : Int) (c m)) i n := ⟨by rw [e2]; exact hl.off, by rw [e2]; exact hl.hi, by rw [er]⟩
      have hother : ∀ j, j ≠ i → (d.write (i : Int) ((a + m : Nat) : Int) (c m)).r j = d.r j := fun j hj => by
        rw [e2]
        exact upd_off _ _ hj
      have hask : (d.write (i : Int) ((a + m : Nat) : Int) (c m)).ask = dec d.ask i := by rw [e2]
      have hk : (d.write (i : Int) ((a + m : Nat) : Int) (c m)).k = d.k := by rw [e2]; rfl
      rw [u1, u2]
      rcases lay_out r (m + 1) _ hl2 er (by omega) hc with ⟨x, o⟩ | ⟨x, o⟩
      · left
        refine ⟨x, ⟨o.live, o.k.trans hk, by rw [o.r, show m + 1 + r = m + (r + 1) by omega], fun j hj => (o.other j hj).trans (hother j hj), fun h => o.ask ?_⟩⟩
        rw [hask, h]
        rfl
      · right
        obtain ⟨K, t, t1, t2, t3⟩ := o.r
        refine ⟨x, ⟨fun h => o.had (by rw [hask, h]; rfl), o.off, o.ask, o.k.trans hk, K, t, by omega, t2, fun j hj => ?_⟩⟩
        rw [t3 j hj, hother j hj]
    | true =>
      obtain ⟨K, k1, e1, e2⟩ := f2 hnow
      have u1 : layD i a c m (r + 1) d = d.write (i : Int) ((a + m : Nat) : Int) (c m) := if_neg (by rw [e1]; decide)
      have u2 : layX i a c m (r + 1) d = d.writeE (i : Int) ((a + m : Nat) : Int) (c m) := if_neg (by rw [e1]; decide)
      right
      rw [u1, u2]
      refine ⟨e1, ?_⟩
      rw [e2]
      refine ⟨by rw [k1]; simp, rfl, rfl, rfl, K, m + 1, by omega, ?_, fun j hj => ?_⟩
      · show (upd d.r i _ i).set (kb K i) = _
        rw [upd_at, hput]
        show Rg.mk n (stL (kb K i) s (qs a c (m + 1)) (qs a c (m + 1)).length) [] = _
        rw [qs_length]
      · show (upd d.r i _ j).set (kb K j) = _
        rw [upd_off _ _ hj]

end Go.Proofs.Ytcnonioiggniiaa.M
