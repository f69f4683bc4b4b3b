/-
  Plain facts on a disk as plain data: regions of sectors, the writes in their queues, what a loss of power keeps, what a read answers; and the cells that such data lie in. Nothing is asked but what each fact names.
-/
import Derived.Test.YtcnonioiggniiaaMathMs
import Derived.Test.YtcnonioiggniiaaMathC
import Derived.Laws.BytesArg
namespace Go.Proofs.Ytcnonioiggniiaa.M

/-- One value put in a family. -/
def upd {α : Type} (s : Nat → α) (k : Nat) (v : α) : Nat → α := fun j => if j = k then v else s j
theorem upd_at {α : Type} (s : Nat → α) (k : Nat) (v : α) : upd s k v k = v := if_pos rfl
theorem upd_off {α : Type} (s : Nat → α) {k j : Nat} (v : α) (h : j ≠ k) : upd s k v j = s j := if_neg h

/-- A region: how many sectors, what lasts, what stands in the queue. -/
structure Rg where
  n : Nat
  s : Nat → ByteArray
  q : List (Nat × ByteArray)

structure Rg.ok (r : Rg) : Prop where
  n : r.n ≤ 4096
  s : ∀ k, (r.s k).size = 64
  q : ∀ x ∈ r.q, x.1 < r.n ∧ x.2.size = 64

/-- The k-th write. -/
def qx (q : List (Nat × ByteArray)) (k : Nat) : Nat × ByteArray := q.getD k (0, ⟨#[]⟩)
theorem qx_mem {q : List (Nat × ByteArray)} {k : Nat} (h : k < q.length) : qx q k ∈ q := by
  unfold qx
  rw [List.getD_eq_getElem?_getD, List.getElem?_eq_getElem h]
  exact List.getElem_mem h
theorem qx_app {q : List (Nat × ByteArray)} {x : Nat × ByteArray} {k : Nat} (h : k < q.length) : qx (q ++ [x]) k = qx q k := by
  unfold qx
  rw [List.getD_eq_getElem?_getD, List.getD_eq_getElem?_getD, List.getElem?_append_left h]
theorem qx_last (q : List (Nat × ByteArray)) (x : Nat × ByteArray) : qx (q ++ [x]) q.length = x := by
  unfold qx
  rw [List.getD_eq_getElem?_getD, List.getElem?_append_right (Nat.le_refl _)]
  simp

/-- What a sector is read as, by the first k writes. -/
def rdk (r : Rg) (sec : Nat) : Nat → ByteArray
  | 0 => r.s sec
  | k + 1 => if (qx r.q k).1 = sec then (qx r.q k).2 else rdk r sec k
def Rg.rd (r : Rg) (sec : Nat) : ByteArray := rdk r sec r.q.length

theorem rdk_none (r : Rg) (sec a : Nat) : ∀ m, a ≤ m → (∀ j, a ≤ j → j < m → (qx r.q j).1 ≠ sec) → rdk r sec m = rdk r sec a
  | 0, h, _ => by rw [Nat.le_zero.1 h]
  | m + 1, h, hn => by
    by_cases c : a = m + 1
    · rw [c]
    · show (if (qx r.q m).1 = sec then _ else _) = _
      rw [if_neg (hn m (by omega) (by omega))]
      exact rdk_none r sec a m (by omega) fun j h1 h2 => hn j h1 (by omega)
theorem rdk_hit (r : Rg) (sec k : Nat) (h : (qx r.q k).1 = sec) : rdk r sec (k + 1) = (qx r.q k).2 := if_pos h
theorem rdk_size {r : Rg} (h : r.ok) (sec : Nat) : ∀ k, k ≤ r.q.length → (rdk r sec k).size = 64
  | 0, _ => h.s sec
  | k + 1, hk => by
    show (if (qx r.q k).1 = sec then (qx r.q k).2 else rdk r sec k).size = 64
    split
    · exact (h.q _ (qx_mem hk)).2
    · exact rdk_size h sec k (by omega)
theorem rd_size {r : Rg} (h : r.ok) (sec : Nat) : (r.rd sec).size = 64 := rdk_size h sec _ (Nat.le_refl _)

/-- What lasts behind the first k writes, of which some are kept. -/
def stL (kp : Nat → Bool) (s : Nat → ByteArray) (q : List (Nat × ByteArray)) : Nat → (Nat → ByteArray)
  | 0 => s
  | k + 1 => if kp k = true then upd (stL kp s q k) (qx q k).1 (qx q k).2 else stL kp s q k
theorem stL_yes {kp : Nat → Bool} {k : Nat} (h : kp k = true) (s : Nat → ByteArray) (q : List (Nat × ByteArray)) : stL kp s q (k + 1) = upd (stL kp s q k) (qx q k).1 (qx q k).2 := if_pos h
theorem stL_no {kp : Nat → Bool} {k : Nat} (h : kp k = false) (s : Nat → ByteArray) (q : List (Nat × ByteArray)) : stL kp s q (k + 1) = stL kp s q k := if_neg (by rw [h]; decide)
theorem stL_size {kp : Nat → Bool} {s : Nat → ByteArray} {q : List (Nat × ByteArray)} (hs : ∀ k, (s k).size = 64) (hq : ∀ x ∈ q, x.2.size = 64) : ∀ k, k ≤ q.length → ∀ j, (stL kp s q k j).size = 64
  | 0, _, j => hs j
  | k + 1, hk, j => by
    by_cases c : kp k = true
    · rw [stL_yes c]
      unfold upd
      split
      · exact hq _ (qx_mem hk)
      · exact stL_size hs hq k (by omega) j
    · rw [stL_no (by simpa using c)]
      exact stL_size hs hq k (by omega) j

/-- Which writes of region i are kept by the numbers K. -/
def kb (K : List Int) (i m : Nat) : Bool := if i < K.length then bitB (K.getD i 0) ((m % 64 : Nat) : Int) else false

/-- A region settled. -/
def Rg.set (r : Rg) (kp : Nat → Bool) : Rg := { r with s := stL kp r.s r.q r.q.length, q := [] }
theorem Rg.set_ok {r : Rg} (h : r.ok) (kp : Nat → Bool) : (r.set kp).ok :=
  ⟨h.n, fun k => stL_size h.s (fun x hx => (h.q x hx).2) _ (Nat.le_refl _) k, fun x hx => by cases hx⟩
/-- A region with one write more. -/
def Rg.put (r : Rg) (sec : Nat) (x : ByteArray) : Rg := { r with q := r.q ++ [(sec, x)] }
theorem Rg.put_ok {r : Rg} (h : r.ok) {sec : Nat} {x : ByteArray} (h1 : sec < r.n) (h2 : x.size = 64) : (r.put sec x).ok :=
  ⟨h.n, h.s, fun y hy => by
    rcases List.mem_append.1 hy with h3 | h3
    · exact h.q y h3
    · rw [List.mem_singleton] at h3; subst h3; exact ⟨h1, h2⟩⟩

/-- Sixty-four bytes of a text, from a place on, with noughts behind. -/
def cut64 (x : ByteArray) (a : Nat) : ByteArray := ⟨((List.range 64).map fun j => UInt8.ofNat (bx x (a + j))).toArray⟩
theorem cut64_size (x : ByteArray) (a : Nat) : (cut64 x a).size = 64 := by
  show ((List.range 64).map _).toArray.size = 64
  simp
theorem bt_bx (x : ByteArray) (j : Nat) : bt x j = (bx x j : Int) := (bx_int x j).symm
theorem list_bx (f : Nat → Nat) (n j : Nat) (hf : f j < 256) (h : j < n) : bx ⟨((List.range n).map fun j => UInt8.ofNat (f j)).toArray⟩ j = f j := by
  have hs : j < (⟨((List.range n).map fun j => UInt8.ofNat (f j)).toArray⟩ : ByteArray).size := by
    show j < ((List.range n).map _).toArray.size
    simpa using h
  rw [bx_get hs]
  show ((((List.range n).map fun j => UInt8.ofNat (f j)).toArray)[j]).toNat = _
  simp
  omega
theorem cut64_bx (x : ByteArray) (a j : Nat) (h : j < 64) : bx (cut64 x a) j = bx x (a + j) := list_bx (fun j => bx x (a + j)) 64 j (bx_lt _ _) h
/-- A region laid. -/
def Rg.lay (r : Rg) (x : ByteArray) : Rg := { r with s := fun k => cut64 x (64 * k), q := [] }
theorem Rg.lay_ok {r : Rg} (h : r.ok) (x : ByteArray) : (r.lay x).ok := ⟨h.n, fun k => cut64_size _ _, fun x hx => by cases hx⟩

/-- The bytes of a region that last. -/
def img (s : Nat → ByteArray) (n : Nat) : ByteArray := ⟨((List.range (64 * n)).map fun j => UInt8.ofNat (bx (s (j / 64)) (j % 64))).toArray⟩
theorem img_size (s : Nat → ByteArray) (n : Nat) : (img s n).size = 64 * n := by
  show ((List.range (64 * n)).map _).toArray.size = _
  simp
theorem img_bx (s : Nat → ByteArray) (n j : Nat) (h : j < 64 * n) : bx (img s n) j = bx (s (j / 64)) (j % 64) := list_bx (fun j => bx (s (j / 64)) (j % 64)) _ j (bx_lt _ _) h

/-- The cells of lasting bytes. -/
def lc (s : Nat → ByteArray) (n : Nat) : List Value := (List.range (64 * n)).map fun j => .int .u8 (bt (s (j / 64)) (j % 64))
theorem lc_length (s : Nat → ByteArray) (n : Nat) : (lc s n).length = 64 * n := by simp [lc]
theorem lc_get (s : Nat → ByteArray) (n j : Nat) (h : j < 64 * n) : (lc s n)[j]? = some (.int .u8 (bt (s (j / 64)) (j % 64))) := by
  unfold lc
  rw [List.getElem?_map, List.getElem?_range h]
  rfl
/-- The cells of a write's bytes. -/
def dc (b : ByteArray) : List Value := (List.range 64).map fun j => .int .u8 (bt b j)
theorem dc_length (b : ByteArray) : (dc b).length = 64 := by simp [dc]
theorem dc_get (b : ByteArray) (j : Nat) (h : j < 64) : (dc b)[j]? = some (.int .u8 (bt b j)) := by
  unfold dc
  rw [List.getElem?_map, List.getElem?_range h]
  rfl
/-- The cells of a queue. -/
def qc : List (Nat × ByteArray) → List Value
  | [] => []
  | x :: q => (.int .i64 (x.1 : Int) :: dc x.2) ++ qc q
theorem qc_length : ∀ q, (qc q).length = 65 * q.length
  | [] => rfl
  | x :: q => by
    show ((.int .i64 (x.1 : Int) :: dc x.2) ++ qc q).length = _
    rw [List.length_append, qc_length q, List.length_cons, dc_length, List.length_cons]
    omega
theorem qc_app : ∀ (q p : List (Nat × ByteArray)), qc (q ++ p) = qc q ++ qc p
  | [], p => rfl
  | x :: q, p => by
    show _ ++ qc (q ++ p) = _ ++ qc q ++ qc p
    rw [qc_app q p]
    simp
theorem qc_get : ∀ (q : List (Nat × ByteArray)) (k j : Nat), k < q.length → j < 65 → (qc q)[65 * k + j]? = (.int .i64 ((qx q k).1 : Int) :: dc (qx q k).2)[j]?
  | x :: q, 0, j, _, hj => by
    show ((.int .i64 (x.1 : Int) :: dc x.2) ++ qc q)[65 * 0 + j]? = _
    rw [List.getElem?_append_left (by rw [List.length_cons, dc_length]; omega), Nat.mul_zero, Nat.zero_add]
    rfl
  | x :: q, k + 1, j, hk, hj => by
    show ((.int .i64 (x.1 : Int) :: dc x.2) ++ qc q)[65 * (k + 1) + j]? = _
    rw [List.getElem?_append_right (by rw [List.length_cons, dc_length]; omega), List.length_cons, dc_length]
    have e : 65 * (k + 1) + j - (64 + 1) = 65 * k + j := by omega
    rw [e, qc_get q k j (by simpa using hk) hj]
    rfl
theorem qc_sec (q : List (Nat × ByteArray)) (k : Nat) (hk : k < q.length) : (qc q)[65 * k]? = some (.int .i64 ((qx q k).1 : Int)) := qc_get q k 0 hk (by omega)
theorem qc_byte (q : List (Nat × ByteArray)) (k j : Nat) (hk : k < q.length) (hj : j < 64) : (qc q)[65 * k + 1 + j]? = some (.int .u8 (bt (qx q k).2 j)) := by
  have h := qc_get q k (1 + j) hk (by omega)
  rw [← Nat.add_assoc] at h
  rw [h, Nat.add_comm 1 j, List.getElem?_cons_succ]
  exact dc_get _ j hj

/-- Laying a write over the lasting bytes. -/
theorem lc_splice (s : Nat → ByteArray) (n k : Nat) (b : ByteArray) (hk : k < n) : (lc s n).take (64 * k) ++ (dc b ++ (lc s n).drop (64 * k + 64)) = lc (upd s k b) n := by
  have hl := lc_length s n
  apply List.ext_getElem?
  intro j
  by_cases hj : j < 64 * n
  · rw [lc_get _ _ _ hj]
    by_cases h1 : j < 64 * k
    · rw [List.getElem?_append_left (by rw [List.length_take]; omega), List.getElem?_take, if_pos h1, lc_get _ _ _ hj, upd_off _ _ (by omega)]
    · rw [List.getElem?_append_right (by rw [List.length_take]; omega), List.length_take, hl, Nat.min_eq_left (by omega)]
      by_cases h2 : j < 64 * k + 64
      · rw [List.getElem?_append_left (by rw [dc_length]; omega), dc_get _ _ (by omega)]
        have e1 : j / 64 = k := by omega
        have e2 : j % 64 = j - 64 * k := by omega
        rw [e1, e2, upd_at]
      · rw [List.getElem?_append_right (by rw [dc_length]; omega), dc_length, List.getElem?_drop]
        have e : 64 * k + 64 + (j - 64 * k - 64) = j := by omega
        rw [e, lc_get _ _ _ hj, upd_off _ _ (by omega)]
  · rw [List.getElem?_eq_none (by simp only [List.length_append, List.length_take, List.length_drop, dc_length, hl]; omega), List.getElem?_eq_none (by rw [lc_length]; omega)]

/-- From cells to a text. -/
theorem str_img (s : Nat → ByteArray) (n : Nat) : strOfNums ((List.range (64 * n)).map fun j => bt (s (j / 64)) (j % 64)) = img s n := by
  unfold strOfNums img
  rw [List.map_map]
  rfl
theorem str_dc (b : ByteArray) (h : b.size = 64) : strOfNums ((List.range 64).map fun j => bt b j) = b := by
  apply ext_bx
  · rw [strOfNums_size, h]; simp
  · intro j hj
    rw [strOfNums_size] at hj
    have hj' : j < 64 := by simpa using hj
    have e : strOfNums ((List.range 64).map fun j => bt b j) = ⟨((List.range 64).map fun j => UInt8.ofNat (bx b j)).toArray⟩ := by
      unfold strOfNums
      rw [List.map_map]
      rfl
    rw [e]
    exact list_bx (fun j => bx b j) 64 j (bx_lt _ _) hj'

/-- A disk: its regions, the power, what was asked for: region, calls, numbers. -/
structure Dk where
  k : Nat
  r : Nat → Rg
  off : Bool
  ask : Option (Nat × Nat × List Int)

def K64 (K : List Int) : Prop := ∀ x ∈ K, 0 ≤ x ∧ x < 18446744073709551616

structure Dk.ok (d : Dk) : Prop where
  k : d.k ≤ 8
  r : ∀ i, i < d.k → (d.r i).ok
  ask : ∀ a l K, d.ask = some (a, l, K) → a < d.k ∧ l < 9223372036854775808 ∧ K64 K

/-- What is asked, as the code's cells have it. -/
def aR : Option (Nat × Nat × List Int) → Int
  | none => 0
  | some (a, _, _) => a
def aL : Option (Nat × Nat × List Int) → Int
  | none => 0
  | some (_, l, _) => l
def aK : Option (Nat × Nat × List Int) → List Int
  | none => []
  | some (_, _, K) => K

/-- A loss of power. -/
def Dk.lose (d : Dk) (K : List Int) : Dk := { d with r := fun i => (d.r i).set (kb K i) }
/-- A region turned. -/
def Dk.at (d : Dk) (i : Nat) (r : Rg) : Dk := { d with r := upd d.r i r }
/-- Does the power fail at a call of region a? -/
def Dk.now (d : Dk) (a : Nat) : Bool := match d.ask with
  | none => false
  | some (b, l, _) => decide (b = a ∧ l = 1)
/-- The disk behind that question. -/
def Dk.cnt (d : Dk) (a : Nat) : Dk := match d.ask with
  | none => d
  | some (b, l, K) => if b = a then (if l = 1 then { d.lose K with off := true, ask := none } else { d with ask := some (b, l - 1, K) }) else d
def Dk.on (d : Dk) : Dk := { d with off := false, ask := none }
/-- Is there such a region, and such a sector? -/
def Dk.has (d : Dk) (a : Int) : Bool := decide (0 ≤ a ∧ a < d.k)
def Dk.hasS (d : Dk) (a b : Int) : Bool := d.has a && decide (0 ≤ b ∧ b < (d.r a.toNat).n)
/-- Read. -/
def Dk.readE (d : Dk) (a b : Int) : Int := if d.off then 11 else if d.hasS a b then 0 else 10
def Dk.readB (d : Dk) (a b : Int) : ByteArray := if d.readE a b = 0 then (d.r a.toNat).rd b.toNat else ⟨#[]⟩
/-- Write. -/
def Dk.preW (d : Dk) (a b : Int) (x : ByteArray) : Int := if d.readE a b = 0 then (if x.size = 64 then 0 else 2) else d.readE a b
def Dk.put (d : Dk) (a b : Int) (x : ByteArray) : Dk := d.at a.toNat ((d.r a.toNat).put b.toNat x)
def Dk.writeE (d : Dk) (a b : Int) (x : ByteArray) : Int := if d.preW a b x = 0 then (if (d.put a b x).now a.toNat then 11 else 0) else d.preW a b x
def Dk.write (d : Dk) (a b : Int) (x : ByteArray) : Dk := if d.preW a b x = 0 then (d.put a b x).cnt a.toNat else d
/-- Flush. -/
def Dk.preF (d : Dk) (a : Int) : Int := if d.off then 11 else if d.has a then 0 else 10
def Dk.flushE (d : Dk) (a : Int) : Int := if d.preF a = 0 then (if d.now a.toNat then 11 else 0) else d.preF a
def Dk.flush (d : Dk) (a : Int) : Dk := if d.preF a = 0 then (if d.now a.toNat then d.cnt a.toNat else (d.cnt a.toNat).at a.toNat ((d.r a.toNat).set fun _ => true)) else d
def Dk.cut (d : Dk) (a n : Int) (K : List Int) : Dk := { d with ask := if 1 ≤ n ∧ d.has a = true then some (a.toNat, n.toNat, K) else none }
def Dk.crash (d : Dk) (K : List Int) : Dk := (d.lose K).on
def Dk.lay (d : Dk) (a : Int) (x : ByteArray) : Dk := if d.has a then d.at a.toNat ((d.r a.toNat).lay x) else d
def Dk.secs (d : Dk) (a : Int) : Nat := if d.has a then (d.r a.toNat).n else 0
def Dk.image (d : Dk) (a : Int) : ByteArray := if d.has a then img (d.r a.toNat).s (d.r a.toNat).n else ⟨#[]⟩

/-- A size as it is taken. -/
def szN (x : Int) : Nat := (min (max x 0) 4096).toNat
def noB : ByteArray := ⟨Array.replicate 64 (0 : UInt8)⟩
theorem noB_size : noB.size = 64 := by decide
theorem noB_bt (j : Nat) : bt noB j = 0 := by
  rw [bt_bx]
  by_cases h : j < noB.size
  · rw [bx_get h]
    have : noB[j] = 0 := by
      show (Array.replicate 64 (0 : UInt8))[j] = 0
      exact Array.getElem_replicate _
    rw [this]
    rfl
  · rw [bx_none h]; rfl
def newR (x : Int) : Rg := { n := szN x, s := fun _ => noB, q := [] }
theorem newR_ok (x : Int) : (newR x).ok := ⟨by show szN x ≤ 4096; unfold szN; omega, fun _ => noB_size, fun x hx => by cases hx⟩
/-- A new disk. -/
def newD (z : Nat → Int) (k : Nat) : Dk := { k := k, r := fun i => newR (z i), off := false, ask := none }
theorem newD_ok (z : Nat → Int) (k : Nat) (h : k ≤ 8) : (newD z k).ok := ⟨h, fun i _ => newR_ok _, fun a l K h => by cases h⟩

theorem Dk.at_ok {d : Dk} (h : d.ok) (i : Nat) {r : Rg} (hr : r.ok) : (d.at i r).ok := ⟨h.k, fun j hj => by
    show (upd d.r i r j).ok
    unfold upd
    split
    · exact hr
    · exact h.r j hj, h.ask⟩
theorem Dk.lose_ok {d : Dk} (h : d.ok) (K : List Int) : (d.lose K).ok := ⟨h.k, fun i hi => Rg.set_ok (h.r i hi) _, h.ask⟩
theorem Dk.on_ok {d : Dk} (h : d.ok) : d.on.ok := ⟨h.k, h.r, fun a l K e => by cases e⟩

end Go.Proofs.Ytcnonioiggniiaa.M
