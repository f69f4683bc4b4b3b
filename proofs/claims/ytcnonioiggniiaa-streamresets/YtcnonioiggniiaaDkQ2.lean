/-
  A disk of a law's own: its calls, with the memory that the law found left as it was.
-/
import Derived.Test.YtcnonioiggniiaaDkO
import Derived.Test.YtcnonioiggniiaaDkJ
import Derived.Test.YtcnonioiggniiaaDkK2
namespace Go.Proofs.Ytcnonioiggniiaa.Wd
open Go.ChangeShapes Go.WideShapes Go.ChangeAt Go.RowKit Go.Proofs.Ytcnonioiggniiaa.M

/-- A disk in memory that was made since W. -/
structure One (W w : World) (D : Nat) (d : Dk) (F : Nat → Prop) : Prop where
  at_ : ∃ L, DkL w D d F L
  own : ∀ b, F b → W.heap.size ≤ b
  bel : Below W.heap.size W w


theorem One.ok {W w : World} {D : Nat} {d : Dk} {F : Nat → Prop} (h : One W w D d F) : d.ok := by
  obtain ⟨L, l⟩ := h.at_
  exact l.ok

theorem One.below {W w w' : World} {D : Nat} {d : Dk} {F : Nat → Prop} (h : One W w D d F) (b : Below w.heap.size w w') : One W w' D d F := by
  obtain ⟨L, l⟩ := h.at_
  exact ⟨⟨L, l.below b⟩, h.own, h.bel.trans (b.mono h.bel.size)⟩

theorem One.step {W w w' : World} {D : Nat} {d d' : Dk} {F : Nat → Prop} (h : One W w D d F) (hl : ∃ L, DkL w' D d' (Gr F w w') L) (hk : Kept F w w') : One W w' D d' (Gr F w w') :=
  ⟨hl, fun b hb => by
    rcases hb with hb | hb
    · exact h.own b hb
    · exact Nat.le_trans h.bel.size hb.1, h.bel.trans (hk.below h.bel.size h.own)⟩
theorem One.congr {W w : World} {D : Nat} {d d' : Dk} {F : Nat → Prop} (h : One W w D d F) (hk : d'.k = d.k) (ho : d'.off = d.off) (ha : d'.ask = d.ask) (hr : ∀ j, j < d.k → d'.r j = d.r j) : One W w D d' F := by
  obtain ⟨L, l⟩ := h.at_
  exact ⟨⟨L, l.congr hk ho ha hr⟩, h.own, h.bel⟩


theorem One.new {W w : World} (bel : Below W.heap.size W w) (ao : Option Addr) (n cap : Nat) (z : Nat → Int) (hn : n ≤ 140737488355328) (hcap : n ≤ cap) (hc : ∀ j, j < n → ∃ b o, ao = some ⟨b, o, none⟩ ∧ b < w.heap.size ∧ w.cell? ⟨b, o + j, none⟩ = some (.int .i64 (z j))) :
    Calls Try.prog 12 #[.slice ao n cap] w fun e w' => e = .returned (.pointer (some ⟨w.heap.size, 0, none⟩)) ∧ One W w' w.heap.size (newD z (min n 8)) (Gr no w w') ∧ Below w.heap.size w w' :=
  (Wd.new ao n cap z w hn hcap hc).mono fun e w' ⟨h1, h2, h3⟩ => ⟨h1, ⟨h2, fun b hb => by
    rcases hb with hb | hb
    · exact absurd hb id
    · exact Nat.le_trans bel.size hb.1, bel.trans (h3.mono bel.size)⟩, h3⟩

theorem One.write {W w : World} {D : Nat} {d : Dk} {F : Nat → Prop} (h : One W w D d F) (hq : ∀ j, j < d.k → (d.r j).q.length < 1048576) (a b : Int) (x : ByteArray) :
    Calls Try.prog 59 #[.pointer (some ⟨D, 0, none⟩), .int .i64 a, .int .i64 b, .string x] w fun e w' => e = .returned (.int .i64 (d.writeE a b x)) ∧ One W w' D (d.write a b x) (Gr F w w') ∧ Kept F w w' := by
  obtain ⟨L, l⟩ := h.at_
  exact (writeD l hq a b x).mono fun e w' ⟨h1, h2, h3, _⟩ => ⟨h1, h.step h2 h3, h3⟩

theorem One.flush {W w : World} {D : Nat} {d : Dk} {F : Nat → Prop} (h : One W w D d F) (hq : ∀ j, j < d.k → (d.r j).q.length ≤ 1048576) (a : Int) :
    Calls Try.prog 60 #[.pointer (some ⟨D, 0, none⟩), .int .i64 a] w fun e w' => e = .returned (.int .i64 (d.flushE a)) ∧ One W w' D (d.flush a) (Gr F w w') ∧ Kept F w w' := by
  obtain ⟨L, l⟩ := h.at_
  exact (flushD l hq a).mono fun e w' ⟨h1, h2, h3, _⟩ => ⟨h1, h.step h2 h3, h3⟩

theorem One.lay {W w : World} {D : Nat} {d : Dk} {F : Nat → Prop} (h : One W w D d F) (a : Int) (x : ByteArray) :
    Calls Try.prog 22 #[.pointer (some ⟨D, 0, none⟩), .int .i64 a, .string x] w fun e w' => e = .returned (.tuple #[]) ∧ One W w' D (d.lay a x) (Gr F w w') ∧ Kept F w w' := by
  obtain ⟨L, l⟩ := h.at_
  exact (layD l a x).mono fun e w' ⟨h1, h2, h3, _, h5⟩ => ⟨h1, h.step (by rw [Gr.same h5]; exact h2) h3, h3⟩

theorem One.on {W w : World} {D : Nat} {d : Dk} {F : Nat → Prop} (h : One W w D d F) :
    Calls Try.prog 18 #[.pointer (some ⟨D, 0, none⟩)] w fun e w' => e = .returned (.tuple #[]) ∧ One W w' D d.on (Gr F w w') ∧ Kept F w w' := by
  obtain ⟨L, l⟩ := h.at_
  exact (onD l).mono fun e w' ⟨h1, h2, h3, _, h5⟩ => ⟨h1, h.step (by rw [Gr.same h5]; exact h2) h3, h3⟩

theorem One.crash {W w : World} {D : Nat} {d : Dk} {F : Nat → Prop} (h : One W w D d F) (hq : ∀ j, j < d.k → (d.r j).q.length ≤ 1048576) {K : List Int} {ao : Option Addr} (hK : KR F w ao K) (h64 : K64 K) (c : Nat) :
    Calls Try.prog 21 #[.pointer (some ⟨D, 0, none⟩), .slice ao K.length c] w fun e w' => e = .returned (.tuple #[]) ∧ One W w' D (d.crash K) (Gr F w w') ∧ Kept F w w' := by
  obtain ⟨L, l⟩ := h.at_
  exact (crashD l hq hK h64 c).mono fun e w' ⟨h1, h2, h3, _⟩ => ⟨h1, h.step h2 h3, h3⟩

theorem One.read {W w : World} {D : Nat} {d : Dk} {F : Nat → Prop} (h : One W w D d F) (hq : ∀ j, j < d.k → (d.r j).q.length ≤ 1048576) (a b : Int) :
    Calls Try.prog 47 #[.pointer (some ⟨D, 0, none⟩), .int .i64 a, .int .i64 b] w fun e w' => e = .returned (.tuple #[.string (d.readB a b), .int .i64 (d.readE a b)]) ∧ w = w' := by
  obtain ⟨L, l⟩ := h.at_
  exact readD l hq a b

theorem One.sectors {W w : World} {D : Nat} {d : Dk} {F : Nat → Prop} (h : One W w D d F) (a : Int) :
    Calls Try.prog 32 #[.pointer (some ⟨D, 0, none⟩), .int .i64 a] w fun e w' => e = .returned (.int .i64 (d.secs a : Int)) ∧ w = w' := by
  obtain ⟨L, l⟩ := h.at_
  exact sectorsD l a

theorem One.off {W w : World} {D : Nat} {d : Dk} {F : Nat → Prop} (h : One W w D d F) :
    Calls Try.prog 20 #[.pointer (some ⟨D, 0, none⟩)] w fun e w' => e = .returned (.bool d.off) ∧ w = w' := by
  obtain ⟨L, l⟩ := h.at_
  exact offD l

/-- The length of no queue is greater than before, but for one write. -/
theorem q_at {d : Dk} {m : Nat} (h : ∀ j, j < d.k → (d.r j).q.length ≤ m) {i : Nat} {r : Rg} (hr : r.q.length ≤ m) : ∀ j, j < (d.at i r).k → ((d.at i r).r j).q.length ≤ m := fun j hj => by
  show (upd d.r i r j).q.length ≤ m
  unfold upd
  split
  · exact hr
  · exact h j hj
theorem q_lose {d : Dk} {m : Nat} (K : List Int) : ∀ j, j < (d.lose K).k → ((d.lose K).r j).q.length ≤ m := fun _ _ => Nat.zero_le _
theorem q_cnt {d : Dk} {m : Nat} (h : ∀ j, j < d.k → (d.r j).q.length ≤ m) (a : Nat) : ∀ j, j < (d.cnt a).k → ((d.cnt a).r j).q.length ≤ m := by
  rcases ha : d.ask with _ | ⟨b, l, K⟩
  · rw [(now_none ha).2]; exact h
  · rw [(now_some ha).2]
    split
    · split
      · exact q_lose K
      · exact h
    · exact h
theorem q_write {d : Dk} {m : Nat} (h : ∀ j, j < d.k → (d.r j).q.length ≤ m) (a b : Int) (x : ByteArray) : ∀ j, j < (d.write a b x).k → ((d.write a b x).r j).q.length ≤ m + 1 := by
  unfold Dk.write
  split
  · apply q_cnt
    unfold Dk.put
    have h1 : ∀ j, j < d.k → (d.r j).q.length ≤ m + 1 := fun j hj => Nat.le_succ_of_le (h j hj)
    refine q_at h1 ?_
    rename_i c
    obtain ⟨c1, _⟩ := preW_ok c
    obtain ⟨i, s, rfl, rfl, hi, _⟩ := readE_ok c1
    show ((d.r i).q ++ [_]).length ≤ _
    have := h i hi
    simp
    omega
  · exact fun j hj => Nat.le_succ_of_le (h j hj)
theorem q_flush {d : Dk} {m : Nat} (h : ∀ j, j < d.k → (d.r j).q.length ≤ m) (a : Int) : ∀ j, j < (d.flush a).k → ((d.flush a).r j).q.length ≤ m := by
  unfold Dk.flush
  split
  · split
    · exact q_cnt h _
    · exact q_at (q_cnt h _) (Nat.zero_le _)
  · exact h
theorem q_lay {d : Dk} {m : Nat} (h : ∀ j, j < d.k → (d.r j).q.length ≤ m) (a : Int) (x : ByteArray) : ∀ j, j < (d.lay a x).k → ((d.lay a x).r j).q.length ≤ m := by
  unfold Dk.lay
  split
  · exact q_at h (Nat.zero_le _)
  · exact h
theorem q_crash {d : Dk} {m : Nat} (K : List Int) : ∀ j, j < (d.crash K).k → ((d.crash K).r j).q.length ≤ m := q_lose K
theorem q_new {z : Nat → Int} {k m : Nat} : ∀ j, j < (newD z k).k → ((newD z k).r j).q.length ≤ m := fun _ _ => Nat.zero_le _

theorem one_cut {W w : World} {D : Nat} {d : Dk} {F : Nat → Prop} (h : One W w D d F) (a n : Int) (hn63 : n < 9223372036854775808) (ao : Option Addr) (K : List Int) (c : Nat) (h64 : K64 K) (hb : K.length * 8 ≤ 140737488355328) (hnil : ao = none → K = []) (ha : ∀ j, j < K.length → ∃ b o, ao = some ⟨b, o, none⟩ ∧ b < w.heap.size ∧ ¬ F b ∧ w.cell? ⟨b, o + j, none⟩ = some (.int .u64 (K.getD j 0))) :
    Calls Try.prog 14 #[.pointer (some ⟨D, 0, none⟩), .int .i64 a, .int .i64 n, .slice ao K.length c] w fun e w' => e = .returned (.tuple #[]) ∧ One W w' D (d.cut a n K) (Gr F w w') ∧ Kept F w w' := by
  obtain ⟨L, l⟩ := h.at_
  exact (cutD l a n hn63 ao K c h64 hb hnil ha).mono fun e w' ⟨h1, h2, h3⟩ => ⟨h1, h.step h2 h3, h3⟩



theorem one_lt {W w : World} {D : Nat} {d : Dk} {F : Nat → Prop} (h : One W w D d F) {b : Nat} (hb : F b) : b < w.heap.size := by
  obtain ⟨L, l⟩ := h.at_
  exact l.lt b hb
theorem one_other {W w w' : World} {E : Nat} {e : Dk} {F G : Nat → Prop} (h : One W w E e G) (hk : Kept F w w') (dis : ∀ b, G b → ¬ F b) (bel : Below W.heap.size W w') : One W w' E e G := by
  obtain ⟨L, l⟩ := h.at_
  exact ⟨⟨L, l.kept hk.size fun b hb => hk.block b (l.lt b hb) (dis b hb)⟩, h.own, bel⟩

end Go.Proofs.Ytcnonioiggniiaa.Wd
