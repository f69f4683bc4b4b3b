/-
  The walk of the law DiskApart: a region has, and answers, just what it would without any call with another one; the law returns true, and nothing that was in memory has turned. Condition: none but that the arguments lie in memory as such do.
-/
import Derived.Test.YtffhnkljmalbiaaDkQ
import Derived.Lib.MinMax
import Derived.Deep.RegionHeld3
namespace Go.Proofs.Ytffhnkljmalbiaa.Wd
open Go.ChangeShapes Go.WideShapes Go.ChangeAt Go.RowKit Go.Proofs.Ytffhnkljmalbiaa.M Go.Proofs.Ytffhnkljmalbiaa.Wv

/-- Two disks apart from one another, and a block that is neither's. -/
structure Two (W w : World) (D E : Nat) (d e : Dk) (F G : Nat → Prop) (g : Nat) (ob : Obj) : Prop where
  o1 : One W w D d F
  o2 : One W w E e G
  dis : ∀ b, F b → ¬ G b
  at_ : w.heap[g]? = some ob
  nf : ¬ F g
  ng : ¬ G g
theorem One.lt {W w : World} {D : Nat} {d : Dk} {F : Nat → Prop} (h : One W w D d F) {b : Nat} (hb : F b) : b < w.heap.size := by
  obtain ⟨L, l⟩ := h.at_
  exact l.lt b hb
theorem One.other {W w w' : World} {E : Nat} {e : Dk} {F G : Nat → Prop} (h : One W w E e G) (hk : Kept F w w') (dis : ∀ b, G b → ¬ F b) (bel : Below W.heap.size W w') : One W w' E e G := by
  obtain ⟨L, l⟩ := h.at_
  exact ⟨⟨L, l.kept hk.size fun b hb => hk.block b (l.lt b hb) (dis b hb)⟩, h.own, bel⟩
theorem Two.left {W w w' : World} {D E : Nat} {d d' e : Dk} {F G : Nat → Prop} {g : Nat} {ob : Obj} (h : Two W w D E d e F G g ob) (o : One W w' D d' (Gr F w w')) (hk : Kept F w w') : Two W w' D E d' e (Gr F w w') G g ob :=
  ⟨o, h.o2.other hk (fun b hb hf => h.dis b hf hb) o.bel, fun b hb hg => by
    rcases hb with hb | hb
    · exact h.dis b hb hg
    · have := h.o2.lt hg; omega, (hk.block g (blk_lt h.at_) h.nf).trans h.at_, fun hb => by
    rcases hb with hb | hb
    · exact h.nf hb
    · have := blk_lt h.at_; omega, h.ng⟩
theorem Two.symm {W w : World} {D E : Nat} {d e : Dk} {F G : Nat → Prop} {g : Nat} {ob : Obj} (h : Two W w D E d e F G g ob) : Two W w E D e d G F g ob := ⟨h.o2, h.o1, fun b hg hf => h.dis b hf hg, h.at_, h.ng, h.nf⟩
theorem Two.right {W w w' : World} {D E : Nat} {d e e' : Dk} {F G : Nat → Prop} {g : Nat} {ob : Obj} (h : Two W w D E d e F G g ob) (o : One W w' E e' (Gr G w w')) (hk : Kept G w w') : Two W w' D E d e' F (Gr G w w') g ob := (h.symm.left o hk).symm
theorem Two.below {W w w' : World} {D E : Nat} {d e : Dk} {F G : Nat → Prop} {g : Nat} {ob : Obj} (h : Two W w D E d e F G g ob) (b : Below w.heap.size w w') : Two W w' D E d e F G g ob := ⟨h.o1.below b, h.o2.below b, h.dis, (b.block g (blk_lt h.at_)).trans h.at_, h.nf, h.ng⟩

/-- What holds of the two disks. -/
structure Ap (one m : Nat) (d e : Dk) : Prop where
  kd : d.k = 3
  ke : e.k = 3
  od : d.off = false
  oe : e.off = false
  ad : d.ask = none
  ae : e.ask = none
  r : d.r one = e.r one
  qd : ∀ j, j < d.k → (d.r j).q.length ≤ m
  qe : ∀ j, j < e.k → (e.r j).q.length ≤ m

theorem Ap.crash {one m : Nat} {d e : Dk} (h : Ap one m d e) (K : List Int) : Ap one m (d.crash K) (e.crash K) :=
  ⟨h.kd, h.ke, rfl, rfl, rfl, rfl, by
    show (d.r one).set _ = (e.r one).set _
    rw [h.r], q_crash K, q_crash K⟩
theorem cnt_none {d : Dk} (h : d.ask = none) (a : Nat) : d.cnt a = d := (now_none h).2
theorem has3 {d : Dk} (h : d.k = 3) (a : Int) : d.has a = decide (0 ≤ a ∧ a < 3) := by unfold Dk.has; rw [h]; rfl
theorem preF3 {d : Dk} (ho : d.off = false) (hk : d.k = 3) (a : Int) : d.preF a = if 0 ≤ a ∧ a < 3 then 0 else 10 := by
  unfold Dk.preF
  rw [ho, has3 hk]
  simp
theorem flush_plain {d : Dk} (ha : d.ask = none) (a : Int) : d.flushE a = d.preF a ∧ d.flush a = if d.preF a = 0 then d.at a.toNat ((d.r a.toNat).set fun _ => true) else d := by
  unfold Dk.flushE Dk.flush
  rw [(now_none ha).1, (now_none ha).2]
  by_cases c : d.preF a = 0
  · rw [if_pos c, if_pos c, if_pos c, c]; exact ⟨rfl, rfl⟩
  · rw [if_neg c, if_neg c, if_neg c]; exact ⟨rfl, rfl⟩
theorem write_plain {d : Dk} (ha : d.ask = none) (a b : Int) (x : ByteArray) : d.writeE a b x = d.preW a b x ∧ d.write a b x = if d.preW a b x = 0 then d.put a b x else d := by
  have hp : (d.put a b x).ask = none := ha
  unfold Dk.writeE Dk.write
  rw [(now_none hp).1, (now_none hp).2]
  by_cases c : d.preW a b x = 0
  · rw [if_pos c, if_pos c, c]; exact ⟨rfl, rfl⟩
  · rw [if_neg c, if_neg c]; exact ⟨rfl, rfl⟩
theorem Ap.preF {one m : Nat} {d e : Dk} (h : Ap one m d e) (a : Int) : d.preF a = e.preF a := by rw [preF3 h.od h.kd, preF3 h.oe h.ke]
theorem Ap.preW {one m : Nat} {d e : Dk} (h : Ap one m d e) (b : Int) (x : ByteArray) : d.preW (one : Int) b x = e.preW (one : Int) b x ∧ d.readE (one : Int) b = e.readE (one : Int) b ∧ d.readB (one : Int) b = e.readB (one : Int) b := by
  have hR : d.readE (one : Int) b = e.readE (one : Int) b := by
    by_cases c : d.preF (one : Int) = 0
    · have c2 := c
      rw [h.preF] at c2
      rw [readE_in c, readE_in c2, Int.toNat_natCast, h.r]
    · have c2 := c
      rw [h.preF] at c2
      rw [readE_pre c, readE_pre c2, h.preF]
  refine ⟨?_, hR, ?_⟩
  · unfold Dk.preW; rw [hR]
  · unfold Dk.readB; rw [hR, Int.toNat_natCast, h.r]
theorem Ap.image {one m : Nat} {d e : Dk} (h : Ap one m d e) : d.image (one : Int) = e.image (one : Int) := by
  unfold Dk.image
  rw [has3 h.kd, has3 h.ke, Int.toNat_natCast, h.r]

/-- A call of d alone, with another region. -/
theorem at_off {d : Dk} {a one : Nat} {r : Rg} (h : one ≠ a) : (d.at a r).r one = d.r one := upd_off _ _ h
theorem Ap.left {one m : Nat} {d d' e : Dk} (h : Ap one m d e) (hk : d'.k = d.k) (ho : d'.off = d.off) (ha : d'.ask = d.ask) (hr : d'.r one = d.r one) (hq : ∀ j, j < d'.k → (d'.r j).q.length ≤ m + 1) : Ap one (m + 1) d' e :=
  ⟨hk.trans h.kd, h.ke, ho.trans h.od, h.oe, ha.trans h.ad, h.ae, hr.trans h.r, hq, fun j hj => Nat.le_succ_of_le (h.qe j hj)⟩
theorem nat_ne {a : Int} {one : Nat} (h0 : 0 ≤ a) (h : ¬ a = (one : Int)) : one ≠ a.toNat := fun e => h (by rw [e]; omega)
theorem has_nonneg {d : Dk} {a : Int} (h : d.has a = true) : 0 ≤ a := (has_iff.1 h).1
theorem Ap.flushL {one m : Nat} {d e : Dk} (h : Ap one m d e) {a : Int} (hn : ¬ a = (one : Int)) : Ap one (m + 1) (d.flush a) e := by
  have hq := q_flush (fun j hj => Nat.le_succ_of_le (h.qd j hj)) a
  rw [(flush_plain h.ad a).2] at hq ⊢
  split at hq
  · rename_i c
    rw [if_pos c]
    exact h.left rfl rfl rfl (at_off (nat_ne (has_nonneg (preF_ok c).2) hn)) hq
  · rename_i c
    rw [if_neg c]
    exact h.left rfl rfl rfl rfl hq
theorem Ap.flushB {one m : Nat} {d e : Dk} (h : Ap one m d e) : Ap one (m + 1) (d.flush (one : Int)) (e.flush (one : Int)) ∧ d.flushE (one : Int) = e.flushE (one : Int) := by
  have hqd := q_flush (fun j hj => Nat.le_succ_of_le (h.qd j hj)) (one : Int)
  have hqe := q_flush (fun j hj => Nat.le_succ_of_le (h.qe j hj)) (one : Int)
  rw [(flush_plain h.ad _).2] at hqd ⊢
  rw [(flush_plain h.ae _).2, ← h.preF] at hqe ⊢
  refine ⟨?_, by rw [(flush_plain h.ad _).1, (flush_plain h.ae _).1, h.preF]⟩
  split at hqd
  · rename_i c
    rw [if_pos c] at hqe ⊢
    rw [if_pos c]
    refine ⟨h.kd, h.ke, h.od, h.oe, h.ad, h.ae, ?_, hqd, hqe⟩
    show upd d.r _ _ one = upd e.r _ _ one
    rw [Int.toNat_natCast, upd_at, upd_at, h.r]
  · rename_i c
    rw [if_neg c] at hqe ⊢
    rw [if_neg c]
    exact ⟨h.kd, h.ke, h.od, h.oe, h.ad, h.ae, h.r, hqd, hqe⟩
theorem Ap.layL {one m : Nat} {d e : Dk} (h : Ap one m d e) {a : Int} (hn : ¬ a = (one : Int)) (x : ByteArray) : Ap one (m + 1) (d.lay a x) e := by
  have hq := q_lay (fun j hj => Nat.le_succ_of_le (h.qd j hj)) a x
  unfold Dk.lay at hq ⊢
  split at hq
  · rename_i c
    rw [if_pos c]
    exact h.left rfl rfl rfl (at_off (nat_ne (has_nonneg c) hn)) hq
  · rename_i c
    rw [if_neg c]
    exact h.left rfl rfl rfl rfl hq
theorem Ap.layB {one m : Nat} {d e : Dk} (h : Ap one m d e) (x : ByteArray) : Ap one (m + 1) (d.lay (one : Int) x) (e.lay (one : Int) x) := by
  have hqd := q_lay (fun j hj => Nat.le_succ_of_le (h.qd j hj)) (one : Int) x
  have hqe := q_lay (fun j hj => Nat.le_succ_of_le (h.qe j hj)) (one : Int) x
  have hh : e.has (one : Int) = d.has (one : Int) := by rw [has3 h.kd, has3 h.ke]
  unfold Dk.lay at hqd hqe ⊢
  rw [hh] at hqe ⊢
  split at hqd
  · rename_i c
    rw [if_pos c] at hqe ⊢
    rw [if_pos c]
    refine ⟨h.kd, h.ke, h.od, h.oe, h.ad, h.ae, ?_, hqd, hqe⟩
    show upd d.r _ _ one = upd e.r _ _ one
    rw [Int.toNat_natCast, upd_at, upd_at, h.r]
  · rename_i c
    rw [if_neg c] at hqe ⊢
    rw [if_neg c]
    exact ⟨h.kd, h.ke, h.od, h.oe, h.ad, h.ae, h.r, hqd, hqe⟩
theorem Ap.writeL {one m : Nat} {d e : Dk} (h : Ap one m d e) {a : Int} (hn : ¬ a = (one : Int)) (b : Int) (x : ByteArray) : Ap one (m + 1) (d.write a b x) e := by
  have hq := q_write h.qd a b x
  rw [(write_plain h.ad a b x).2] at hq ⊢
  split at hq
  · rename_i c
    rw [if_pos c]
    obtain ⟨i, s, rfl, rfl, _⟩ := readE_ok (preW_ok c).1
    exact h.left rfl rfl rfl (at_off (nat_ne (by omega) hn)) hq
  · rename_i c
    rw [if_neg c]
    exact h.left rfl rfl rfl rfl hq
theorem Ap.writeB {one m : Nat} {d e : Dk} (h : Ap one m d e) (b : Int) (x : ByteArray) : Ap one (m + 1) (d.write (one : Int) b x) (e.write (one : Int) b x) ∧ d.writeE (one : Int) b x = e.writeE (one : Int) b x := by
  have hqd := q_write h.qd (one : Int) b x
  have hqe := q_write h.qe (one : Int) b x
  rw [(write_plain h.ad _ _ _).2] at hqd ⊢
  rw [(write_plain h.ae _ _ _).2, ← (h.preW b x).1] at hqe ⊢
  refine ⟨?_, by rw [(write_plain h.ad _ _ _).1, (write_plain h.ae _ _ _).1, (h.preW b x).1]⟩
  split at hqd
  · rename_i c
    rw [if_pos c] at hqe ⊢
    rw [if_pos c]
    refine ⟨h.kd, h.ke, h.od, h.oe, h.ad, h.ae, ?_, hqd, hqe⟩
    show upd d.r _ _ one = upd e.r _ _ one
    rw [Int.toNat_natCast, upd_at, upd_at, h.r]
  · rename_i c
    rw [if_neg c] at hqe ⊢
    rw [if_neg c]
    exact ⟨h.kd, h.ke, h.od, h.oe, h.ad, h.ae, h.r, hqd, hqe⟩
theorem Ap.more {one m : Nat} {d e : Dk} (h : Ap one m d e) : Ap one (m + 1) d e := h.left rfl rfl rfl rfl fun j hj => Nat.le_succ_of_le (h.qd j hj)

theorem Two.cells {W w : World} {D E : Nat} {d e : Dk} {F G : Nat → Prop} {g : Nat} {y0 y1 y2 y3 : Int} {x : ByteArray} {v : Value} (h : Two W w D E d e F G g (.cells #[.int .i64 y0, .int .i64 y1, .int .i64 y2, .int .i64 y3, .string x, v] 33)) :
    w.cell? ⟨g, 0, none⟩ = some (.int .i64 y0) ∧ w.cell? ⟨g, 1, none⟩ = some (.int .i64 y1) ∧ w.cell? ⟨g, 2, none⟩ = some (.int .i64 y2) ∧ w.cell? ⟨g, 4, none⟩ = some (.string x) ∧ w.cell? ⟨g, 5, none⟩ = some v := by
  have hb := h.at_
  exact ⟨blk_cell (l := [_, _, _, _, _, _]) hb rfl, blk_cell (l := [_, _, _, _, _, _]) hb rfl, blk_cell (l := [_, _, _, _, _, _]) hb rfl, blk_cell (l := [_, _, _, _, _, _]) hb rfl, blk_cell (l := [_, _, _, _, _, _]) hb rfl⟩

theorem max_mod3 (s : Int) : ∃ p : Nat, p < 3 ∧ max 0 s % 3 = (p : Int) := ⟨(max 0 s % 3).toNat, by omega, by omega⟩

set_option maxRecDepth 100000 in
set_option maxHeartbeats 4000000 in
theorem lawApart (ao : Option Addr) (len cap : Nat) (A : Nat → Av) (one' : Int) (w : World) (hcap : len ≤ cap) (_ : cap ≤ maxLen) (hA : Acts w ao len A) (_ : -9223372036854775808 ≤ one') (_ : one' < 9223372036854775808) :
    Calls Try.prog 5 #[.slice ao len cap, .int .i64 one'] w fun e w' => e = .returned (.bool true) ∧ Below w.heap.size w w' := by
  obtain ⟨one, hone, s3⟩ := max_mod3 one'
  have k2 : min (len : Int) 100 = ((min len 100 : Nat) : Int) := by omega
  obtain ⟨k, hk⟩ : ∃ k, k = min len 100 := ⟨_, rfl⟩
  have hk30 : k ≤ 100 := by omega
  have hkl : k ≤ len := by omega
  rw [← hk] at k2
  have HK := hid hk
  have HA := hid hA
  clear hk hA
  have NEW : Hid (∀ W, Below w.heap.size w W → Calls Try.prog 9 #[.slice (some ⟨W.heap.size, 0, none⟩) 3 3] (W.alloc (.cells #[.int .i64 5, .int .i64 5, .int .i64 5] 3)) fun e w' => e = .returned (.pointer (some ⟨W.heap.size + 1, 0, none⟩)) ∧ One w w' (W.heap.size + 1) (newD (fun _ => 5) 3) (Gr no (W.alloc (.cells #[.int .i64 5, .int .i64 5, .int .i64 5] 3)) w') ∧ Below W.heap.size W w') := fun W hW => by
    have bA : Below W.heap.size W (W.alloc (.cells #[.int .i64 5, .int .i64 5, .int .i64 5] 3)) := (Below.refl _ _).alloc (Nat.le_refl _) _
    have C := One.new (hW.trans (bA.mono hW.size)) (some ⟨W.heap.size, 0, none⟩) 3 3 (fun _ => 5) (by omega) (by omega) (fun j hj => ⟨W.heap.size, 0, rfl, by simp, by
      match j, hj with
      | 0, _ => exact blk_cell (l := [_, _, _]) (heap_alloc_last W _) rfl
      | 1, _ => exact blk_cell (l := [_, _, _]) (heap_alloc_last W _) rfl
      | 2, _ => exact blk_cell (l := [_, _, _]) (heap_alloc_last W _) rfl⟩)
    rw [show (W.alloc (.cells #[.int .i64 5, .int .i64 5, .int .i64 5] 3)).heap.size = W.heap.size + 1 by simp] at C
    exact C.mono fun e w' ⟨h1, h2, h3⟩ => ⟨h1, h2, bA.trans (h3.mono (by simp))⟩
  go_enter Try.func5, Try.ntmps5
  go_wp2_with fail
  refine (NEW.out w (Below.refl _ _)).mono ?_
  rintro e w1 ⟨rfl, o1, b1⟩
  have O1 := hid o1
  clear o1 b1
  go_wp2_with fail
  refine (NEW.out w1 O1.out.bel).mono ?_
  rintro e w2 ⟨rfl, o2, b2⟩
  have T2 : Hid (∃ F G, One w w2 (w.heap.size + 1) (newD (fun _ => 5) 3) F ∧ One w w2 (w1.heap.size + 1) (newD (fun _ => 5) 3) G ∧ ∀ b, F b → ¬ G b) := ⟨_, _, O1.out.below b2, o2, fun b hf hg => by
    have h1 := O1.out.lt hf
    rcases hg with hg | hg
    · exact hg
    · have := hg.1; simp at this; omega⟩
  have A2 : Hid (Ap one 0 (newD (fun _ => 5) 3) (newD (fun _ => 5) 3)) := ⟨rfl, rfl, rfl, rfl, rfl, rfl, rfl, q_new, q_new⟩
  obtain ⟨D, hD⟩ : ∃ D, D = w.heap.size + 1 := ⟨_, rfl⟩
  obtain ⟨E, hE⟩ : ∃ E, E = w1.heap.size + 1 := ⟨_, rfl⟩
  rw [← hD, ← hE]
  rw [← hD, ← hE] at T2
  clear o2 b2 O1 NEW hD hE
  go_wp2
  rw [s3]
  clear s3
  have START : Hid (∃ d e F G, Ap one 0 d e ∧ One w w2 D d F ∧ One w w2 E e G ∧ ∀ b, F b → ¬ G b) := by
    obtain ⟨F, G, h⟩ := T2.out
    exact ⟨_, _, F, G, A2.out, h⟩
  clear T2 A2
  go_loopw [30] (fun iv wr => ∃ j : Nat, j ≤ k ∧ iv = .int .i64 (j : Int) ∧ ∃ d e F G, Ap one j d e ∧ One w wr D d F ∧ One w wr E e G ∧ ∀ b, F b → ¬ G b) (fun iv _ => k - (intOf iv).toNat)
  case atStart => exact ⟨0, Nat.zero_le _, rfl, START.out⟩
  case round =>
    clear START
    obtain ⟨j, hj, rfl, d, e, F, G, ap, o1, o2, dis⟩ := hrel
    by_cases hlt : j < k
    · obtain ⟨g, off, rfl, hg, a0, a1, a2, a3, a4, a5⟩ := act_cells HA.out o1.bel (by omega : j < len)
      have hok := HA.out.1 j (by omega)
      have hdz := hok.data
      have hns := hid hok.ns
      obtain ⟨r1, r2⟩ := hok.reg
      generalize (A j).act = y0 at *
      generalize (A j).reg = y1 at *
      generalize (A j).sec = y2 at *
      generalize (A j).num = y3 at *
      generalize (A j).data = x at *
      generalize (A j).ka = ka at *
      generalize (A j).K = K at *
      generalize (A j).kc = kc at *
      clear hok
      have T0 : Two w (wr.alloc (.cells #[.int .i64 y0, .int .i64 y1, .int .i64 y2, .int .i64 y3, .string x, .slice ka K.length kc] 33)) D E d e F G wr.heap.size (.cells #[.int .i64 y0, .int .i64 y1, .int .i64 y2, .int .i64 y3, .string x, .slice ka K.length kc] 33) := ⟨o1.below ((Below.refl _ _).alloc (Nat.le_refl _) _), o2.below ((Below.refl _ _).alloc (Nat.le_refl _) _), dis, heap_alloc_last wr _, fun h => by have := o1.lt h; omega, fun h => by have := o2.lt h; omega⟩
      have TT := hid T0
      have AP := hid ap
      clear T0 ap o1 o2 dis
      by_cases v3 : y0.tmod 10 = 3
      · go_wp2
        go_roundw
        case rel => exact ⟨j + 1, by omega, by go_num, _, _, _, _, AP.out.more, TT.out.o1, TT.out.o2, TT.out.dis⟩
        case measure => simp [intOf] <;> omega
      · have nv3 : (y0.tmod 10 == 3) = false := by simpa using v3
        by_cases vm3 : y0.tmod 10 = (-3)
        · go_wp2
          go_roundw
          case rel => exact ⟨j + 1, by omega, by go_num, _, _, _, _, AP.out.more, TT.out.o1, TT.out.o2, TT.out.dis⟩
          case measure => simp [intOf] <;> omega
        · have nvm3 : (y0.tmod 10 == (-3)) = false := by simpa using vm3
          by_cases v4 : y0.tmod 10 = 4
          · by_cases hm : y1 = (one : Int)
            · subst hm
              have CC1 := hid (TT.out.o1.crash (fun m hm => by have := AP.out.qd m hm; omega) (hns.out.kr TT.out.o1.bel TT.out.o1.own) hns.out.k64 kc)
              go_wp2_with fail
              refine CC1.out.mono ?_
              rintro e1 w4 ⟨rfl, p1, p2⟩
              have T4 := hid (TT.out.left p1 p2)
              clear p1 p2 TT CC1
              have CC2 := hid (T4.out.o2.crash (fun m hm => by have := AP.out.qe m hm; omega) (hns.out.kr T4.out.o2.bel T4.out.o2.own) hns.out.k64 kc)
              obtain ⟨bb0, bb1, bb2, bb4, bb5⟩ := T4.out.cells
              go_wp2_with fail
              refine CC2.out.mono ?_
              rintro e1 w5 ⟨rfl, p1, p2⟩
              have TT := hid (T4.out.right p1 p2)
              clear p1 p2 T4 CC2
              have AP := hid (AP.out.crash K).more
              have AQ := AP.out
              have CR1 := hid (TT.out.o1.read (fun m hm => by have := AQ.qd m hm; omega) (one : Int) y2)
              have CR2 := hid (TT.out.o2.read (fun m hm => by have := AQ.qe m hm; omega) (one : Int) y2)
              have CI1 := hid (TT.out.o1.image (one : Int))
              have CI2 := hid (TT.out.o2.image (one : Int))
              rw [(AQ.preW y2 x).2.1, (AQ.preW y2 x).2.2] at CR1
              rw [AQ.image] at CI1
              obtain ⟨cc0, cc1, cc2, cc4, cc5⟩ := TT.out.cells
              have FINAL : Hid (∃ d e F G, Ap one (j + 1) d e ∧ One w w5 D d F ∧ One w w5 E e G ∧ ∀ b, F b → ¬ G b) := ⟨_, _, _, _, AP.out, TT.out.o1, TT.out.o2, TT.out.dis⟩
              clear AQ
              generalize Dk.readE _ (one : Int) y2 = rE at CR1 CR2
              generalize Dk.readB _ (one : Int) y2 = rB at CR1 CR2
              generalize Dk.image _ (one : Int) = iB at CI1 CI2
              go_wp2_with fail
              refine CR1.out.mono ?_
              rintro e1 w7 ⟨rfl, rfl⟩
              go_wp2_with fail
              refine CR2.out.mono ?_
              rintro e1 w7 ⟨rfl, rfl⟩
              go_wp2_with fail
              refine CI1.out.mono ?_
              rintro e1 w7 ⟨rfl, rfl⟩
              go_wp2_with fail
              refine CI2.out.mono ?_
              rintro e1 w7 ⟨rfl, rfl⟩
              go_wp2
              go_roundw
              case rel => exact ⟨j + 1, by omega, by go_num, FINAL.out⟩
              case measure => simp [intOf] <;> omega
            · have hm' : (y1 == (one : Int)) = false := by simpa using hm
              have CC1 := hid (TT.out.o1.crash (fun m hm => by have := AP.out.qd m hm; omega) (hns.out.kr TT.out.o1.bel TT.out.o1.own) hns.out.k64 kc)
              go_wp2_with fail
              refine CC1.out.mono ?_
              rintro e1 w4 ⟨rfl, p1, p2⟩
              have T4 := hid (TT.out.left p1 p2)
              clear p1 p2 TT CC1
              have CC2 := hid (T4.out.o2.crash (fun m hm => by have := AP.out.qe m hm; omega) (hns.out.kr T4.out.o2.bel T4.out.o2.own) hns.out.k64 kc)
              obtain ⟨bb0, bb1, bb2, bb4, bb5⟩ := T4.out.cells
              go_wp2_with fail
              refine CC2.out.mono ?_
              rintro e1 w5 ⟨rfl, p1, p2⟩
              have TT := hid (T4.out.right p1 p2)
              clear p1 p2 T4 CC2
              have AP := hid (AP.out.crash K).more
              have AQ := AP.out
              have CR1 := hid (TT.out.o1.read (fun m hm => by have := AQ.qd m hm; omega) (one : Int) y2)
              have CR2 := hid (TT.out.o2.read (fun m hm => by have := AQ.qe m hm; omega) (one : Int) y2)
              have CI1 := hid (TT.out.o1.image (one : Int))
              have CI2 := hid (TT.out.o2.image (one : Int))
              rw [(AQ.preW y2 x).2.1, (AQ.preW y2 x).2.2] at CR1
              rw [AQ.image] at CI1
              obtain ⟨cc0, cc1, cc2, cc4, cc5⟩ := TT.out.cells
              have FINAL : Hid (∃ d e F G, Ap one (j + 1) d e ∧ One w w5 D d F ∧ One w w5 E e G ∧ ∀ b, F b → ¬ G b) := ⟨_, _, _, _, AP.out, TT.out.o1, TT.out.o2, TT.out.dis⟩
              clear AQ
              generalize Dk.readE _ (one : Int) y2 = rE at CR1 CR2
              generalize Dk.readB _ (one : Int) y2 = rB at CR1 CR2
              generalize Dk.image _ (one : Int) = iB at CI1 CI2
              go_wp2_with fail
              refine CR1.out.mono ?_
              rintro e1 w7 ⟨rfl, rfl⟩
              go_wp2_with fail
              refine CR2.out.mono ?_
              rintro e1 w7 ⟨rfl, rfl⟩
              go_wp2_with fail
              refine CI1.out.mono ?_
              rintro e1 w7 ⟨rfl, rfl⟩
              go_wp2_with fail
              refine CI2.out.mono ?_
              rintro e1 w7 ⟨rfl, rfl⟩
              go_wp2
              go_roundw
              case rel => exact ⟨j + 1, by omega, by go_num, FINAL.out⟩
              case measure => simp [intOf] <;> omega
          · have nv4 : (y0.tmod 10 == 4) = false := by simpa using v4
            by_cases vm4 : y0.tmod 10 = (-4)
            · by_cases hm : y1 = (one : Int)
              · subst hm
                have CC1 := hid (TT.out.o1.crash (fun m hm => by have := AP.out.qd m hm; omega) (hns.out.kr TT.out.o1.bel TT.out.o1.own) hns.out.k64 kc)
                go_wp2_with fail
                refine CC1.out.mono ?_
                rintro e1 w4 ⟨rfl, p1, p2⟩
                have T4 := hid (TT.out.left p1 p2)
                clear p1 p2 TT CC1
                have CC2 := hid (T4.out.o2.crash (fun m hm => by have := AP.out.qe m hm; omega) (hns.out.kr T4.out.o2.bel T4.out.o2.own) hns.out.k64 kc)
                obtain ⟨bb0, bb1, bb2, bb4, bb5⟩ := T4.out.cells
                go_wp2_with fail
                refine CC2.out.mono ?_
                rintro e1 w5 ⟨rfl, p1, p2⟩
                have TT := hid (T4.out.right p1 p2)
                clear p1 p2 T4 CC2
                have AP := hid (AP.out.crash K).more
                have AQ := AP.out
                have CR1 := hid (TT.out.o1.read (fun m hm => by have := AQ.qd m hm; omega) (one : Int) y2)
                have CR2 := hid (TT.out.o2.read (fun m hm => by have := AQ.qe m hm; omega) (one : Int) y2)
                have CI1 := hid (TT.out.o1.image (one : Int))
                have CI2 := hid (TT.out.o2.image (one : Int))
                rw [(AQ.preW y2 x).2.1, (AQ.preW y2 x).2.2] at CR1
                rw [AQ.image] at CI1
                obtain ⟨cc0, cc1, cc2, cc4, cc5⟩ := TT.out.cells
                have FINAL : Hid (∃ d e F G, Ap one (j + 1) d e ∧ One w w5 D d F ∧ One w w5 E e G ∧ ∀ b, F b → ¬ G b) := ⟨_, _, _, _, AP.out, TT.out.o1, TT.out.o2, TT.out.dis⟩
                clear AQ
                generalize Dk.readE _ (one : Int) y2 = rE at CR1 CR2
                generalize Dk.readB _ (one : Int) y2 = rB at CR1 CR2
                generalize Dk.image _ (one : Int) = iB at CI1 CI2
                go_wp2_with fail
                refine CR1.out.mono ?_
                rintro e1 w7 ⟨rfl, rfl⟩
                go_wp2_with fail
                refine CR2.out.mono ?_
                rintro e1 w7 ⟨rfl, rfl⟩
                go_wp2_with fail
                refine CI1.out.mono ?_
                rintro e1 w7 ⟨rfl, rfl⟩
                go_wp2_with fail
                refine CI2.out.mono ?_
                rintro e1 w7 ⟨rfl, rfl⟩
                go_wp2
                go_roundw
                case rel => exact ⟨j + 1, by omega, by go_num, FINAL.out⟩
                case measure => simp [intOf] <;> omega
              · have hm' : (y1 == (one : Int)) = false := by simpa using hm
                have CC1 := hid (TT.out.o1.crash (fun m hm => by have := AP.out.qd m hm; omega) (hns.out.kr TT.out.o1.bel TT.out.o1.own) hns.out.k64 kc)
                go_wp2_with fail
                refine CC1.out.mono ?_
                rintro e1 w4 ⟨rfl, p1, p2⟩
                have T4 := hid (TT.out.left p1 p2)
                clear p1 p2 TT CC1
                have CC2 := hid (T4.out.o2.crash (fun m hm => by have := AP.out.qe m hm; omega) (hns.out.kr T4.out.o2.bel T4.out.o2.own) hns.out.k64 kc)
                obtain ⟨bb0, bb1, bb2, bb4, bb5⟩ := T4.out.cells
                go_wp2_with fail
                refine CC2.out.mono ?_
                rintro e1 w5 ⟨rfl, p1, p2⟩
                have TT := hid (T4.out.right p1 p2)
                clear p1 p2 T4 CC2
                have AP := hid (AP.out.crash K).more
                have AQ := AP.out
                have CR1 := hid (TT.out.o1.read (fun m hm => by have := AQ.qd m hm; omega) (one : Int) y2)
                have CR2 := hid (TT.out.o2.read (fun m hm => by have := AQ.qe m hm; omega) (one : Int) y2)
                have CI1 := hid (TT.out.o1.image (one : Int))
                have CI2 := hid (TT.out.o2.image (one : Int))
                rw [(AQ.preW y2 x).2.1, (AQ.preW y2 x).2.2] at CR1
                rw [AQ.image] at CI1
                obtain ⟨cc0, cc1, cc2, cc4, cc5⟩ := TT.out.cells
                have FINAL : Hid (∃ d e F G, Ap one (j + 1) d e ∧ One w w5 D d F ∧ One w w5 E e G ∧ ∀ b, F b → ¬ G b) := ⟨_, _, _, _, AP.out, TT.out.o1, TT.out.o2, TT.out.dis⟩
                clear AQ
                generalize Dk.readE _ (one : Int) y2 = rE at CR1 CR2
                generalize Dk.readB _ (one : Int) y2 = rB at CR1 CR2
                generalize Dk.image _ (one : Int) = iB at CI1 CI2
                go_wp2_with fail
                refine CR1.out.mono ?_
                rintro e1 w7 ⟨rfl, rfl⟩
                go_wp2_with fail
                refine CR2.out.mono ?_
                rintro e1 w7 ⟨rfl, rfl⟩
                go_wp2_with fail
                refine CI1.out.mono ?_
                rintro e1 w7 ⟨rfl, rfl⟩
                go_wp2_with fail
                refine CI2.out.mono ?_
                rintro e1 w7 ⟨rfl, rfl⟩
                go_wp2
                go_roundw
                case rel => exact ⟨j + 1, by omega, by go_num, FINAL.out⟩
                case measure => simp [intOf] <;> omega
            · have nvm4 : (y0.tmod 10 == (-4)) = false := by simpa using vm4
              by_cases v2 : y0.tmod 10 = 2
              · by_cases hm : y1 = (one : Int)
                · subst hm
                  obtain ⟨ap2, eqE⟩ := AP.out.flushB
                  have CC1 := hid (TT.out.o1.flush (fun m hm => by have := AP.out.qd m hm; omega) (one : Int))
                  rw [eqE] at CC1
                  go_wp2_with fail
                  refine CC1.out.mono ?_
                  rintro e1 w4 ⟨rfl, p1, p2⟩
                  have T4 := hid (TT.out.left p1 p2)
                  clear p1 p2 TT CC1 eqE
                  have CC2 := hid (T4.out.o2.flush (fun m hm => by have := AP.out.qe m hm; omega) (one : Int))
                  obtain ⟨bb0, bb1, bb2, bb4, bb5⟩ := T4.out.cells
                  generalize Dk.flushE _ (one : Int) = fE at *
                  go_wp2_with fail
                  refine CC2.out.mono ?_
                  rintro e1 w5 ⟨rfl, p1, p2⟩
                  have TT := hid (T4.out.right p1 p2)
                  clear p1 p2 T4 CC2 AP
                  have AP := hid ap2
                  clear ap2
                  have AQ := AP.out
                  have CR1 := hid (TT.out.o1.read (fun m hm => by have := AQ.qd m hm; omega) (one : Int) y2)
                  have CR2 := hid (TT.out.o2.read (fun m hm => by have := AQ.qe m hm; omega) (one : Int) y2)
                  have CI1 := hid (TT.out.o1.image (one : Int))
                  have CI2 := hid (TT.out.o2.image (one : Int))
                  rw [(AQ.preW y2 x).2.1, (AQ.preW y2 x).2.2] at CR1
                  rw [AQ.image] at CI1
                  obtain ⟨cc0, cc1, cc2, cc4, cc5⟩ := TT.out.cells
                  have FINAL : Hid (∃ d e F G, Ap one (j + 1) d e ∧ One w w5 D d F ∧ One w w5 E e G ∧ ∀ b, F b → ¬ G b) := ⟨_, _, _, _, AP.out, TT.out.o1, TT.out.o2, TT.out.dis⟩
                  clear AQ
                  generalize Dk.readE _ (one : Int) y2 = rE at CR1 CR2
                  generalize Dk.readB _ (one : Int) y2 = rB at CR1 CR2
                  generalize Dk.image _ (one : Int) = iB at CI1 CI2
                  go_wp2_with fail
                  refine CR1.out.mono ?_
                  rintro e1 w7 ⟨rfl, rfl⟩
                  go_wp2_with fail
                  refine CR2.out.mono ?_
                  rintro e1 w7 ⟨rfl, rfl⟩
                  go_wp2_with fail
                  refine CI1.out.mono ?_
                  rintro e1 w7 ⟨rfl, rfl⟩
                  go_wp2_with fail
                  refine CI2.out.mono ?_
                  rintro e1 w7 ⟨rfl, rfl⟩
                  go_wp2
                  go_roundw
                  case rel => exact ⟨j + 1, by omega, by go_num, FINAL.out⟩
                  case measure => simp [intOf] <;> omega
                · have hm' : (y1 == (one : Int)) = false := by simpa using hm
                  have ap2 := AP.out.flushL hm
                  have CC1 := hid (TT.out.o1.flush (fun m hm => by have := AP.out.qd m hm; omega) y1)
                  generalize Dk.flushE _ y1 = fE at *
                  go_wp2_with fail
                  refine CC1.out.mono ?_
                  rintro e1 w5 ⟨rfl, p1, p2⟩
                  have T4 := hid (TT.out.left p1 p2)
                  clear p1 p2 TT CC1 AP
                  have TT := hid T4.out
                  have AP := hid ap2
                  clear ap2 T4
                  have AQ := AP.out
                  have CR1 := hid (TT.out.o1.read (fun m hm => by have := AQ.qd m hm; omega) (one : Int) y2)
                  have CR2 := hid (TT.out.o2.read (fun m hm => by have := AQ.qe m hm; omega) (one : Int) y2)
                  have CI1 := hid (TT.out.o1.image (one : Int))
                  have CI2 := hid (TT.out.o2.image (one : Int))
                  rw [(AQ.preW y2 x).2.1, (AQ.preW y2 x).2.2] at CR1
                  rw [AQ.image] at CI1
                  obtain ⟨cc0, cc1, cc2, cc4, cc5⟩ := TT.out.cells
                  have FINAL : Hid (∃ d e F G, Ap one (j + 1) d e ∧ One w w5 D d F ∧ One w w5 E e G ∧ ∀ b, F b → ¬ G b) := ⟨_, _, _, _, AP.out, TT.out.o1, TT.out.o2, TT.out.dis⟩
                  clear AQ
                  generalize Dk.readE _ (one : Int) y2 = rE at CR1 CR2
                  generalize Dk.readB _ (one : Int) y2 = rB at CR1 CR2
                  generalize Dk.image _ (one : Int) = iB at CI1 CI2
                  go_wp2_with fail
                  refine CR1.out.mono ?_
                  rintro e1 w7 ⟨rfl, rfl⟩
                  go_wp2_with fail
                  refine CR2.out.mono ?_
                  rintro e1 w7 ⟨rfl, rfl⟩
                  go_wp2_with fail
                  refine CI1.out.mono ?_
                  rintro e1 w7 ⟨rfl, rfl⟩
                  go_wp2_with fail
                  refine CI2.out.mono ?_
                  rintro e1 w7 ⟨rfl, rfl⟩
                  go_wp2
                  go_roundw
                  case rel => exact ⟨j + 1, by omega, by go_num, FINAL.out⟩
                  case measure => simp [intOf] <;> omega
              · have nv2 : (y0.tmod 10 == 2) = false := by simpa using v2
                by_cases vm2 : y0.tmod 10 = (-2)
                · by_cases hm : y1 = (one : Int)
                  · subst hm
                    obtain ⟨ap2, eqE⟩ := AP.out.flushB
                    have CC1 := hid (TT.out.o1.flush (fun m hm => by have := AP.out.qd m hm; omega) (one : Int))
                    rw [eqE] at CC1
                    go_wp2_with fail
                    refine CC1.out.mono ?_
                    rintro e1 w4 ⟨rfl, p1, p2⟩
                    have T4 := hid (TT.out.left p1 p2)
                    clear p1 p2 TT CC1 eqE
                    have CC2 := hid (T4.out.o2.flush (fun m hm => by have := AP.out.qe m hm; omega) (one : Int))
                    obtain ⟨bb0, bb1, bb2, bb4, bb5⟩ := T4.out.cells
                    generalize Dk.flushE _ (one : Int) = fE at *
                    go_wp2_with fail
                    refine CC2.out.mono ?_
                    rintro e1 w5 ⟨rfl, p1, p2⟩
                    have TT := hid (T4.out.right p1 p2)
                    clear p1 p2 T4 CC2 AP
                    have AP := hid ap2
                    clear ap2
                    have AQ := AP.out
                    have CR1 := hid (TT.out.o1.read (fun m hm => by have := AQ.qd m hm; omega) (one : Int) y2)
                    have CR2 := hid (TT.out.o2.read (fun m hm => by have := AQ.qe m hm; omega) (one : Int) y2)
                    have CI1 := hid (TT.out.o1.image (one : Int))
                    have CI2 := hid (TT.out.o2.image (one : Int))
                    rw [(AQ.preW y2 x).2.1, (AQ.preW y2 x).2.2] at CR1
                    rw [AQ.image] at CI1
                    obtain ⟨cc0, cc1, cc2, cc4, cc5⟩ := TT.out.cells
                    have FINAL : Hid (∃ d e F G, Ap one (j + 1) d e ∧ One w w5 D d F ∧ One w w5 E e G ∧ ∀ b, F b → ¬ G b) := ⟨_, _, _, _, AP.out, TT.out.o1, TT.out.o2, TT.out.dis⟩
                    clear AQ
                    generalize Dk.readE _ (one : Int) y2 = rE at CR1 CR2
                    generalize Dk.readB _ (one : Int) y2 = rB at CR1 CR2
                    generalize Dk.image _ (one : Int) = iB at CI1 CI2
                    go_wp2_with fail
                    refine CR1.out.mono ?_
                    rintro e1 w7 ⟨rfl, rfl⟩
                    go_wp2_with fail
                    refine CR2.out.mono ?_
                    rintro e1 w7 ⟨rfl, rfl⟩
                    go_wp2_with fail
                    refine CI1.out.mono ?_
                    rintro e1 w7 ⟨rfl, rfl⟩
                    go_wp2_with fail
                    refine CI2.out.mono ?_
                    rintro e1 w7 ⟨rfl, rfl⟩
                    go_wp2
                    go_roundw
                    case rel => exact ⟨j + 1, by omega, by go_num, FINAL.out⟩
                    case measure => simp [intOf] <;> omega
                  · have hm' : (y1 == (one : Int)) = false := by simpa using hm
                    have ap2 := AP.out.flushL hm
                    have CC1 := hid (TT.out.o1.flush (fun m hm => by have := AP.out.qd m hm; omega) y1)
                    generalize Dk.flushE _ y1 = fE at *
                    go_wp2_with fail
                    refine CC1.out.mono ?_
                    rintro e1 w5 ⟨rfl, p1, p2⟩
                    have T4 := hid (TT.out.left p1 p2)
                    clear p1 p2 TT CC1 AP
                    have TT := hid T4.out
                    have AP := hid ap2
                    clear ap2 T4
                    have AQ := AP.out
                    have CR1 := hid (TT.out.o1.read (fun m hm => by have := AQ.qd m hm; omega) (one : Int) y2)
                    have CR2 := hid (TT.out.o2.read (fun m hm => by have := AQ.qe m hm; omega) (one : Int) y2)
                    have CI1 := hid (TT.out.o1.image (one : Int))
                    have CI2 := hid (TT.out.o2.image (one : Int))
                    rw [(AQ.preW y2 x).2.1, (AQ.preW y2 x).2.2] at CR1
                    rw [AQ.image] at CI1
                    obtain ⟨cc0, cc1, cc2, cc4, cc5⟩ := TT.out.cells
                    have FINAL : Hid (∃ d e F G, Ap one (j + 1) d e ∧ One w w5 D d F ∧ One w w5 E e G ∧ ∀ b, F b → ¬ G b) := ⟨_, _, _, _, AP.out, TT.out.o1, TT.out.o2, TT.out.dis⟩
                    clear AQ
                    generalize Dk.readE _ (one : Int) y2 = rE at CR1 CR2
                    generalize Dk.readB _ (one : Int) y2 = rB at CR1 CR2
                    generalize Dk.image _ (one : Int) = iB at CI1 CI2
                    go_wp2_with fail
                    refine CR1.out.mono ?_
                    rintro e1 w7 ⟨rfl, rfl⟩
                    go_wp2_with fail
                    refine CR2.out.mono ?_
                    rintro e1 w7 ⟨rfl, rfl⟩
                    go_wp2_with fail
                    refine CI1.out.mono ?_
                    rintro e1 w7 ⟨rfl, rfl⟩
                    go_wp2_with fail
                    refine CI2.out.mono ?_
                    rintro e1 w7 ⟨rfl, rfl⟩
                    go_wp2
                    go_roundw
                    case rel => exact ⟨j + 1, by omega, by go_num, FINAL.out⟩
                    case measure => simp [intOf] <;> omega
                · have nvm2 : (y0.tmod 10 == (-2)) = false := by simpa using vm2
                  by_cases v6 : y0.tmod 10 = 6
                  · by_cases hm : y1 = (one : Int)
                    · subst hm
                      have ap2 := AP.out.layB x
                      have CC1 := hid (TT.out.o1.lay (one : Int) x)
                      go_wp2_with fail
                      refine CC1.out.mono ?_
                      rintro e1 w4 ⟨rfl, p1, p2⟩
                      have T4 := hid (TT.out.left p1 p2)
                      clear p1 p2 TT CC1
                      have CC2 := hid (T4.out.o2.lay (one : Int) x)
                      obtain ⟨bb0, bb1, bb2, bb4, bb5⟩ := T4.out.cells
                      go_wp2_with fail
                      refine CC2.out.mono ?_
                      rintro e1 w5 ⟨rfl, p1, p2⟩
                      have TT := hid (T4.out.right p1 p2)
                      clear p1 p2 T4 CC2 AP
                      have AP := hid ap2
                      clear ap2
                      have AQ := AP.out
                      have CR1 := hid (TT.out.o1.read (fun m hm => by have := AQ.qd m hm; omega) (one : Int) y2)
                      have CR2 := hid (TT.out.o2.read (fun m hm => by have := AQ.qe m hm; omega) (one : Int) y2)
                      have CI1 := hid (TT.out.o1.image (one : Int))
                      have CI2 := hid (TT.out.o2.image (one : Int))
                      rw [(AQ.preW y2 x).2.1, (AQ.preW y2 x).2.2] at CR1
                      rw [AQ.image] at CI1
                      obtain ⟨cc0, cc1, cc2, cc4, cc5⟩ := TT.out.cells
                      have FINAL : Hid (∃ d e F G, Ap one (j + 1) d e ∧ One w w5 D d F ∧ One w w5 E e G ∧ ∀ b, F b → ¬ G b) := ⟨_, _, _, _, AP.out, TT.out.o1, TT.out.o2, TT.out.dis⟩
                      clear AQ
                      generalize Dk.readE _ (one : Int) y2 = rE at CR1 CR2
                      generalize Dk.readB _ (one : Int) y2 = rB at CR1 CR2
                      generalize Dk.image _ (one : Int) = iB at CI1 CI2
                      go_wp2_with fail
                      refine CR1.out.mono ?_
                      rintro e1 w7 ⟨rfl, rfl⟩
                      go_wp2_with fail
                      refine CR2.out.mono ?_
                      rintro e1 w7 ⟨rfl, rfl⟩
                      go_wp2_with fail
                      refine CI1.out.mono ?_
                      rintro e1 w7 ⟨rfl, rfl⟩
                      go_wp2_with fail
                      refine CI2.out.mono ?_
                      rintro e1 w7 ⟨rfl, rfl⟩
                      go_wp2
                      go_roundw
                      case rel => exact ⟨j + 1, by omega, by go_num, FINAL.out⟩
                      case measure => simp [intOf] <;> omega
                    · have hm' : (y1 == (one : Int)) = false := by simpa using hm
                      have ap2 := AP.out.layL hm x
                      have CC1 := hid (TT.out.o1.lay y1 x)
                      go_wp2_with fail
                      refine CC1.out.mono ?_
                      rintro e1 w5 ⟨rfl, p1, p2⟩
                      have T4 := hid (TT.out.left p1 p2)
                      clear p1 p2 TT CC1 AP
                      have TT := hid T4.out
                      have AP := hid ap2
                      clear ap2 T4
                      have AQ := AP.out
                      have CR1 := hid (TT.out.o1.read (fun m hm => by have := AQ.qd m hm; omega) (one : Int) y2)
                      have CR2 := hid (TT.out.o2.read (fun m hm => by have := AQ.qe m hm; omega) (one : Int) y2)
                      have CI1 := hid (TT.out.o1.image (one : Int))
                      have CI2 := hid (TT.out.o2.image (one : Int))
                      rw [(AQ.preW y2 x).2.1, (AQ.preW y2 x).2.2] at CR1
                      rw [AQ.image] at CI1
                      obtain ⟨cc0, cc1, cc2, cc4, cc5⟩ := TT.out.cells
                      have FINAL : Hid (∃ d e F G, Ap one (j + 1) d e ∧ One w w5 D d F ∧ One w w5 E e G ∧ ∀ b, F b → ¬ G b) := ⟨_, _, _, _, AP.out, TT.out.o1, TT.out.o2, TT.out.dis⟩
                      clear AQ
                      generalize Dk.readE _ (one : Int) y2 = rE at CR1 CR2
                      generalize Dk.readB _ (one : Int) y2 = rB at CR1 CR2
                      generalize Dk.image _ (one : Int) = iB at CI1 CI2
                      go_wp2_with fail
                      refine CR1.out.mono ?_
                      rintro e1 w7 ⟨rfl, rfl⟩
                      go_wp2_with fail
                      refine CR2.out.mono ?_
                      rintro e1 w7 ⟨rfl, rfl⟩
                      go_wp2_with fail
                      refine CI1.out.mono ?_
                      rintro e1 w7 ⟨rfl, rfl⟩
                      go_wp2_with fail
                      refine CI2.out.mono ?_
                      rintro e1 w7 ⟨rfl, rfl⟩
                      go_wp2
                      go_roundw
                      case rel => exact ⟨j + 1, by omega, by go_num, FINAL.out⟩
                      case measure => simp [intOf] <;> omega
                  · have nv6 : (y0.tmod 10 == 6) = false := by simpa using v6
                    by_cases vm6 : y0.tmod 10 = (-6)
                    · by_cases hm : y1 = (one : Int)
                      · subst hm
                        have ap2 := AP.out.layB x
                        have CC1 := hid (TT.out.o1.lay (one : Int) x)
                        go_wp2_with fail
                        refine CC1.out.mono ?_
                        rintro e1 w4 ⟨rfl, p1, p2⟩
                        have T4 := hid (TT.out.left p1 p2)
                        clear p1 p2 TT CC1
                        have CC2 := hid (T4.out.o2.lay (one : Int) x)
                        obtain ⟨bb0, bb1, bb2, bb4, bb5⟩ := T4.out.cells
                        go_wp2_with fail
                        refine CC2.out.mono ?_
                        rintro e1 w5 ⟨rfl, p1, p2⟩
                        have TT := hid (T4.out.right p1 p2)
                        clear p1 p2 T4 CC2 AP
                        have AP := hid ap2
                        clear ap2
                        have AQ := AP.out
                        have CR1 := hid (TT.out.o1.read (fun m hm => by have := AQ.qd m hm; omega) (one : Int) y2)
                        have CR2 := hid (TT.out.o2.read (fun m hm => by have := AQ.qe m hm; omega) (one : Int) y2)
                        have CI1 := hid (TT.out.o1.image (one : Int))
                        have CI2 := hid (TT.out.o2.image (one : Int))
                        rw [(AQ.preW y2 x).2.1, (AQ.preW y2 x).2.2] at CR1
                        rw [AQ.image] at CI1
                        obtain ⟨cc0, cc1, cc2, cc4, cc5⟩ := TT.out.cells
                        have FINAL : Hid (∃ d e F G, Ap one (j + 1) d e ∧ One w w5 D d F ∧ One w w5 E e G ∧ ∀ b, F b → ¬ G b) := ⟨_, _, _, _, AP.out, TT.out.o1, TT.out.o2, TT.out.dis⟩
                        clear AQ
                        generalize Dk.readE _ (one : Int) y2 = rE at CR1 CR2
                        generalize Dk.readB _ (one : Int) y2 = rB at CR1 CR2
                        generalize Dk.image _ (one : Int) = iB at CI1 CI2
                        go_wp2_with fail
                        refine CR1.out.mono ?_
                        rintro e1 w7 ⟨rfl, rfl⟩
                        go_wp2_with fail
                        refine CR2.out.mono ?_
                        rintro e1 w7 ⟨rfl, rfl⟩
                        go_wp2_with fail
                        refine CI1.out.mono ?_
                        rintro e1 w7 ⟨rfl, rfl⟩
                        go_wp2_with fail
                        refine CI2.out.mono ?_
                        rintro e1 w7 ⟨rfl, rfl⟩
                        go_wp2
                        go_roundw
                        case rel => exact ⟨j + 1, by omega, by go_num, FINAL.out⟩
                        case measure => simp [intOf] <;> omega
                      · have hm' : (y1 == (one : Int)) = false := by simpa using hm
                        have ap2 := AP.out.layL hm x
                        have CC1 := hid (TT.out.o1.lay y1 x)
                        go_wp2_with fail
                        refine CC1.out.mono ?_
                        rintro e1 w5 ⟨rfl, p1, p2⟩
                        have T4 := hid (TT.out.left p1 p2)
                        clear p1 p2 TT CC1 AP
                        have TT := hid T4.out
                        have AP := hid ap2
                        clear ap2 T4
                        have AQ := AP.out
                        have CR1 := hid (TT.out.o1.read (fun m hm => by have := AQ.qd m hm; omega) (one : Int) y2)
                        have CR2 := hid (TT.out.o2.read (fun m hm => by have := AQ.qe m hm; omega) (one : Int) y2)
                        have CI1 := hid (TT.out.o1.image (one : Int))
                        have CI2 := hid (TT.out.o2.image (one : Int))
                        rw [(AQ.preW y2 x).2.1, (AQ.preW y2 x).2.2] at CR1
                        rw [AQ.image] at CI1
                        obtain ⟨cc0, cc1, cc2, cc4, cc5⟩ := TT.out.cells
                        have FINAL : Hid (∃ d e F G, Ap one (j + 1) d e ∧ One w w5 D d F ∧ One w w5 E e G ∧ ∀ b, F b → ¬ G b) := ⟨_, _, _, _, AP.out, TT.out.o1, TT.out.o2, TT.out.dis⟩
                        clear AQ
                        generalize Dk.readE _ (one : Int) y2 = rE at CR1 CR2
                        generalize Dk.readB _ (one : Int) y2 = rB at CR1 CR2
                        generalize Dk.image _ (one : Int) = iB at CI1 CI2
                        go_wp2_with fail
                        refine CR1.out.mono ?_
                        rintro e1 w7 ⟨rfl, rfl⟩
                        go_wp2_with fail
                        refine CR2.out.mono ?_
                        rintro e1 w7 ⟨rfl, rfl⟩
                        go_wp2_with fail
                        refine CI1.out.mono ?_
                        rintro e1 w7 ⟨rfl, rfl⟩
                        go_wp2_with fail
                        refine CI2.out.mono ?_
                        rintro e1 w7 ⟨rfl, rfl⟩
                        go_wp2
                        go_roundw
                        case rel => exact ⟨j + 1, by omega, by go_num, FINAL.out⟩
                        case measure => simp [intOf] <;> omega
                    · have nvm6 : (y0.tmod 10 == (-6)) = false := by simpa using vm6
                      by_cases hm : y1 = (one : Int)
                      · subst hm
                        obtain ⟨ap2, eqE⟩ := AP.out.writeB y2 (secB x)
                        obtain ⟨X, hX⟩ : ∃ X, X = wr.alloc (.cells #[.int .i64 y0, .int .i64 (one : Int), .int .i64 y2, .int .i64 y3, .string x, .slice ka K.length kc] 33) := ⟨_, rfl⟩
                        have TX : Hid (Two w X D E d e F G wr.heap.size (.cells #[.int .i64 y0, .int .i64 (one : Int), .int .i64 y2, .int .i64 y3, .string x, .slice ka K.length kc] 33)) := by rw [hX]; exact TT.out
                        have SF : ∀ {W : World} {d e : Dk} {F G : Nat → Prop}, Two w W D E d e F G wr.heap.size (.cells #[.int .i64 y0, .int .i64 (one : Int), .int .i64 y2, .int .i64 y3, .string x, .slice ka K.length kc] 33) → W.cell? ⟨wr.heap.size, 1, none⟩ = some (.int .i64 (one : Int)) ∧ W.cell? ⟨wr.heap.size, 2, none⟩ = some (.int .i64 y2) ∧ W.cell? ⟨wr.heap.size, 4, none⟩ = some (.string x) := fun h => ⟨h.cells.2.1, h.cells.2.2.1, h.cells.2.2.2.1⟩
                        have CS : Hid (∀ W d e F G, Two w W D E d e F G wr.heap.size (.cells #[.int .i64 y0, .int .i64 (one : Int), .int .i64 y2, .int .i64 y3, .string x, .slice ka K.length kc] 33) → Calls Try.prog 22 #[.string x] W fun e' w' => e' = .returned (.string (secB x)) ∧ Hid (Two w w' D E d e F G wr.heap.size (.cells #[.int .i64 y0, .int .i64 (one : Int), .int .i64 y2, .int .i64 y3, .string x, .slice ka K.length kc] 33)) ∧ (w'.cell? ⟨wr.heap.size, 1, none⟩ = some (.int .i64 (one : Int)) ∧ w'.cell? ⟨wr.heap.size, 2, none⟩ = some (.int .i64 y2) ∧ w'.cell? ⟨wr.heap.size, 4, none⟩ = some (.string x))) := fun W d e F G h =>
                          (sector x W (by unfold maxLen; omega)).mono fun e' w' ⟨h1, h2⟩ => ⟨h1, h.below h2, SF (h.below h2)⟩
                        have CW : Hid (∀ W, Two w W D E d e F G wr.heap.size (.cells #[.int .i64 y0, .int .i64 (one : Int), .int .i64 y2, .int .i64 y3, .string x, .slice ka K.length kc] 33) → Calls Try.prog 21 #[.pointer (some ⟨D, 0, none⟩), .int .i64 (one : Int), .int .i64 y2, .string (secB x)] W fun e' w' => e' = .returned (.int .i64 (e.writeE (one : Int) y2 (secB x))) ∧ (∃ F', Hid (Two w w' D E (d.write (one : Int) y2 (secB x)) e F' G wr.heap.size (.cells #[.int .i64 y0, .int .i64 (one : Int), .int .i64 y2, .int .i64 y3, .string x, .slice ka K.length kc] 33))) ∧ (w'.cell? ⟨wr.heap.size, 1, none⟩ = some (.int .i64 (one : Int)) ∧ w'.cell? ⟨wr.heap.size, 2, none⟩ = some (.int .i64 y2) ∧ w'.cell? ⟨wr.heap.size, 4, none⟩ = some (.string x))) := fun W h =>
                          (h.o1.write (fun m hm => by have := AP.out.qd m hm; omega) (one : Int) y2 (secB x)).mono fun e' w' ⟨h1, h2, h3⟩ => ⟨by rw [eqE] at h1; exact h1, ⟨_, h.left h2 h3⟩, SF (h.left h2 h3)⟩
                        have CV : Hid (∀ W F', Two w W D E (d.write (one : Int) y2 (secB x)) e F' G wr.heap.size (.cells #[.int .i64 y0, .int .i64 (one : Int), .int .i64 y2, .int .i64 y3, .string x, .slice ka K.length kc] 33) → Calls Try.prog 21 #[.pointer (some ⟨E, 0, none⟩), .int .i64 (one : Int), .int .i64 y2, .string (secB x)] W fun e' w' => e' = .returned (.int .i64 (e.writeE (one : Int) y2 (secB x))) ∧ (∃ G', Hid (Two w w' D E (d.write (one : Int) y2 (secB x)) (e.write (one : Int) y2 (secB x)) F' G' wr.heap.size (.cells #[.int .i64 y0, .int .i64 (one : Int), .int .i64 y2, .int .i64 y3, .string x, .slice ka K.length kc] 33))) ∧ (w'.cell? ⟨wr.heap.size, 1, none⟩ = some (.int .i64 (one : Int)) ∧ w'.cell? ⟨wr.heap.size, 2, none⟩ = some (.int .i64 y2) ∧ w'.cell? ⟨wr.heap.size, 4, none⟩ = some (.string x))) := fun W F' h =>
                          (h.o2.write (fun m hm => by have := AP.out.qe m hm; omega) (one : Int) y2 (secB x)).mono fun e' w' ⟨h1, h2, h3⟩ => ⟨h1, ⟨_, h.right h2 h3⟩, SF (h.right h2 h3)⟩
                        have hB := hid (TX.out.below (Below.refl X.heap.size X).drew)
                        have hS := SF TX.out
                        have HX := hid hX
                        generalize Dk.writeE _ (one : Int) y2 (secB x) = fE at *
                        generalize secB x = sx at *
                        clear hX TT TX SF eqE AP
                        have AP := hid ap2
                        clear ap2
                        go_wp2_with fail
                        rw [← HX.out]
                        go_region_held3 (fun w' => w'.cell? ⟨wr.heap.size, 1, none⟩ = some (.int .i64 (one : Int)) ∧ w'.cell? ⟨wr.heap.size, 2, none⟩ = some (.int .i64 y2) ∧ w'.cell? ⟨wr.heap.size, 4, none⟩ = some (.string x))
                          (first | exact hS | go_keep)
                          (first | (go_at_call 22; refine (CS.out _ _ _ _ _ hB.out).mono ?_; rintro e1 w4 ⟨rfl, hB, hS⟩) | (go_at_call 21; refine (CW.out _ hB.out).mono ?_; rintro e1 w5 ⟨rfl, ⟨F5, T5⟩, hS⟩))
                        have hB := hid (T5.out.below (Below.refl w5.heap.size w5).drew)
                        clear CW
                        go_wp2_with fail
                        go_region_held3 (fun w' => w'.cell? ⟨wr.heap.size, 1, none⟩ = some (.int .i64 (one : Int)) ∧ w'.cell? ⟨wr.heap.size, 2, none⟩ = some (.int .i64 y2) ∧ w'.cell? ⟨wr.heap.size, 4, none⟩ = some (.string x))
                          (first | exact hS | go_keep)
                          (first | (go_at_call 22; refine (CS.out _ _ _ _ _ hB.out).mono ?_; rintro e1 w6 ⟨rfl, hB, hS⟩) | (go_at_call 21; refine (CV.out _ _ hB.out).mono ?_; rintro e1 w7' ⟨rfl, ⟨G7, TT⟩, hS⟩))
                        clear CV CS T5
                        have AQ := AP.out
                        have CR1 := hid (TT.out.o1.read (fun m hm => by have := AQ.qd m hm; omega) (one : Int) y2)
                        have CR2 := hid (TT.out.o2.read (fun m hm => by have := AQ.qe m hm; omega) (one : Int) y2)
                        have CI1 := hid (TT.out.o1.image (one : Int))
                        have CI2 := hid (TT.out.o2.image (one : Int))
                        rw [(AQ.preW y2 x).2.1, (AQ.preW y2 x).2.2] at CR1
                        rw [AQ.image] at CI1
                        obtain ⟨cc0, cc1, cc2, cc4, cc5⟩ := TT.out.cells
                        have FINAL : Hid (∃ d e F G, Ap one (j + 1) d e ∧ One w w7' D d F ∧ One w w7' E e G ∧ ∀ b, F b → ¬ G b) := ⟨_, _, _, _, AP.out, TT.out.o1, TT.out.o2, TT.out.dis⟩
                        clear AQ
                        generalize Dk.readE _ (one : Int) y2 = rE at CR1 CR2
                        generalize Dk.readB _ (one : Int) y2 = rB at CR1 CR2
                        generalize Dk.image _ (one : Int) = iB at CI1 CI2
                        go_wp2_with fail
                        refine CR1.out.mono ?_
                        rintro e1 w7 ⟨rfl, rfl⟩
                        go_wp2_with fail
                        refine CR2.out.mono ?_
                        rintro e1 w7 ⟨rfl, rfl⟩
                        go_wp2_with fail
                        refine CI1.out.mono ?_
                        rintro e1 w7 ⟨rfl, rfl⟩
                        go_wp2_with fail
                        refine CI2.out.mono ?_
                        rintro e1 w7 ⟨rfl, rfl⟩
                        go_wp2
                        go_roundw
                        case rel => exact ⟨j + 1, by omega, by go_num, FINAL.out⟩
                        case measure => simp [intOf] <;> omega
                      · have hm' : (y1 == (one : Int)) = false := by simpa using hm
                        have ap2 := AP.out.writeL hm y2 (secB x)
                        obtain ⟨X, hX⟩ : ∃ X, X = wr.alloc (.cells #[.int .i64 y0, .int .i64 y1, .int .i64 y2, .int .i64 y3, .string x, .slice ka K.length kc] 33) := ⟨_, rfl⟩
                        have TX : Hid (Two w X D E d e F G wr.heap.size (.cells #[.int .i64 y0, .int .i64 y1, .int .i64 y2, .int .i64 y3, .string x, .slice ka K.length kc] 33)) := by rw [hX]; exact TT.out
                        have SF : ∀ {W : World} {d e : Dk} {F G : Nat → Prop}, Two w W D E d e F G wr.heap.size (.cells #[.int .i64 y0, .int .i64 y1, .int .i64 y2, .int .i64 y3, .string x, .slice ka K.length kc] 33) → W.cell? ⟨wr.heap.size, 1, none⟩ = some (.int .i64 y1) ∧ W.cell? ⟨wr.heap.size, 2, none⟩ = some (.int .i64 y2) ∧ W.cell? ⟨wr.heap.size, 4, none⟩ = some (.string x) := fun h => ⟨h.cells.2.1, h.cells.2.2.1, h.cells.2.2.2.1⟩
                        have CS : Hid (∀ W d e F G, Two w W D E d e F G wr.heap.size (.cells #[.int .i64 y0, .int .i64 y1, .int .i64 y2, .int .i64 y3, .string x, .slice ka K.length kc] 33) → Calls Try.prog 22 #[.string x] W fun e' w' => e' = .returned (.string (secB x)) ∧ Hid (Two w w' D E d e F G wr.heap.size (.cells #[.int .i64 y0, .int .i64 y1, .int .i64 y2, .int .i64 y3, .string x, .slice ka K.length kc] 33)) ∧ (w'.cell? ⟨wr.heap.size, 1, none⟩ = some (.int .i64 y1) ∧ w'.cell? ⟨wr.heap.size, 2, none⟩ = some (.int .i64 y2) ∧ w'.cell? ⟨wr.heap.size, 4, none⟩ = some (.string x))) := fun W d e F G h =>
                          (sector x W (by unfold maxLen; omega)).mono fun e' w' ⟨h1, h2⟩ => ⟨h1, h.below h2, SF (h.below h2)⟩
                        have CW : Hid (∀ W, Two w W D E d e F G wr.heap.size (.cells #[.int .i64 y0, .int .i64 y1, .int .i64 y2, .int .i64 y3, .string x, .slice ka K.length kc] 33) → Calls Try.prog 21 #[.pointer (some ⟨D, 0, none⟩), .int .i64 y1, .int .i64 y2, .string (secB x)] W fun e' w' => e' = .returned (.int .i64 (d.writeE y1 y2 (secB x))) ∧ (∃ F', Hid (Two w w' D E (d.write y1 y2 (secB x)) e F' G wr.heap.size (.cells #[.int .i64 y0, .int .i64 y1, .int .i64 y2, .int .i64 y3, .string x, .slice ka K.length kc] 33))) ∧ (w'.cell? ⟨wr.heap.size, 1, none⟩ = some (.int .i64 y1) ∧ w'.cell? ⟨wr.heap.size, 2, none⟩ = some (.int .i64 y2) ∧ w'.cell? ⟨wr.heap.size, 4, none⟩ = some (.string x))) := fun W h =>
                          (h.o1.write (fun m hm => by have := AP.out.qd m hm; omega) y1 y2 (secB x)).mono fun e' w' ⟨h1, h2, h3⟩ => ⟨by exact h1, ⟨_, h.left h2 h3⟩, SF (h.left h2 h3)⟩
                        have hB := hid (TX.out.below (Below.refl X.heap.size X).drew)
                        have hS := SF TX.out
                        have HX := hid hX
                        generalize Dk.writeE _ y1 y2 (secB x) = fE at *
                        generalize secB x = sx at *
                        clear hX TT TX SF  AP
                        have AP := hid ap2
                        clear ap2
                        go_wp2_with fail
                        rw [← HX.out]
                        go_region_held3 (fun w' => w'.cell? ⟨wr.heap.size, 1, none⟩ = some (.int .i64 y1) ∧ w'.cell? ⟨wr.heap.size, 2, none⟩ = some (.int .i64 y2) ∧ w'.cell? ⟨wr.heap.size, 4, none⟩ = some (.string x))
                          (first | exact hS | go_keep)
                          (first | (go_at_call 22; refine (CS.out _ _ _ _ _ hB.out).mono ?_; rintro e1 w4 ⟨rfl, hB, hS⟩) | (go_at_call 21; refine (CW.out _ hB.out).mono ?_; rintro e1 w5 ⟨rfl, ⟨F5, T5⟩, hS⟩))
                        clear CW
                        go_wp2_with fail
                        first | go_region | (go_quiet (fail))
                        have TT := hid (T5.out.below (Below.refl w5.heap.size w5).drew)
                        clear CS T5
                        have AQ := AP.out
                        have CR1 := hid (TT.out.o1.read (fun m hm => by have := AQ.qd m hm; omega) (one : Int) y2)
                        have CR2 := hid (TT.out.o2.read (fun m hm => by have := AQ.qe m hm; omega) (one : Int) y2)
                        have CI1 := hid (TT.out.o1.image (one : Int))
                        have CI2 := hid (TT.out.o2.image (one : Int))
                        rw [(AQ.preW y2 x).2.1, (AQ.preW y2 x).2.2] at CR1
                        rw [AQ.image] at CI1
                        obtain ⟨cc0, cc1, cc2, cc4, cc5⟩ := TT.out.cells
                        have FINAL : Hid (∃ d e F G, Ap one (j + 1) d e ∧ One w w5.drew D d F ∧ One w w5.drew E e G ∧ ∀ b, F b → ¬ G b) := ⟨_, _, _, _, AP.out, TT.out.o1, TT.out.o2, TT.out.dis⟩
                        clear AQ
                        generalize Dk.readE _ (one : Int) y2 = rE at CR1 CR2
                        generalize Dk.readB _ (one : Int) y2 = rB at CR1 CR2
                        generalize Dk.image _ (one : Int) = iB at CI1 CI2
                        go_wp2_with fail
                        refine CR1.out.mono ?_
                        rintro e1 w7 ⟨rfl, rfl⟩
                        go_wp2_with fail
                        refine CR2.out.mono ?_
                        rintro e1 w7 ⟨rfl, rfl⟩
                        go_wp2_with fail
                        refine CI1.out.mono ?_
                        rintro e1 w7 ⟨rfl, rfl⟩
                        go_wp2_with fail
                        refine CI2.out.mono ?_
                        rintro e1 w7 ⟨rfl, rfl⟩
                        go_wp2
                        go_roundw
                        case rel => exact ⟨j + 1, by omega, by go_num, FINAL.out⟩
                        case measure => simp [intOf] <;> omega
    · have hE : j = k := by omega
      subst hE
      have B := hid o1.bel
      clear ap o1 o2 dis
      go_wp2_with fail
      refine (wakes _).mono ?_
      rintro e1 w5 ⟨rfl, b5⟩
      have B5 := hid (B.out.trans (b5.mono B.out.size))
      clear b5 B
      go_wp2
      go_ret
      exact ⟨rfl, B5.out⟩

end Go.Proofs.Ytffhnkljmalbiaa.Wd
