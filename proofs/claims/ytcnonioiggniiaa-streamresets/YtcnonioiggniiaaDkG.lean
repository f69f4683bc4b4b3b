/-
  The walks of keptBy and lose: a loss of power settles every region by the numbers' bits.
-/
import Derived.Test.YtcnonioiggniiaaDkF
namespace Go.Proofs.Ytcnonioiggniiaa.Wd
open Go.ChangeShapes Go.WideShapes Go.ChangeAt Go.RowKit Go.Proofs.Ytcnonioiggniiaa.M

theorem K64.get {K : List Int} (h : K64 K) {i : Nat} (hi : i < K.length) : 0 ≤ K.getD i 0 ∧ K.getD i 0 < 18446744073709551616 := by
  rw [List.getD_eq_getElem?_getD, List.getElem?_eq_getElem hi]
  exact h _ (List.getElem_mem hi)

set_option maxRecDepth 100000 in
theorem keptBy {w : World} {K : List Int} {ao : Option Addr} {c i : Nat} (hK : K64 K) (hc : i < K.length → ∃ b o, ao = some ⟨b, o, none⟩ ∧ w.cell? ⟨b, o + i, none⟩ = some (.int .u64 (K.getD i 0))) :
    Calls Try.prog 63 #[.slice ao K.length c, .int .i64 (i : Int)] w fun e w' => ∃ fv, e = .returned fv ∧ FV w' fv (kb K i) ∧ Below w.heap.size w w' := by
  by_cases hl : i < K.length
  · obtain ⟨b, o, rfl, c1⟩ := hc hl
    have hx := K64.get hK hl
    have hkb : Hid (∀ m, kb K i m = bitB (K.getD i 0) ((m % 64 : Nat) : Int)) := fun m => if_pos hl
    clear hc
    generalize K.getD i 0 = x at c1 hx hkb
    go_enter Try.func63, Try.ntmps63
    go_wp2
    go_ret
    refine ⟨_, rfl, .inr (.inr ⟨w.heap.size, x, rfl, ?_, hx.1, hx.2, hkb.out⟩), (Below.refl _ _).alloc (Nat.le_refl _) _⟩
    exact heap_alloc_last w _
  · have hkb : Hid (∀ m, kb K i m = false) := fun m => if_neg hl
    clear hc
    go_enter Try.func63, Try.ntmps63
    go_wp2
    go_ret
    exact ⟨_, rfl, .inr (.inl ⟨rfl, hkb.out⟩), Below.refl _ _⟩

/-- The first i regions settled. -/
def lk (d : Dk) (K : List Int) (i : Nat) : Dk := { d with r := fun j => if j < i then (d.r j).set (kb K j) else d.r j }
theorem lk_zero (d : Dk) (K : List Int) : lk d K 0 = d := by
  unfold lk
  cases d
  simp
theorem lk_r {d : Dk} {K : List Int} {i : Nat} : (lk d K i).r i = d.r i := by show (if i < i then _ else _) = _; rw [if_neg (by omega)]
theorem lk_succ (d : Dk) (K : List Int) (i : Nat) : (lk d K i).at i (((lk d K i).r i).set (kb K i)) = lk d K (i + 1) := by
  rw [lk_r]
  unfold lk Dk.at
  simp only
  congr 1
  funext j
  unfold upd
  show (if j = i then _ else if j < i then _ else _) = _
  by_cases c : j = i
  · subst c
    rw [if_pos rfl, if_pos (by omega)]
  · rw [if_neg c]
    by_cases c2 : j < i
    · rw [if_pos c2, if_pos (by omega)]
    · rw [if_neg c2, if_neg (by omega)]

theorem DkL.congr {w : World} {D : Nat} {d d' : Dk} {F : Nat → Prop} {L : Ly} (h : DkL w D d F L) (hk : d'.k = d.k) (ho : d'.off = d.off) (ha : d'.ask = d.ask) (hr : ∀ j, j < d.k → d'.r j = d.r j) : DkL w D d' F L where
  dk := by rw [hk, ho, ha]; exact h.dk
  rows := fun hp => by
    rw [hk] at hp ⊢
    obtain ⟨l, h1, h2, h3, h4⟩ := h.rows hp
    exact ⟨l, h1, h2, h3, fun i hi => by rw [hr i hi]; exact h4 i hi⟩
  lb := fun i hi => by rw [hk] at hi; rw [hr i hi]; exact h.lb i hi
  qb := fun i hi => by rw [hk] at hi; rw [hr i hi]; exact h.qb i hi
  injl := fun i j hi hj => by rw [hk] at hi hj; exact h.injl i j hi hj
  injq := fun i j hi hj => by rw [hk] at hi hj; rw [hr i hi, hr j hj]; exact h.injq i j hi hj
  kr := by rw [ha]; exact h.kr
  ownD := h.ownD
  ownR := fun hp => by rw [hk] at hp; exact h.ownR hp
  ownl := fun i hi => by rw [hk] at hi; exact h.ownl i hi
  ownq := fun i hi => by rw [hk] at hi; rw [hr i hi]; exact h.ownq i hi
  lt := h.lt
  ok := ⟨by rw [hk]; exact h.ok.k, fun i hi => by rw [hk] at hi; rw [hr i hi]; exact h.ok.r i hi, fun a l K e => by rw [ha] at e; rw [hk]; exact h.ok.ask a l K e⟩

theorem DkL.below {w w1 : World} {D : Nat} {d : Dk} {F : Nat → Prop} {L : Ly} (h : DkL w D d F L) (b : Below w.heap.size w w1) : DkL w1 D d F L := h.kept b.size fun k hk => b.block k (h.lt k hk)
theorem DkL.grow {w0 w w1 : World} {D : Nat} {d : Dk} {F : Nat → Prop} {L : Ly} (h : DkL w D d (Gr F w0 w) L) (hs : w.heap.size ≤ w1.heap.size) (h1 : DkL w1 D d (Gr F w0 w) L) : DkL w1 D d (Gr F w0 w1) L :=
  h1.more (fun b hb => hb.imp id fun x => ⟨x.1, by omega⟩) fun b hb => by
    rcases hb with hb | hb
    · have := h.lt b (.inl hb); omega
    · exact hb.2

set_option maxRecDepth 100000 in
set_option maxHeartbeats 1600000 in
theorem lose {w : World} {D : Nat} {d : Dk} {F : Nat → Prop} {L : Ly} (h : DkL w D d F L) (hq : ∀ j, j < d.k → (d.r j).q.length ≤ 1048576) {K : List Int} {ao : Option Addr} (hK : KR F w ao K) (h64 : K64 K) (c : Nat) :
    Calls Try.prog 44 #[.pointer (some ⟨D, 0, none⟩), .slice ao K.length c] w fun e w' => e = .returned (.tuple #[]) ∧ DkL w' D (d.lose K) (Gr F w w') L ∧ Kept F w w' ∧ Nums w w' := by
  have hk8 := h.ok.k
  obtain ⟨c1, c2, c3⟩ := h.cD
  clear c2 c3
  go_enter Try.func44, Try.ntmps44
  go_wp2
  go_loopw [10] (fun iv wr => ∃ i : Nat, i ≤ d.k ∧ iv = .int .i64 (i : Int) ∧ DkL wr D (lk d K i) (Gr F w wr) L ∧ Kept F w wr ∧ Nums w wr) (fun iv _ => d.k - (intOf iv).toNat)
  case atStart => exact ⟨0, Nat.zero_le _, rfl, by rw [lk_zero, Gr.self]; exact h, Kept.refl _ _, Nums.refl _⟩
  case round =>
    obtain ⟨i, hi, rfl, hd, hkp, hnm⟩ := hrel
    by_cases hlt : i < d.k
    · have hci : ∀ W, Below wr.heap.size wr W → i < K.length → ∃ b o, ao = some ⟨b, o, none⟩ ∧ W.cell? ⟨b, o + i, none⟩ = some (.int .u64 (K.getD i 0)) := fun W hW hiK => by
        obtain ⟨b, o, e1, e2⟩ := (hK.step hkp hnm).cell hiK
        refine ⟨b, o, e1, ?_⟩
        have hb : b < wr.heap.size := by
          rcases hK.step hkp hnm with e | ⟨b', o', cs, T, fr, g1, g2, _⟩
          · rw [e] at hiK; simp at hiK
          · rw [e1] at g1
            simp at g1
            rw [g1.1]
            exact blk_lt g2
        rw [hW.cell (by exact hb)]
        exact e2
      have CK := hid (keptBy (w := wr.drew) (c := c) h64 (hci wr.drew (Below.refl _ _).drew))
      have r1 : wr.cell? ⟨D, 0, none⟩ = some (.slice (some ⟨L.R, 0, none⟩) d.k L.rc) := by
        have := hd.cD.1
        rw [show (lk d K i).k = d.k from rfl, pt_pos _ (by omega), cp_pos _ (by omega)] at this
        exact this
      have CS : Hid (∀ w1 fv, FV w1 fv (kb K i) → Below wr.heap.size wr w1 → Calls Try.prog 62 #[rp L i, fv] w1 fun e w' => e = .returned (.tuple #[]) ∧ DkL w' D (lk d K (i + 1)) (Gr F w w') L ∧ Kept F w w' ∧ Nums w w') := fun w1 fv hfv b1 => by
        have hd1 := hd.grow b1.size (hd.below b1)
        refine (settle hd1 (i := i) hlt (by rw [lk_r]; exact hq i hlt) hfv).mono ?_
        rintro e w2 ⟨rfl, g1, g2, g3, g4⟩
        rw [lk_succ] at g1
        refine ⟨rfl, ?_, ?_, hnm.trans ((Nums.of_below b1).trans g3)⟩
        · have : Gr F w w1 = Gr F w w2 := by unfold Gr; rw [g4]
          rw [← this]; exact g1
        · have e1 : Kept F w w1 := hkp.trans (.of_below b1)
          exact e1.trans g2
      have C2 : Hid (∀ W, Below wr.heap.size wr W → W.cell? ⟨D, 0, none⟩ = some (.slice (some ⟨L.R, 0, none⟩) d.k L.rc)) := fun W hW => (hW.cell (hd.lt D hd.ownD)).trans r1
      unfold rp at CS
      clear hci hd hkp hnm
      go_wp2_with fail
      go_region_with (first | (go_at_call 63; refine CK.out.mono ?_; rintro e w1 ⟨fv, rfl, hfv, b0⟩; have b1 := (Below.refl wr.heap.size wr).drew.trans b0; have b2 := hid b1; have FV1 := hid hfv; have r2 := C2.out w1 b1; clear b0 b1 hfv) | (go_at_call 62; refine (CS.out _ _ FV1.out b2.out).mono ?_; rintro e w2 ⟨rfl, g1, g2, g3⟩; have GG := hid (And.intro g1 (And.intro g2 g3)); clear g1 g2 g3))
      all_goals try go_wp2
      all_goals go_roundw
      all_goals first | exact ⟨i + 1, by omega, by go_num, GG.out⟩ | (simp [intOf] <;> omega)
    · have hE : i = d.k := by omega
      subst hE
      have hP := hid (And.intro (hd.congr (d' := d.lose K) rfl rfl rfl (fun j hj => (if_pos hj).symm)) (And.intro hkp hnm))
      clear hd hkp hnm
      go_wp2
      go_end0
      exact ⟨rfl, hP.out⟩

end Go.Proofs.Ytcnonioiggniiaa.Wd
