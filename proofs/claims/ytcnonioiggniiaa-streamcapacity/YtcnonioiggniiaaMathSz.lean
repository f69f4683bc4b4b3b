/-
  Plain facts on streams over a plain disk, more: a new disk, losses of power, the power on again, and regions beside the one that a call is about. Nothing is asked but what each fact names.
-/
import Derived.Test.YtcnonioiggniiaaMathSy
namespace Go.Proofs.Ytcnonioiggniiaa.M

theorem set_nil (n : Nat) (y : Nat → ByteArray) (kp : Nat → Bool) : (Rg.mk n y []).set kp = ⟨n, y, []⟩ := rfl

/-- Nothing has been laid. -/
theorem hIs_no (half : Nat) : hIs noB half = false := by
  refine decide_eq_false fun c => ?_
  have e : hNum noB = 0 := by decide +kernel
  rw [e] at c
  exact absurd c.1 (by decide)
theorem hG_no : hG noB = 0 := by
  unfold hG
  rw [hIs_no, hIs_no]
  rfl
theorem pOk_no : pOk noB = false := by
  refine p_err ?_
  have e : pG noB = 0 := by decide +kernel
  intro c
  have hw : ¬ Wt (pG noB) (pI noB) := fun h => by
    have := h.1
    rw [e] at this
    omega
  rw [(m_arg hw).1] at c
  cases c
theorem bods_none : Bods ⟨#[]⟩ [] := bods_whole (L := []) fun b hb => by cases hb
theorem nw_none {y : Nat → ByteArray} : ∀ n, (∀ j, j < n → pOk (y j) = false) → nw y n = 0
  | 0, _ => rfl
  | n + 1, h => by rw [nw_no (h n (by omega))]; exact nw_none n fun j hj => h j (by omega)
theorem rest_no {d : Dk} {i n : Nat} (hl : Live d i n) (hn : 3 ≤ n ∧ n ≤ 4096) (hr : d.r i = ⟨n, fun _ => noB, []⟩) : Rest d i n [] 0 := by
  refine ⟨hl, hn, ⟨_, hr, ?_, ?_⟩, ?_⟩
  · unfold Recs dtOf
    rw [hG_no, if_neg (by decide)]
    exact bods_none
  · unfold gg
    rw [hG_no, nw_none (y := fun _ => noB) _ fun _ _ => pOk_no]
    decide
  · show 0 + 1 ≤ _
    omega

/-- The calls that are about the power alone. -/
theorem Rest.cut {d : Dk} {i n : Nat} {L : List ByteArray} {g : Int} (h : Rest d i n L g) (a m : Int) (K : List Int) : Rest (d.cut a m K) i n L g := ⟨⟨h.live.off, h.live.hi, h.live.n⟩, h.hn, h.r, h.cap⟩
theorem Rest.on {d : Dk} {i n : Nat} {L : List ByteArray} {g : Int} (h : Rest d i n L g) : Rest d.on i n L g := ⟨⟨rfl, h.live.hi, h.live.n⟩, h.hn, h.r, h.cap⟩
theorem On.cut {d : Dk} {s : Sm} {n : Nat} (h : On d s n) (a m : Int) (K : List Int) : On (d.cut a m K) s n := ⟨⟨h.live.off, h.live.hi, h.live.n⟩, h.hn, h.h, h.br, h.r⟩
theorem On.on {d : Dk} {s : Sm} {n : Nat} (h : On d s n) : On d.on s n := ⟨⟨rfl, h.live.hi, h.live.n⟩, h.hn, h.h, h.br, h.r⟩
theorem Rest.crash {d : Dk} {i n : Nat} {L : List ByteArray} {g : Int} (h : Rest d i n L g) (K : List Int) : Rest (d.crash K) i n L g ∧ (d.crash K).ask = none := by
  obtain ⟨y, h1, h2, h3⟩ := h.r
  have hr : (d.crash K).r i = ⟨n, y, []⟩ := by
    show (d.r i).set _ = _
    rw [h1]
    rfl
  exact ⟨⟨⟨rfl, h.live.hi, by rw [hr]⟩, h.hn, ⟨y, hr, h2, h3⟩, h.cap⟩, rfl⟩
theorem Down.crash {d : Dk} {i n : Nat} {L : List ByteArray} {g : Int} (h : Down d i n L g) (K : List Int) : Rest (d.crash K) i n L g ∧ (d.crash K).ask = none := by
  obtain ⟨y, h1, h2, h3⟩ := h.r
  have hr : (d.crash K).r i = ⟨n, y, []⟩ := by
    show (d.r i).set _ = _
    rw [h1]
    rfl
  exact ⟨⟨⟨rfl, h.hi, by rw [hr]⟩, h.hn, ⟨y, hr, h2, h3⟩, h.cap⟩, rfl⟩

/-- A region beside the one that a call was about. -/
theorem On.beside {d e : Dk} {s : Sm} {n : Nat} (h : On d s n) (off : e.off = false) (k : e.k = d.k) (r : e.r s.i = d.r s.i) : On e s n := by
  obtain ⟨y, h1, h2⟩ := h.r
  exact ⟨⟨off, by rw [k]; exact h.live.hi, by rw [r]; exact h.live.n⟩, h.hn, h.h, h.br, y, r.trans h1, h2⟩
theorem Rest.beside {d e : Dk} {i n : Nat} {L : List ByteArray} {g : Int} (h : Rest d i n L g) (off : e.off = false) (k : e.k = d.k) (r : e.r i = d.r i) : Rest e i n L g := by
  obtain ⟨y, h1, h2⟩ := h.r
  exact ⟨⟨off, by rw [k]; exact h.live.hi, by rw [r]; exact h.live.n⟩, h.hn, ⟨y, r.trans h1, h2⟩, h.cap⟩
theorem Rest.lost {d e : Dk} {i n : Nat} {L : List ByteArray} {g : Int} (h : Rest d i n L g) (off : e.off = true) (ask : e.ask = none) (k : e.k = d.k) {kp : Nat → Bool} (r : e.r i = (d.r i).set kp) : Down e i n L g := by
  obtain ⟨y, h1, h2, h3⟩ := h.r
  exact ⟨off, ask, by rw [k]; exact h.live.hi, h.hn, ⟨y, by rw [r, h1]; rfl, h2, h3⟩, h.cap⟩

/-- Whatever lies in a region that waits for nothing, it is opened, or it is too full. -/
theorem open_any {d : Dk} {i n : Nat} {y : Nat → ByteArray} (hl : Live d i n) (hn : 3 ≤ n ∧ n ≤ 4096) (hr : d.r i = ⟨n, y, []⟩) (ha : d.ask = none) :
    (opX d (i : Int) = 12 ∧ opD d (i : Int) = d) ∨
    (opX d (i : Int) = 0 ∧ On (opD d (i : Int)) (opT d (i : Int)) n ∧ (opT d (i : Int)).i = i ∧ (opT d (i : Int)).L = opL d i ∧ (∀ j, j ≠ i → (opD d (i : Int)).r j = d.r j) ∧ (opD d (i : Int)).k = d.k ∧ (opD d (i : Int)).ask = none) := by
  have hy : opY d i = y := by
    unfold opY
    rw [hr]
    rfl
  have hN : (d.r i).n = n := hl.n
  have hS : opS d i = ⟨i, (n - 1) / 2, gg y ((n - 1) / 2), hH (y 0), [], false⟩ := by
    unfold opS
    rw [hy, hN]
  have hL : opL d i = recs (dtOf y ((n - 1) / 2)) := by
    unfold opL
    rw [hy, hN]
  have hsec : ¬ d.secs (i : Int) < 3 := by
    unfold Dk.secs
    rw [hl.has, if_pos rfl, Int.toNat_natCast, hN]
    omega
  have hoff : ¬ d.off = true := by rw [hl.off]; decide
  have eX : opX d (i : Int) = (opS d i).rX (opL d i) d := by
    unfold opX
    rw [if_neg hsec, if_neg hoff, Int.toNat_natCast]
  have eD : opD d (i : Int) = (opS d i).rD (opL d i) d := by
    unfold opD
    rw [if_neg hsec, if_neg hoff, Int.toNat_natCast]
  have eT : opT d (i : Int) = (opS d i).rS (opL d i) d := by
    unfold opT
    rw [Int.toNat_natCast]
  have hg0 : 0 ≤ gg y ((n - 1) / 2) := by
    unfold gg
    have := (hG_range (y 0)).1
    omega
  have hb := bods_recs (dtOf y ((n - 1) / 2))
  have hF : fE (opL d i) = 0 := by rw [hL]; exact fE_ok.2 (bods_fr hb).1
  have hE : (opS d i).rE (opL d i) = if 55 * (((n - 1) / 2 : Nat) : Int) - 1 < ((frs (opL d i)).size : Int) ∨ 281474976710655 ≤ gg y ((n - 1) / 2) then 12 else 0 := by
    rw [hS]
    unfold Sm.rE
    have hbf : ¬ (false = true) := by decide
    rw [if_neg hbf, if_pos hF]
  rw [eX, eD, eT]
  by_cases c : 55 * (((n - 1) / 2 : Nat) : Int) - 1 < ((frs (opL d i)).size : Int) ∨ 281474976710655 ≤ gg y ((n - 1) / 2)
  · rw [if_pos c] at hE
    left
    unfold Sm.rX Sm.rD
    rw [hE]
    exact ⟨rfl, rfl⟩
  · rw [if_neg c] at hE
    right
    have hrec : Recs y ((n - 1) / 2) (opL d i) := by rw [hL]; exact hb
    rw [hS] at hE ⊢
    rcases reset_on (s := ⟨i, (n - 1) / 2, gg y ((n - 1) / 2), hH (y 0), [], false⟩) hl hn rfl rfl hr rfl ⟨Int.le_refl _, hg0⟩ hrec (by simp only; omega) (opL d i) with ⟨c1, _⟩ | ⟨_, x, q, e, q2, q3, q4⟩ | ⟨_, x, q1, _⟩
    · exact absurd hE c1
    · exact ⟨x, q, by rw [e], by rw [e], q2, q3, q4 ha⟩
    · exact absurd ha q1

end Go.Proofs.Ytcnonioiggniiaa.M
