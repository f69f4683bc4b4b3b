/-
  Plain facts on streams over a plain disk, more: the records of a text as a list ('recs'), a stream's calls as plain functions ('opX', 'opD', 'Sm.apX' ..), and what a region at rest ('Rest') becomes by them. Nothing is asked but what each fact names.
-/
import Derived.Test.YtcnonioiggniiaaMathSx
namespace Go.Proofs.Ytcnonioiggniiaa.M

/-- How many frames a text begins with. -/
def cntF (T : ByteArray) : Nat → Nat → Nat
  | 0, k => k
  | f + 1, k => if qE T (pl T k : Int) = 0 then cntF T f (k + 1) else k
theorem cntF_fst (T : ByteArray) : ∀ f k, Up T k → T.size < k + f + 1 → Fst T (cntF T f k)
  | 0, k, hu, hs => by
    have h := pl_le hu
    refine ⟨hu, fun c => ?_⟩
    have := q_place c
    show False
    have h3 : cntF T 0 k = k := rfl
    rw [h3] at c
    have := q_place c
    omega
  | f + 1, k, hu, hs => by
    by_cases c : qE T (pl T k : Int) = 0
    · have : cntF T (f + 1) k = cntF T f (k + 1) := if_pos c
      rw [this]
      exact cntF_fst T f (k + 1) (up_succ hu c) (by omega)
    · have : cntF T (f + 1) k = k := if_neg c
      rw [this]
      exact ⟨hu, c⟩
/-- The bodies of the frames that a text begins with. -/
def recs (T : ByteArray) : List ByteArray := (List.range (cntF T T.size 0)).map (bd T)
theorem recs_fst (T : ByteArray) : Fst T (cntF T T.size 0) := cntF_fst T T.size 0 (up_zero T) (by omega)
theorem recs_length (T : ByteArray) : (recs T).length = cntF T T.size 0 := by simp [recs]
theorem bods_recs (T : ByteArray) : Bods T (recs T) := by
  refine ⟨by rw [recs_length]; exact recs_fst T, fun i h => ?_⟩
  simp [recs]
theorem recs_eq {T : ByteArray} {L : List ByteArray} (h : Bods T L) : recs T = L := bods_one (bods_recs T) h

theorem bd_n2 {T : ByteArray} {k : Nat} (h : qE T (pl T k : Int) = 0) : (bd T k).size = n2 T (pl T k) ∧ 1 ≤ n2 T (pl T k) ∧ n2 T (pl T k) ≤ 4096 := by
  obtain ⟨h1, h2, h3, _⟩ := q_place h
  refine ⟨?_, h1, h2⟩
  unfold bd bod
  rw [ByteArray.size_extract]
  omega
theorem bods_fr {T : ByteArray} {L : List ByteArray} (h : Bods T L) : Framable L ∧ (frs L).size ≤ T.size := by
  have hsz : ∀ i (hi : i < L.length), (L[i]).size = n2 T (pl T i) ∧ 1 ≤ n2 T (pl T i) ∧ n2 T (pl T i) ≤ 4096 := fun i hi => by
    rw [← h.2 i hi]
    exact bd_n2 (h.1.1 i hi)
  have hf : Framable L := fun b hb => by
    obtain ⟨i, hi, e⟩ := List.getElem_of_mem hb
    have := hsz i hi
    rw [e] at this
    omega
  refine ⟨hf, ?_⟩
  have key : ∀ k, k ≤ L.length → (frs (L.take k)).size = pl T k := by
    intro k
    induction k with
    | zero => intro _; rfl
    | succ k ih =>
      intro hk
      rw [List.take_succ_eq_append_getElem (by omega), frs_snoc, size_app, fr_size, ih (by omega), (hsz k (by omega)).1]
      show _ = pl T k + 6 + n2 T (pl T k)
      omega
  have := key L.length (Nat.le_refl _)
  rw [List.take_length] at this
  rw [this]
  exact (pl_le h.1.1).1

/-- A stream: its region, how many sectors a half has, its generation, its half, its records, whether it had an error of the disk. -/
structure Sm where
  i : Nat
  h : Nat
  g : Int
  half : Nat
  L : List ByteArray
  br : Bool

/-- The error of the first body that has one. -/
def fE : List ByteArray → Int
  | [] => 0
  | b :: l => if frE b = 0 then fE l else frE b
theorem frE_ok {b : ByteArray} : frE b = 0 ↔ 1 ≤ b.size ∧ b.size ≤ 4096 := by
  unfold frE
  by_cases c0 : b.size = 0
  · rw [if_pos c0]; constructor
    · intro h; cases h
    · omega
  · rw [if_neg c0]
    by_cases c1 : 4096 < b.size
    · rw [if_pos c1]; constructor
      · intro h; cases h
      · omega
    · rw [if_neg c1]; constructor
      · intro _; omega
      · intro _; rfl
theorem fE_ok : ∀ {l : List ByteArray}, fE l = 0 ↔ Framable l
  | [] => ⟨fun _ b hb => (by cases hb), fun _ => rfl⟩
  | b :: l => by
    have ih := fE_ok (l := l)
    show (if frE b = 0 then fE l else frE b) = 0 ↔ _
    by_cases c : frE b = 0
    · rw [if_pos c, ih]
      constructor
      · intro h x hx
        rcases List.mem_cons.1 hx with rfl | hx
        · exact frE_ok.1 c
        · exact h x hx
      · exact fun h x hx => h x (List.mem_cons_of_mem _ hx)
    · rw [if_neg c]
      exact ⟨fun h => absurd h c, fun h => absurd (frE_ok.2 (h b (List.mem_cons_self ..))) c⟩

/-- Append. -/
def Sm.left (s : Sm) : Int := 55 * (s.h : Int) - 1 - ((frs s.L).size : Int)
def Sm.apE (s : Sm) (b : ByteArray) : Int := if s.br = true then 13 else if frE b = 0 then if s.left < ((fr b).size : Int) then 12 else 0 else frE b
def Sm.apX (s : Sm) (b : ByteArray) (d : Dk) : Int := if s.apE b = 0 then layX s.i (apA s.h s.half s.L) (apC s.g s.L b) 0 (apN s.L b) d else s.apE b
def Sm.apD (s : Sm) (b : ByteArray) (d : Dk) : Dk := if s.apE b = 0 then layD s.i (apA s.h s.half s.L) (apC s.g s.L b) 0 (apN s.L b) d else d
def Sm.apS (s : Sm) (b : ByteArray) (d : Dk) : Sm := if s.apE b = 0 then if s.apX b d = 0 then { s with L := s.L ++ [b] } else { s with br := true } else s
/-- Reset. -/
def Sm.rE (s : Sm) (l : List ByteArray) : Int := if s.br = true then 13 else if fE l = 0 then if 55 * (s.h : Int) - 1 < ((frs l).size : Int) ∨ 281474976710655 ≤ s.g then 12 else 0 else fE l
def Sm.rX (s : Sm) (l : List ByteArray) (d : Dk) : Int := if s.rE l = 0 then rsX s.i s.h s.g s.half l d else s.rE l
def Sm.rD (s : Sm) (l : List ByteArray) (d : Dk) : Dk := if s.rE l = 0 then rsD s.i s.h s.g s.half l d else d
def Sm.rS (s : Sm) (l : List ByteArray) (d : Dk) : Sm := if s.rE l = 0 then if s.rX l d = 0 then { s with g := s.g + 1, half := 1 - s.half, L := l } else { s with br := true } else s
/-- Open: what is read. -/
def opY (d : Dk) (i : Nat) : Nat → ByteArray := fun k => (d.r i).rd k
def opS (d : Dk) (i : Nat) : Sm := ⟨i, ((d.r i).n - 1) / 2, gg (opY d i) (((d.r i).n - 1) / 2), hH (opY d i 0), [], false⟩
def opL (d : Dk) (i : Nat) : List ByteArray := recs (dtOf (opY d i) (((d.r i).n - 1) / 2))
def opX (d : Dk) (a : Int) : Int := if d.secs a < 3 then 10 else if d.off = true then 11 else (opS d a.toNat).rX (opL d a.toNat) d
def opD (d : Dk) (a : Int) : Dk := if d.secs a < 3 then d else if d.off = true then d else (opS d a.toNat).rD (opL d a.toNat) d
/-- The stream that comes of it, if it goes well. -/
def opT (d : Dk) (a : Int) : Sm := (opS d a.toNat).rS (opL d a.toNat) d

/-- A region at rest, with these records, none of a greater generation. -/
structure Rest (d : Dk) (i n : Nat) (L : List ByteArray) (g : Int) : Prop where
  live : Live d i n
  hn : 3 ≤ n ∧ n ≤ 4096
  r : ∃ y, d.r i = ⟨n, y, []⟩ ∧ Recs y ((n - 1) / 2) L ∧ gg y ((n - 1) / 2) ≤ g
  cap : (frs L).size + 1 ≤ 55 * ((n - 1) / 2)
/-- A stream on its region. -/
structure On (d : Dk) (s : Sm) (n : Nat) : Prop where
  live : Live d s.i n
  hn : 3 ≤ n ∧ n ≤ 4096
  h : s.h = (n - 1) / 2
  br : s.br = false
  r : ∃ y, d.r s.i = ⟨n, y, []⟩ ∧ Gd y s.h s.g s.half s.L

theorem On.rest {d : Dk} {s : Sm} {n : Nat} (o : On d s n) : Rest d s.i n s.L s.g := by
  obtain ⟨y, hr, G⟩ := o.r
  refine ⟨o.live, o.hn, ⟨y, hr, ?_, ?_⟩, ?_⟩
  · rw [← o.h]; exact G.recs
  · rw [← o.h, G.gg]; exact Int.le_refl _
  · rw [← o.h]; exact G.cap

/-- The power is off; the region is at rest. -/
structure Down (d : Dk) (i n : Nat) (L : List ByteArray) (g : Int) : Prop where
  off : d.off = true
  ask : d.ask = none
  hi : i < d.k
  hn : 3 ≤ n ∧ n ≤ 4096
  r : ∃ y, d.r i = ⟨n, y, []⟩ ∧ Recs y ((n - 1) / 2) L ∧ gg y ((n - 1) / 2) ≤ g
  cap : (frs L).size + 1 ≤ 55 * ((n - 1) / 2)
theorem Down.on {d : Dk} {i n : Nat} {L : List ByteArray} {g : Int} (h : Down d i n L g) : Rest d.on i n L g ∧ d.on.ask = none := by
  obtain ⟨y, h1, h2, h3⟩ := h.r
  exact ⟨⟨⟨rfl, h.hi, by show (d.r i).n = n; rw [h1]⟩, h.hn, ⟨y, h1, h2, h3⟩, h.cap⟩, rfl⟩
theorem Rest.mono {d : Dk} {i n : Nat} {L : List ByteArray} {g g' : Int} (h : Rest d i n L g) (hg : g ≤ g') : Rest d i n L g' := by
  obtain ⟨y, h1, h2, h3⟩ := h.r
  exact ⟨h.live, h.hn, ⟨y, h1, h2, by omega⟩, h.cap⟩

/-- An Append, on a stream that is on its region. -/
theorem On.append {d : Dk} {s : Sm} {n : Nat} (o : On d s n) (b : ByteArray) :
    (s.apE b ≠ 0 ∧ s.apX b d = s.apE b ∧ s.apD b d = d ∧ s.apS b d = s) ∨
    (s.apE b = 0 ∧ s.apX b d = 0 ∧ On (s.apD b d) (s.apS b d) n ∧ s.apS b d = { s with L := s.L ++ [b] } ∧ (∀ j, j ≠ s.i → (s.apD b d).r j = d.r j) ∧ (s.apD b d).k = d.k ∧ (d.ask = none → (s.apD b d).ask = none)) ∨
    (s.apE b = 0 ∧ s.apX b d = 11 ∧ ¬ d.ask = none ∧ (Down (s.apD b d) s.i n s.L s.g ∨ Down (s.apD b d) s.i n (s.L ++ [b]) s.g) ∧ (s.apD b d).k = d.k ∧ ∃ K, ∀ j, j ≠ s.i → (s.apD b d).r j = (d.r j).set (kb K j)) := by
  by_cases c : s.apE b = 0
  · right
    have hX : s.apX b d = layX s.i (apA s.h s.half s.L) (apC s.g s.L b) 0 (apN s.L b) d := if_pos c
    have hD : s.apD b d = layD s.i (apA s.h s.half s.L) (apC s.g s.L b) 0 (apN s.L b) d := if_pos c
    have hS : s.apS b d = if s.apX b d = 0 then { s with L := s.L ++ [b] } else { s with br := true } := if_pos c
    obtain ⟨y, hr, G⟩ := o.r
    have hb : 1 ≤ b.size ∧ b.size ≤ 4096 := by
      unfold Sm.apE at c
      rw [o.br, if_neg (by decide)] at c
      by_cases c2 : frE b = 0
      · exact frE_ok.1 c2
      · rw [if_neg c2] at c; exact absurd c c2
    have hfit : (frs (s.L ++ [b])).size + 1 ≤ 55 * s.h := by
      unfold Sm.apE at c
      rw [o.br, if_neg (by decide), if_pos (frE_ok.2 hb)] at c
      by_cases c3 : s.left < ((fr b).size : Int)
      · rw [if_pos c3] at c; cases c
      · unfold Sm.left at c3
        rw [frs_snoc, size_app]
        omega
    have hn2 : 1 + 2 * s.h ≤ n := by rw [o.h]; have := o.hn; omega
    rcases append_out o.live hn2 hr G hb hfit with ⟨x, z, w, Gz⟩ | ⟨x, z, w, rr, gz⟩
    · left
      rw [← hX] at x
      rw [← hD] at w
      have hS' : s.apS b d = { s with L := s.L ++ [b] } := by rw [hS, if_pos x]
      refine ⟨c, x, ?_, hS', w.other, w.k, w.ask⟩
      rw [hS']
      exact ⟨w.live, o.hn, o.h, o.br, z, w.r, Gz⟩
    · right
      rw [← hX] at x
      rw [← hD] at w
      have hcap := G.cap
      refine ⟨c, x, w.had, ?_, w.k, w.other⟩
      have hi : s.i < (s.apD b d).k := by rw [w.k]; exact o.live.hi
      rcases rr with rr | rr
      · exact .inl ⟨w.off, w.ask, hi, o.hn, ⟨z, w.r, by rw [← o.h]; exact rr, by rw [← o.h, gz]; exact Int.le_refl _⟩, by rw [← o.h]; exact hcap⟩
      · exact .inr ⟨w.off, w.ask, hi, o.hn, ⟨z, w.r, by rw [← o.h]; exact rr, by rw [← o.h, gz]; exact Int.le_refl _⟩, by rw [← o.h]; exact hfit⟩
  · exact .inl ⟨c, if_neg c, if_neg c, if_neg c⟩

/-- A Reset, of a stream whose half and generation are its region's. -/
theorem reset_on {d : Dk} {s : Sm} {n : Nat} (hl : Live d s.i n) (hn : 3 ≤ n ∧ n ≤ 4096) (hh : s.h = (n - 1) / 2) (hbr : s.br = false) {y : Nat → ByteArray} (hr : d.r s.i = ⟨n, y, []⟩) (hf : hH (y 0) = s.half) (hg : gg y s.h ≤ s.g ∧ 0 ≤ s.g) {L0 : List ByteArray} (hrec : Recs y s.h L0) (hcap0 : (frs L0).size + 1 ≤ 55 * s.h) (l : List ByteArray) :
    (s.rE l ≠ 0 ∧ s.rX l d = s.rE l ∧ s.rD l d = d ∧ s.rS l d = s) ∨
    (s.rE l = 0 ∧ s.rX l d = 0 ∧ On (s.rD l d) (s.rS l d) n ∧ s.rS l d = { s with g := s.g + 1, half := 1 - s.half, L := l } ∧ (∀ j, j ≠ s.i → (s.rD l d).r j = d.r j) ∧ (s.rD l d).k = d.k ∧ (d.ask = none → (s.rD l d).ask = none)) ∨
    (s.rE l = 0 ∧ s.rX l d = 11 ∧ ¬ d.ask = none ∧ (Down (s.rD l d) s.i n L0 (s.g + 1) ∨ Down (s.rD l d) s.i n l (s.g + 1)) ∧ (s.rD l d).k = d.k ∧ ∃ K, ∀ j, j ≠ s.i → (s.rD l d).r j = (d.r j).set (kb K j)) := by
  by_cases c : s.rE l = 0
  · right
    have hX : s.rX l d = rsX s.i s.h s.g s.half l d := if_pos c
    have hD : s.rD l d = rsD s.i s.h s.g s.half l d := if_pos c
    have hS : s.rS l d = if s.rX l d = 0 then { s with g := s.g + 1, half := 1 - s.half, L := l } else { s with br := true } := if_pos c
    have c' := c
    unfold Sm.rE at c'
    rw [hbr, if_neg (by decide)] at c'
    have hF : fE l = 0 := by
      by_cases c2 : fE l = 0
      · exact c2
      · rw [if_neg c2] at c'; exact absurd c' c2
    rw [if_pos hF] at c'
    have hc3 : ¬ (55 * (s.h : Int) - 1 < ((frs l).size : Int) ∨ 281474976710655 ≤ s.g) := fun c3 => by
      rw [if_pos c3] at c'
      cases c'
    have hfit : (frs l).size + 1 ≤ 55 * s.h := by omega
    have hn2 : 1 + 2 * s.h ≤ n := by rw [hh]; omega
    rcases reset_out hl hn2 hr (by omega) hf hg.1 ⟨hg.2, by omega⟩ (fE_ok.1 hF) hfit with ⟨x, z, w, Gz⟩ | ⟨x, z, w, rr, gz⟩
    · left
      rw [← hX] at x
      rw [← hD] at w
      have hS' : s.rS l d = { s with g := s.g + 1, half := 1 - s.half, L := l } := by rw [hS, if_pos x]
      refine ⟨c, x, ?_, hS', w.other, w.k, w.ask⟩
      rw [hS']
      exact ⟨w.live, hn, hh, hbr, z, w.r, Gz⟩
    · right
      rw [← hX] at x
      rw [← hD] at w
      refine ⟨c, x, w.had, ?_, w.k, w.other⟩
      have hi : s.i < (s.rD l d).k := by rw [w.k]; exact hl.hi
      rcases rr with rr | rr
      · exact .inl ⟨w.off, w.ask, hi, hn, ⟨z, w.r, by rw [← hh]; unfold Recs; rw [rr]; exact hrec, by rw [← hh]; exact gz⟩, by rw [← hh]; exact hcap0⟩
      · exact .inr ⟨w.off, w.ask, hi, hn, ⟨z, w.r, by rw [← hh]; unfold Recs; rw [rr]; exact bods_whole (fE_ok.1 hF), by rw [← hh]; exact gz⟩, by rw [← hh]; exact hfit⟩
  · exact .inl ⟨c, if_neg c, if_neg c, if_neg c⟩

/-- A Reset of a stream that is on its region. -/
theorem On.reset {d : Dk} {s : Sm} {n : Nat} (o : On d s n) (l : List ByteArray) :
    (s.rE l ≠ 0 ∧ s.rX l d = s.rE l ∧ s.rD l d = d ∧ s.rS l d = s) ∨
    (s.rE l = 0 ∧ s.rX l d = 0 ∧ On (s.rD l d) (s.rS l d) n ∧ s.rS l d = { s with g := s.g + 1, half := 1 - s.half, L := l } ∧ (∀ j, j ≠ s.i → (s.rD l d).r j = d.r j) ∧ (s.rD l d).k = d.k ∧ (d.ask = none → (s.rD l d).ask = none)) ∨
    (s.rE l = 0 ∧ s.rX l d = 11 ∧ ¬ d.ask = none ∧ (Down (s.rD l d) s.i n s.L (s.g + 1) ∨ Down (s.rD l d) s.i n l (s.g + 1)) ∧ (s.rD l d).k = d.k ∧ ∃ K, ∀ j, j ≠ s.i → (s.rD l d).r j = (d.r j).set (kb K j)) := by
  obtain ⟨y, hr, G⟩ := o.r
  have h1 := G.g1
  exact reset_on o.live o.hn o.h o.br hr (by rw [G.head]; exact (head_back G.g1 G.hf).2) ⟨by rw [G.gg]; exact Int.le_refl _, by omega⟩ G.recs G.cap l

/-- A region at rest is opened. -/
theorem Rest.opens {d : Dk} {i n : Nat} {L : List ByteArray} {g : Int} (o : Rest d i n L g) (hg : g < 281474976710655) : opL d i = L ∧
    ((opX d (i : Int) = 0 ∧ On (opD d (i : Int)) (opT d (i : Int)) n ∧ (opT d (i : Int)).i = i ∧ (opT d (i : Int)).L = L ∧ (opT d (i : Int)).g ≤ g + 1 ∧ (∀ j, j ≠ i → (opD d (i : Int)).r j = d.r j) ∧ (opD d (i : Int)).k = d.k ∧ (d.ask = none → (opD d (i : Int)).ask = none)) ∨
    (opX d (i : Int) = 11 ∧ ¬ d.ask = none ∧ Down (opD d (i : Int)) i n L (g + 1) ∧ (opD d (i : Int)).k = d.k ∧ ∃ K, ∀ j, j ≠ i → (opD d (i : Int)).r j = (d.r j).set (kb K j))) := by
  obtain ⟨y, hr, hrec, hgy⟩ := o.r
  have hn := o.hn
  have hy : opY d i = y := by
    unfold opY
    rw [hr]
    rfl
  have hN : (d.r i).n = n := o.live.n
  have hL : opL d i = L := by
    unfold opL
    rw [hy, hN]
    exact recs_eq hrec
  have hS : opS d i = ⟨i, (n - 1) / 2, gg y ((n - 1) / 2), hH (y 0), [], false⟩ := by
    unfold opS
    rw [hy, hN]
  have hsec : ¬ d.secs (i : Int) < 3 := by
    unfold Dk.secs
    rw [o.live.has, if_pos rfl, Int.toNat_natCast, hN]
    omega
  have hoff : ¬ d.off = true := by rw [o.live.off]; decide
  have eX : opX d (i : Int) = (opS d i).rX L d := by
    unfold opX
    rw [if_neg hsec, if_neg hoff, Int.toNat_natCast, hL]
  have eD : opD d (i : Int) = (opS d i).rD L d := by
    unfold opD
    rw [if_neg hsec, if_neg hoff, Int.toNat_natCast, hL]
  have eT : opT d (i : Int) = (opS d i).rS L d := by
    unfold opT
    rw [Int.toNat_natCast, hL]
  have hg0 : 0 ≤ gg y ((n - 1) / 2) := by
    unfold gg
    have := (hG_range (y 0)).1
    omega
  have hE : (opS d i).rE L = 0 := by
    rw [hS]
    unfold Sm.rE
    have hF : fE L = 0 := fE_ok.2 (bods_fr hrec).1
    have hcap := o.cap
    have hb : ¬ (false = true) := by decide
    rw [if_neg hb, if_pos hF, if_neg]
    intro c
    simp only at c
    omega
  refine ⟨hL, ?_⟩
  rw [eX, eD, eT]
  rw [hS] at hE ⊢
  rcases reset_on (s := ⟨i, (n - 1) / 2, gg y ((n - 1) / 2), hH (y 0), [], false⟩) o.live hn rfl rfl hr rfl ⟨Int.le_refl _, hg0⟩ hrec o.cap L with ⟨c, _⟩ | ⟨_, x, q, e, q2, q3, q4⟩ | ⟨_, x, q1, q2, q3, q4⟩
  · exact absurd hE c
  · left
    refine ⟨x, q, ?_, ?_, ?_, q2, q3, q4⟩
    · rw [e]
    · rw [e]
    · rw [e]
      show gg y ((n - 1) / 2) + 1 ≤ g + 1
      omega
  · right
    refine ⟨x, q1, ?_, q3, q4⟩
    have hd : Down _ i n L (gg y ((n - 1) / 2) + 1) := q2.elim id id
    obtain ⟨z, z1, z2, z3⟩ := hd.r
    exact ⟨hd.off, hd.ask, hd.hi, hd.hn, ⟨z, z1, z2, by omega⟩, hd.cap⟩

end Go.Proofs.Ytcnonioiggniiaa.M
