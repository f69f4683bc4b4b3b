/-
  The walk of the document's Reset: these records take the place of all, or the error that it names. Conditions: the stream and its disk lie in memory, as 'Sw' says; the records lie apart from them.
-/
import Derived.Test.YthmholgfnjpgbaaGreatDocB
import Derived.Test.YthmholgfnjpgbaaGreatSmI
import Derived.Test.YthmholgfnjpgbaaGreatSmC
import Derived.Deep.RegionLaw
namespace Go.Proofs.YthmholgfnjpgbaaGreat.Wdc
open Go.ChangeShapes Go.WideShapes Go.ChangeAt Go.RowKit Go.Proofs.YthmholgfnjpgbaaGreat.M Go.Proofs.YthmholgfnjpgbaaGreat.Wd Go.Proofs.YthmholgfnjpgbaaGreat.Wst

/-- The stream's row of records. -/
structure Row (w : World) (G : Nat → Prop) (T : Nat) (v : Value) (L : List ByteArray) : Prop where
  own : w.ownsRow 0 9 1 v L.length (rcv L)
  ap : ∀ b, v.ownBlock = some b → ¬ G b ∧ b ≠ T
/-- All that the document's stream owns. -/
def Gt (G : Nat → Prop) (T : Nat) (v : Value) : Nat → Prop := fun b => G b ∨ b = T ∨ v.ownBlock = some b
/-- What a call of the document's stream comes to. -/
def RcP (G : Nat → Prop) (T E : Nat) (v : Value) (s' : Sm) (X : Int) (Y : Dk) (w : World) (e : Ending) (w' : World) : Prop :=
  e = .returned (.int .i64 X) ∧ ∃ G' v', (∃ L', Wr.RkL w' E Y G' L') ∧ Rs w' T E s' G' v' ∧ Row w' G' T v' s'.L ∧ (∀ b, Gt G' T v' b → Gt G T v b ∨ w.heap.size ≤ b) ∧ Kept (Gt G T v) w w'
theorem Row.kept {w w' : World} {G G' : Nat → Prop} {T : Nat} {v : Value} {L : List ByteArray} (h : Row w G T v L) (hk : ∀ b, b < w.heap.size → v.ownBlock = some b → w'.heap[b]? = w.heap[b]?) (hG : ∀ b, G' b → G b ∨ w.heap.size ≤ b) : Row w' G' T v L := by
  refine ⟨?_, fun b hb => ⟨fun c => ?_, (h.ap b hb).2⟩⟩
  · obtain ⟨h1, h2 | ⟨g, cap, cur, q1, q2, q3, q4⟩⟩ := h.own
    · exact ⟨h1, .inl h2⟩
    · exact ⟨h1, .inr ⟨g, cap, cur, q1, q2, (hk g (blk_lt q3) (by rw [q1]; rfl)).trans q3, q4⟩⟩
  · rcases hG b c with c | c
    · exact (h.ap b hb).1 c
    · have := (h.own.lt b hb).2
      omega
/-- Nothing has turned but what was made. -/
theorem RcP.same {w w' : World} {T E : Nat} {s : Sm} {d : Dk} {G : Nat → Prop} {v : Value} {L : Wr.Lr} (h : Wr.RkL w E d G L) (hT : Rs w T E s G v) (hR : Row w G T v s.L) (b : Below w.heap.size w w') (X : Int) : RcP G T E v s X d w (.returned (.int .i64 X)) w' :=
  ⟨rfl, G, v, ⟨L, h.below b⟩, hT.below b, hR.kept (fun k hk _ => b.block k hk) (fun _ c => .inl c), fun _ c => .inl c, .of_below b⟩
/-- A call of the disk alone, and a store into the stream's last cell. -/
theorem rc_fail {w w1 : World} {T E : Nat} {s : Sm} {d : Dk} {G : Nat → Prop} {v : Value} {X : Int} {e : Ending} (hR : Row w G T v s.L) (h : LaP G T E s v X d w e w1) : RcP G T E v { s with br := true } X d w (.returned (.int .i64 X)) (w1.setCell ⟨T, 6, none⟩ (.bool true)) := by
  obtain ⟨_, ⟨L', h2⟩, h3, h4⟩ := h
  have hz : (w1.setCell ⟨T, 6, none⟩ (.bool true)).heap.size = w1.heap.size := by simp [World.setCell]
  have at2 := blk_set h3.at_ 6 (.bool true)
  refine ⟨rfl, Gr G w w1, v, ⟨L', h2.kept (by rw [hz]; exact Nat.le_refl _) fun b hb => Below.heap_setCell _ _ _ _ fun c => h3.nf (by have c : b = T := c; rw [← c]; exact hb)⟩, ⟨at2, h3.nf⟩, hR.kept (fun b hb e => ?_) (fun b c => c.imp id fun c => c.1), fun b c => ?_, ?_⟩
  · rw [Below.heap_setCell _ _ _ _ (show b ≠ T from (hR.ap b e).2)]
    exact h4.block b hb (hR.ap b e).1
  · rcases c with (c | c) | c | c
    · exact .inl (.inl c)
    · exact .inr c.1
    · exact .inl (.inr (.inl c))
    · exact .inl (.inr (.inr c))
  · have k2 : Kept (Gt G T v) w w1 := h4.mono fun i _ c => .inl c
    exact k2.setCell (.inr (.inl rfl)) _

/-- While the records are laid into the stream's list, t of them. -/
def Lp (w0 : World) (T E : Nat) (s2 : Sm) (l : List ByteArray) (t : Nat) (wr : World) : Prop :=
  ∃ a c, wr.ownsRow w0.heap.size 9 1 (.slice a t c) t (rcv (l.take t)) ∧ wr.heap[T]? = some (rst E s2 (.slice a t c)) ∧ Kept (fun b => b = T) w0 wr
theorem rcv_take (l : List ByteArray) {t : Nat} (h : t < l.length) : rcv (l.take (t + 1)) = rcv (l.take t) ++ [.string (nth l t)] := by
  rw [take_nth h]
  simp [rcv]
theorem lp_end {w0 wr w3 : World} {T E : Nat} {s2 : Sm} {l : List ByteArray} {t g cap cc : Nat} {a : Option Addr} {o : Obj} (ht : t < l.length) (hT0 : T < w0.heap.size) (own : wr.ownsRow w0.heap.size 9 1 (.slice a t cc) t (rcv (l.take t))) (hT : wr.heap[T]? = some (rst E s2 (.slice a t cc))) (hk : Kept (fun b => b = T) w0 wr) (own3 : w3.ownsRow w0.heap.size 9 1 (.slice (some ⟨g, 0, none⟩) (t + 1) cap) (t + 1) (rcv (l.take t) ++ [.string (nth l t)])) (gr3 : (wr.drew.alloc o).grownBy w3 (Value.slice a t cc).ownBlock) :
    (w3.cell? ⟨T, 5, none⟩ = some (.slice a t cc) ∧ w3.frozen? ⟨T, 5, none⟩ = false) ∧ Lp w0 T E s2 l (t + 1) (w3.setCell ⟨T, 5, none⟩ (.slice (some ⟨g, 0, none⟩) (t + 1) cap)) := by
  have bA : Below wr.heap.size wr (wr.drew.alloc o) := ((Below.refl wr.heap.size wr).drew).alloc (Nat.le_refl _) o
  have zA : (wr.drew.alloc o).heap.size = wr.heap.size + 1 := by simp
  have hTo : ¬ (Value.slice a t cc).ownBlock = some T := fun e => by have := (own.lt T e).1; omega
  have h3 : w3.heap[T]? = some (rst E s2 (.slice a t cc)) := by
    rw [gr3.block T (by rw [zA]; have := blk_lt hT; omega) (fun e => hTo e.symm), bA.block T (blk_lt hT)]
    exact hT
  have h4 : w3.heap[T]? = some (.cells (rcs E s2 (.slice a t cc)).toArray 55 (0, 0)) := h3
  refine ⟨⟨blk_cell h4 rfl, blk_free h4 5⟩, some ⟨g, 0, none⟩, cap, ?_, ?_, ?_⟩
  · rw [rcv_take l ht]
    refine own_keep own3 (Nat.le_refl _) fun b hb _ => Below.heap_setCell _ _ _ _ (show b ≠ T by omega)
  · exact blk_set h4 5 _
  · have k3 : Kept (fun b => b = T) w0 w3 := ⟨gr3.os.trans hk.os, gr3.tape.trans hk.tape, gr3.output.trans hk.output, by have := gr3.size; have := hk.size; omega, fun b hb hne => by
      rw [gr3.block b (by rw [zA]; have := hk.size; omega) (fun e => by have := (own.lt b e.symm).1; omega), bA.block b (by have := hk.size; omega)]
      exact hk.block b hb hne⟩
    exact k3.setCell rfl _
/-- All are laid. -/
theorem rc_done {w w0 wr : World} {T E : Nat} {s s2 : Sm} {d : Dk} {G : Nat → Prop} {v : Value} {e : Ending} {l : List ByteArray} (h : LaP G T E s v 0 d w e w0) (hp : Lp w0 T E s2 l l.length wr) (hl : s2.L = l) : RcP G T E v s2 0 d w (.returned (.int .i64 0)) wr := by
  obtain ⟨_, ⟨L', h2⟩, h3, h4⟩ := h
  obtain ⟨a, c, own, hT, hk⟩ := hp
  rw [List.take_length] at own
  have hz := hk.size
  refine ⟨rfl, Gr G w w0, _, ⟨L', h2.kept hz fun b hb => hk.block b (h2.lt b hb) fun c => h3.nf (by rw [← c]; exact hb)⟩, ⟨hT, h3.nf⟩, ⟨by rw [hl]; exact own_keep own (Nat.zero_le _) (fun _ _ _ => rfl), fun b hb => ?_⟩, fun b c => ?_, ?_⟩
  · have := (own.lt b hb).1
    exact ⟨fun c => by have := h2.lt b c; omega, by have := h3.lt; omega⟩
  · rcases c with (c | c) | c | c
    · exact .inl (.inl c)
    · exact .inr c.1
    · exact .inl (.inr (.inl c))
    · have := (own.lt b c).1
      exact .inr (by have := h4.size; omega)
  · refine ⟨hk.os.trans h4.os, hk.tape.trans h4.tape, hk.output.trans h4.output, by have := h4.size; omega, fun b hb c => ?_⟩
    rw [hk.block b (by have := h4.size; omega) (fun e => c (.inr (.inl e))), h4.block b hb fun e => c (.inl e)]
/-- Two lays, one behind the other. -/
theorem LaP.chain {w w1 w2 : World} {T E : Nat} {s : Sm} {d0 d : Dk} {G : Nat → Prop} {v : Value} {X0 X : Int} {e0 e : Ending} (h0 : LaP G T E s v X0 d0 w e0 w1) (h : LaP (Gr G w w1) T E s v X d w1 e w2) : LaP G T E s v X d w e w2 := by
  obtain ⟨a1, a2, a3, a4⟩ := h0
  obtain ⟨b1, b2, b3, b4⟩ := h
  have g : Gr (Gr G w w1) w1 w2 = Gr G w w2 := Gr.trans a4.size b4.size
  rw [g] at b2 b3
  exact ⟨b1, b2, b3, a4.trans b4⟩
theorem LaP.pull {w w1 w2 : World} {T E : Nat} {s : Sm} {d : Dk} {G : Nat → Prop} {v : Value} {X : Int} {e : Ending} (h : LaP G T E s v X d w1 e w2) (b : Below w.heap.size w w1) (hT : T < w.heap.size) : LaP G T E s v X d w e w2 := by
  obtain ⟨b1, ⟨L', b2⟩, b3, b4⟩ := h
  have gg : ∀ i, Gr G w1 w2 i → Gr G w w2 i := fun i c => c.imp id fun c => ⟨Nat.le_trans b.size c.1, c.2⟩
  refine ⟨b1, ⟨L', b2.more gg fun i c => ?_⟩, ⟨b3.at_, fun c => ?_⟩, (Kept.of_below (F := G) b).trans (b4.mono fun i _ c => .inl c)⟩
  · rcases c with c | c
    · exact b2.lt i (.inl c)
    · exact c.2
  · rcases c with c | c
    · exact b3.nf (.inl c)
    · omega

/-- The head's lay. -/
theorem second {w w1 w2 : World} {T E : Nat} {s : Sm} {d Y : Dk} {G : Nat → Prop} {v : Value} {e : Ending} {m : Nat} (h : LaP G T E s v 0 Y w e w1) (b : Below w1.heap.size w1 w2) (hm : Ms d m Y) (hq : ∀ j, j < d.k → (d.r j).q.length + m ≤ 1000000) (hh : s.h ≤ 2047) (x : ByteArray) :
    Calls Tryz.prog 45 #[.pointer (some ⟨T, 0, none⟩), .int .i64 0, .int .i64 (-1), .slice (some ⟨w2.heap.size, 0, none⟩) 1 1] (w2.alloc (.cells #[.string x] 9)) fun e w' => e = .returned (.int .i64 (layX s.i 0 (fun _ => x) 0 1 Y)) ∧ LaP G T E s v (layX s.i 0 (fun _ => x) 0 1 Y) (layD s.i 0 (fun _ => x) 0 1 Y) w e w' := by
  obtain ⟨q1, ⟨L', h2⟩, h3, h4⟩ := h
  have b2 := b.trans (((Below.refl w2.heap.size w2).alloc (Nat.le_refl _) (.cells #[.string x] 9)).mono b.size)
  have hl := h3.lt
  have hb := b.size
  refine (lay (h2.below b2) (h3.below b2) (fun j hj => ?_) 0 0 1 (-1) (by omega) hh (by omega) ⟨by omega, by omega⟩ (by omega) (some ⟨w2.heap.size, 0, none⟩) 1 (fun _ => x) (.inr ⟨w2.heap.size, 0, rfl, by simp, fun c => ?_, by omega, fun i hi => ?_⟩)).mono ?_
  · have := hm.q j
    rw [hm.k] at hj
    have := hq j hj
    omega
  · have := h2.lt _ c
    omega
  · have : i = 0 := by omega
    subst this
    exact blk_cell (l := [.string x]) (heap_alloc_last w2 _) rfl
  · rintro e' w' hw
    exact ⟨hw.1, LaP.chain (X0 := 0) (d0 := Y) (e0 := e) ⟨q1, ⟨L', h2⟩, h3, h4⟩ (hw.pull b2 hl)⟩

set_option maxRecDepth 100000 in
set_option maxHeartbeats 1600000 in
theorem reset {w : World} {T E : Nat} {s : Sm} {d : Dk} {G : Nat → Prop} {v : Value} {L : Wr.Lr} (h : Wr.RkL w E d G L) (hT : Rs w T E s G v) (hR : Row w G T v s.L) (hs : Sw d s) (hq : ∀ j, j < d.k → (d.r j).q.length ≤ 990000) (l : List ByteArray) (p : Option Addr) (cap : Nat) (hsz : ∀ b ∈ l, b.size ≤ maxLen) (hln : l.length ≤ 1048576) (hA : Ap w G T p l.length (nth l)) :
    Calls Tryz.prog 14 #[.pointer (some ⟨T, 0, none⟩), .slice p l.length cap] w fun e w' => RcP G T E v (s.rS l d) (s.rX l d) (s.rD l d) w e w' := by
  obtain ⟨i0, hi0, hz0, hz1, hz2⟩ := info_parts infoS
  have K : Hid (∀ W, Below w.heap.size w W → W.cell? ⟨T, 0, none⟩ = some (.pointer (some ⟨E, 0, none⟩)) ∧ W.cell? ⟨T, 2, none⟩ = some (.int .i64 (s.h : Int)) ∧ W.cell? ⟨T, 3, none⟩ = some (.int .i64 s.g) ∧ W.cell? ⟨T, 4, none⟩ = some (.int .i64 (s.half : Int))) := fun W hW => ⟨(hT.below hW).cell (i := 0) rfl, (hT.below hW).cell (i := 2) rfl, (hT.below hW).cell (i := 3) rfl, (hT.below hW).cell (i := 4) rfl⟩
  have k6 := hT.cell (i := 6) (u := .bool s.br) rfl
  have hLi : War.Lies w p l.length (nth l) := by
    rcases hA with h | ⟨b, off, q1, q2, _, _, q5⟩
    · exact .inl h
    · exact .inr ⟨b, off, q1, q2, q5⟩
  by_cases c0 : s.br = true
  · have hE : s.rE l = 13 := if_pos c0
    obtain ⟨e1, e2, e3⟩ := r_err (d := d) (show ¬ s.rE l = 0 by rw [hE]; decide)
    rw [e1, e2, e3, hE]
    rw [c0] at k6
    have RES := hid (RcP.same h hT hR (Below.refl _ _) 13)
    clear h hT hR hs e1 e2 e3 hE c0 hA hLi
    go_enter Tryz.func14, Tryz.ntmps14
    go_wp2
    go_ret
    exact RES.out
  · have hbr : s.br = false := by simpa using c0
    rw [hbr] at k6
    have CF := hid (frames l p cap w hsz hln hLi)
    have hn := (h.ok.r s.i hs.hi).n
    have hh : s.h ≤ 2047 := by rw [hs.h]; omega
    have hg := hs.g
    by_cases c1 : fE l = 0
    · rw [c1, fB_ok c1] at CF
      have hE : s.rE l = if 55 * (s.h : Int) - 1 < ((frs l).size : Int) ∨ 281474976710655 ≤ s.g then 12 else 0 := by unfold Sm.rE; rw [if_neg c0, if_pos c1]
      by_cases c2 : 55 * (s.h : Int) - 1 < ((frs l).size : Int) ∨ 281474976710655 ≤ s.g
      · rw [if_pos c2] at hE
        obtain ⟨e1, e2, e3⟩ := r_err (d := d) (show ¬ s.rE l = 0 by rw [hE]; decide)
        rw [e1, e2, e3, hE]
        have RES := hid fun W hW => RcP.same (w' := W) h hT hR hW 12
        clear h hT hR hs e1 e2 e3 hE c0 hA hLi c1
        generalize (frs l) = f at *
        rcases (show (s.h : Int) * 55 - 1 < (f.size : Int) ∨ (¬ (s.h : Int) * 55 - 1 < (f.size : Int) ∧ 281474976710655 ≤ s.g) by omega) with c3 | c3
        all_goals
          clear c2
          go_enter Tryz.func14, Tryz.ntmps14
          go_wp2_with fail
          refine CF.out.mono ?_
          rintro e w1 ⟨rfl, b1⟩
          have R := hid (RES.out w1 b1)
          obtain ⟨q0, q2, q3, q4⟩ := K.out w1 b1
          clear b1
          go_wp2
          go_ret
          exact R.out
      · rw [if_neg c2] at hE
        obtain ⟨va, vc, hv, _, _, _⟩ := War.own_lies hR.own (fun j hj => rcv_get hj)
        have HV := hid hv
        clear hv
        have hfit : (frs l).size + 1 ≤ 55 * s.h := by omega
        obtain ⟨X1, hX1⟩ : ∃ X, layX s.i (1 + (1 - s.half) * s.h) (rsC s.g l) 0 ((frs l).size / 55 + 1) d = X := ⟨_, rfl⟩
        obtain ⟨Y1, hY1⟩ : ∃ Y, layD s.i (1 + (1 - s.half) * s.h) (rsC s.g l) 0 ((frs l).size / 55 + 1) d = Y := ⟨_, rfl⟩
        obtain ⟨X2, hX2⟩ : ∃ X, layX s.i 0 (fun _ => hdS (s.g + 1) (1 - s.half)) 0 1 Y1 = X := ⟨_, rfl⟩
        obtain ⟨Y2, hY2⟩ : ∃ Y, layD s.i 0 (fun _ => hdS (s.g + 1) (1 - s.half)) 0 1 Y1 = Y := ⟨_, rfl⟩
        have hrX : s.rX l d = if X1 = 0 then X2 else X1 := by
          unfold Sm.rX
          rw [if_pos hE]
          unfold rsX
          rw [hX1, hY1, hX2]
        have hrD : s.rD l d = if X1 = 0 then Y2 else Y1 := by
          unfold Sm.rD
          rw [if_pos hE]
          unfold rsD
          rw [hX1, hY1, hY2]
        have hrS : s.rS l d = if s.rX l d = 0 then { s with g := s.g + 1, half := 1 - s.half, L := l } else { s with br := true } := if_pos hE
        have R1 : Hid (¬ X1 = 0 → s.rX l d = X1 ∧ s.rD l d = Y1 ∧ s.rS l d = { s with br := true }) := fun e => by
          rw [if_neg e] at hrX hrD
          exact ⟨hrX, hrD, by rw [hrS, hrX, if_neg e]⟩
        have R2 : Hid (X1 = 0 → ¬ X2 = 0 → s.rX l d = X2 ∧ s.rD l d = Y2 ∧ s.rS l d = { s with br := true }) := fun e e2 => by
          rw [if_pos e] at hrX hrD
          exact ⟨hrX, hrD, by rw [hrS, hrX, if_neg e2]⟩
        have R3 : Hid (X1 = 0 → X2 = 0 → s.rX l d = 0 ∧ s.rD l d = Y2 ∧ s.rS l d = { s with g := s.g + 1, half := 1 - s.half, L := l }) := fun e e2 => by
          rw [if_pos e] at hrX hrD
          exact ⟨by rw [hrX, e2], hrD, by rw [hrS, hrX, e2, if_pos rfl]⟩
        have hMs := Ms.lay s.i (1 + (1 - s.half) * s.h) (rsC s.g l) ((frs l).size / 55 + 1) 0 d
        rw [hY1] at hMs
        obtain ⟨m, hm⟩ : ∃ m, m = (frs l).size / 55 + 1 := ⟨_, rfl⟩
        have m5 : m ≤ 5000 := by omega
        have hhf := hs.half
        have SPL := hid fun W => War.splitRef (s.g + 1) 0 (frs l) W (by omega)
        have sOk : sE (s.g + 1) 0 (frs l) = 0 ∧ sN (s.g + 1) 0 (frs l) = (frs l).size / 55 + 1 := War.s_ok ⟨by omega, by omega, by omega, by omega⟩ (by omega)
        rw [sOk.1, sOk.2, ← hm] at SPL
        rw [← hm] at hX1 hY1
        have GET := hid fun j (hj : j < m) => spv_get (s.g + 1) 0 (frs l) (n := m) (j := j) hj
        generalize spv (s.g + 1) 0 (frs l) m = xs at SPL GET
        have glt := h.lt
        have tlt := hT.lt
        have OA := hid fun (V W : World) (u : Value) (hV : w.heap.size ≤ V.heap.size) (own : W.ownsRow V.heap.size 9 1 u m xs) => own_ap (S := T) (F := G) own GET.out (fun b hb => by have := glt b hb; omega) (by omega)
        have hmul : 1 + ((1 - s.half : Nat) : Int) * (s.h : Int) + 0 = ((1 + (1 - s.half) * s.h : Nat) : Int) := by
          rcases (by omega : s.half = 0 ∨ s.half = 1) with e | e <;> rw [e] <;> simp <;> omega
        have LAY : Hid (∀ (W : World) p cap, Below w.heap.size w W → Ap W G T p m (sp (s.g + 1) 0 (frs l)) → Calls Tryz.prog 45 #[.pointer (some ⟨T, 0, none⟩), .int .i64 (1 - (s.half : Int)), .int .i64 0, .slice p m cap] W fun e w' => e = .returned (.int .i64 X1) ∧ Hid (LaP G T E s v X1 Y1 w e w')) := fun W p cap hW hA => by
          have C := lay (h.below hW) (hT.below hW) (fun j hj => by have := hq j hj; omega) (1 - s.half) (1 + (1 - s.half) * s.h) m 0 (by omega) hh hmul ⟨by omega, by omega⟩ m5 p cap _ hA
          have e1 : sp (s.g + 1) 0 (frs l) = rsC s.g l := rfl
          rw [e1, hX1, hY1, show ((1 - s.half : Nat) : Int) = 1 - (s.half : Int) by omega] at C
          exact C.mono fun e w' hw => ⟨hw.1, hw.pull hW tlt⟩
        have HD : Hid (∀ w, Calls Tryz.prog 46 #[.int .i64 (s.g + 1), .int .i64 (1 - (s.half : Int))] w fun e w' => e = .returned (.string (hdS (s.g + 1) (1 - s.half))) ∧ Below w.heap.size w w') := fun w => by
          have C := head (s.g + 1) (1 - s.half) w (by omega) (by omega) (by omega)
          rw [show ((1 - s.half : Nat) : Int) = 1 - (s.half : Int) by omega] at C
          exact C
        have SND := hid fun (w1 w2 : World) e (hw : LaP G T E s v 0 Y1 w e w1) (b : Below w1.heap.size w1 w2) => second hw b hMs (fun j hj => by have := hq j hj; omega) hh (hdS (s.g + 1) (1 - s.half))
        rw [hX2, hY2] at SND
        have FAIL := hid fun X Y e w1 (hw : LaP G T E s v X Y w e w1) => rc_fail hR hw
        have CELLS : Hid (∀ w5 e, LaP G T E s v 0 Y2 w e w5 → ∀ t, t < l.length → ∃ b off, p = some ⟨b, off, none⟩ ∧ b ≠ T ∧ b < w5.heap.size ∧ w5.cell? ⟨b, off + t, none⟩ = some (.string (nth l t))) := fun w5 e hw t ht => by
          rcases hA with hA | ⟨b, off, q1, q2, q3, q4, q5⟩
          · omega
          · exact ⟨b, off, q1, q4, Nat.lt_of_lt_of_le q2 hw.2.2.2.size, (hw.2.2.2.cell (p := ⟨b, off + t, none⟩) q2 q3).trans (q5 t ht)⟩
        have hgg : s.g + 1 ≤ 281474976710655 := by omega
        have ch1 : ¬ (s.h : Int) * 55 - 1 < ((frs l).size : Int) := by omega
        clear h hT hR hs hE c0 hA hLi c1 c2 hX1 hY1 hX2 hY2 hrX hrD hrS hMs hm sOk hq hsz glt GET hmul
        generalize s.rX l d = AX at *
        generalize s.rD l d = AD at *
        generalize s.rS l d = AS at *
        generalize sp (s.g + 1) 0 (frs l) = spc at *
        generalize hdS (s.g + 1) (1 - s.half) = hd at *
        generalize frs l = f at *
        go_enter Tryz.func14, Tryz.ntmps14
        go_wp2_with fail
        refine CF.out.mono ?_
        rintro e w1 ⟨rfl, b1⟩
        obtain ⟨q0, q2, q3, q4⟩ := K.out w1 b1
        have SP1 := hid (SPL.out w1)
        have B1 := hid b1
        clear b1 SPL CF K
        go_wp2_with fail
        refine SP1.out.mono ?_
        rintro e w2 ⟨u, rfl, own, b2⟩
        obtain ⟨p2, cap2, rfl, _, _, hA2⟩ := OA.out w1 w2 u B1.out.size own
        have LY := hid (LAY.out w2 p2 cap2 (B1.out.trans (b2.mono B1.out.size)) hA2)
        clear own hA2 b2 OA LAY SP1 q0 q2 q3 q4
        go_wp2_with fail
        refine LY.out.mono ?_
        rintro e w3 ⟨rfl, hB⟩
        clear LY
        by_cases cX : X1 = 0
        · subst cX
          have t3 := hB.out.2.2.1.cell (i := 3) (u := .int .i64 s.g) rfl
          go_wp2_with fail
          refine (HD.out _).mono ?_
          rintro e w4 ⟨rfl, b4⟩
          have SN := hid (SND.out w3 w4 _ hB.out b4)
          clear b4 t3 HD SND hB
          go_wp2_with fail
          refine SN.out.mono ?_
          rintro e w5 ⟨rfl, hC⟩
          have HC := hid hC
          clear hC SN
          by_cases cX2 : X2 = 0
          · subst cX2
            have RR := hid (R3.out (by trivial) (by trivial))
            have c3 := HC.out.2.2.1.cell (i := 3) (u := .int .i64 s.g) rfl
            have c4 := HC.out.2.2.1.cell (i := 4) (u := .int .i64 (s.half : Int)) rfl
            have c5 : w5.cell? ⟨T, 5, none⟩ = some (.slice va s.L.length vc) := by rw [← HV.out]; exact HC.out.2.2.1.cell (i := 5) rfl
            have ff := HC.out.2.2.1.free
            have tl5 := HC.out.2.2.1.lt
            have CE := hid (CELLS.out w5 _ HC.out)
            obtain ⟨s2, hs2⟩ : ∃ s2 : Sm, s2 = { s with g := s.g + 1, half := 1 - s.half, L := l } := ⟨_, rfl⟩
            rw [← hs2] at RR
            have START : Hid (Lp w5 T E s2 l 0 (((w5.setCell ⟨T, 3, none⟩ (.int .i64 (s.g + 1))).setCell ⟨T, 4, none⟩ (.int .i64 (1 - (s.half : Int)))).setCell ⟨T, 5, none⟩ (.slice none 0 0))) := by
              have a1 : w5.heap[T]? = some (.cells (rcs E s v).toArray 55 (0, 0)) := HC.out.2.2.1.at_
              have a3 := blk_set (blk_set (blk_set a1 3 (.int .i64 (s.g + 1))) 4 (.int .i64 (1 - (s.half : Int)))) 5 (.slice none 0 0)
              have b0 : Kept (fun b => b = T) w5 w5 := Kept.refl _ _
              have b1 := b0.setCell (p := ⟨T, 3, none⟩) (show T = T from rfl) (.int .i64 (s.g + 1))
              have b2 := b1.setCell (p := ⟨T, 4, none⟩) (show T = T from rfl) (.int .i64 (1 - (s.half : Int)))
              have b3 := b2.setCell (p := ⟨T, 5, none⟩) (show T = T from rfl) (.slice none 0 0)
              refine ⟨none, 0, World.ownsRow_nil _ _ _ _, ?_, b3⟩
              rw [a3, hs2]
              show some (Obj.cells [_, _, _, _, Value.int .i64 (1 - (s.half : Int)), _, _].toArray _ _) = some (Obj.cells [_, _, _, _, Value.int .i64 ((1 - s.half : Nat) : Int), _, _].toArray _ _)
              rw [show ((1 - s.half : Nat) : Int) = 1 - (s.half : Int) by omega]
            have HS2 : Hid (s2.L = l) := by
              show _ = _
              rw [hs2]
            have FIN := hid fun wr (hp : Lp w5 T E s2 l l.length wr) => rc_done HC.out hp HS2.out
            clear hs2 HC CELLS
            go_wp2
            go_loopw [11] (fun tv wr => ∃ t : Nat, t ≤ l.length ∧ tv = .int .i64 (t : Int) ∧ Lp w5 T E s2 l t wr) (fun tv _ => l.length - (intOf tv).toNat)
            case atStart => exact ⟨0, Nat.zero_le _, rfl, START.out⟩
            case round =>
              clear START
              obtain ⟨t, ht, rfl, hp⟩ := hrel
              by_cases htl : t < l.length
              · obtain ⟨a, cc, own, hTt, hk⟩ := hp
                obtain ⟨b, off, hpb, hbT, hbl, hcl⟩ := CE.out t htl
                have r1 : wr.cell? ⟨b, off + t, none⟩ = some (.string (nth l t)) := (hk.cell (p := ⟨b, off + t, none⟩) hbl hbT).trans hcl
                subst hpb
                have hTt' : wr.heap[T]? = some (.cells (rcs E s2 (.slice a t cc)).toArray 55 (0, 0)) := hTt
                have r3 := blk_cell hTt' (i := 5) (v := .slice a t cc) rfl
                have r4 : ∀ o, (wr.alloc o).cell? ⟨T, 5, none⟩ = some (.slice a t cc) := fun o => (World.cell?_of_block (w := wr) (Below.heap_alloc wr o T (blk_lt hTt))).trans r3
                have OW : Hid (∀ o, (wr.drew.alloc o).ownsRow w5.heap.size 9 1 (.slice a t cc) t (rcv (l.take t))) := fun o => World.ownsRow.alloc (w := wr.drew) own o
                have FI := hid fun (w3 : World) (g cap : Nat) (o : Obj) own3 gr3 => lp_end (w3 := w3) (o := o) (g := g) (cap := cap) htl tl5 own hTt hk own3 gr3
                have hszk := hk.size
                clear own hTt hTt' hk hcl CE FIN c3 c4 c5
                generalize nth l t = x at *
                go_wp2_with fail
                go_region_law (refine step_append_lies _ rfl (.tmp 103) (.tmp 108) 31 rfl w5.heap.size 9 i0 (.string ⟨#[]⟩) 1 16 Tryz.underlying31 hi0 hz0 hz1 hz2 rfl (by decide) _ _ _ rfl (OW.out _) ⟨wr.heap.size, 0, none⟩ 1 1 [.string x] rfl rfl (World.news_of_block (heap_alloc_last wr.drew _)) (by intro u hu; simp at hu; subst hu; rfl) (by decide) (by unfold maxLen; omega) (by omega) (by show _ ≤ (World.alloc _ _).heap.size; simp; omega) (wr.heap.size + 1) (by simp) ?_; intro g cap w3 own3 gr3 hg3 hlt3; obtain ⟨⟨f1, f2⟩, f3⟩ := FI.out w3 g cap _ own3 gr3; have F3 := hid f3; clear f3 own3 gr3 hg3 hlt3)
                all_goals try go_wp2
                all_goals go_roundw
                all_goals first | exact ⟨t + 1, by omega, by go_num, F3.out⟩ | (simp [intOf] <;> omega)
              · have hE2 : t = l.length := by omega
                have FN := hid (FIN.out wr (by rw [← hE2]; exact hp))
                clear hp
                go_wp2
                go_ret
                rw [RR.out.1, RR.out.2.1, RR.out.2.2]
                exact FN.out
          · have RR := hid (R2.out (by trivial) cX2)
            have cb : (X2 == 0) = false := by simpa using cX2
            have f6 := HC.out.2.2.1.free 6
            have c6 := HC.out.2.2.1.cell (i := 6) (u := .bool s.br) rfl
            have EN := hid (FAIL.out X2 Y2 _ w5 HC.out)
            clear HC
            go_wp2
            go_ret
            rw [RR.out.1, RR.out.2.1, RR.out.2.2]
            exact EN.out
        · have RR := hid (R1.out cX)
          have cb : (X1 == 0) = false := by simpa using cX
          have f6 := hB.out.2.2.1.free 6
          have c6 := hB.out.2.2.1.cell (i := 6) (u := .bool s.br) rfl
          have EN := hid (FAIL.out X1 Y1 _ w3 hB.out)
          clear hB
          go_wp2
          go_ret
          rw [RR.out.1, RR.out.2.1, RR.out.2.2]
          exact EN.out
    · have hE : s.rE l = fE l := by unfold Sm.rE; rw [if_neg c0, if_neg c1]
      obtain ⟨e1, e2, e3⟩ := r_err (d := d) (show ¬ s.rE l = 0 by rw [hE]; exact c1)
      rw [e1, e2, e3, hE]
      have RES := hid fun W hW => RcP.same (w' := W) h hT hR hW (fE l)
      have cb : (fE l == 0) = false := by simpa using c1
      clear h hT hR hs e1 e2 e3 hE c0 c1 hA hLi
      generalize fE l = X at *
      generalize fB l = f at *
      go_enter Tryz.func14, Tryz.ntmps14
      go_wp2_with fail
      refine CF.out.mono ?_
      rintro e w1 ⟨rfl, b1⟩
      have R := hid (RES.out w1 b1)
      clear b1
      go_wp2
      go_ret
      exact R.out

end Go.Proofs.YthmholgfnjpgbaaGreat.Wdc
