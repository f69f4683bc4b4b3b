/-
  The walk of the document's Open: the stream of a region, and its records, or the error that it names. Conditions: the document's disk lies in memory, its queues are not too long.
-/
import Derived.Test.YthmholgfnjpgbaaGreatDocF
import Derived.Test.YthmholgfnjpgbaaGreatSmJ
namespace Go.Proofs.YthmholgfnjpgbaaGreat.Wdc
open Go.ChangeShapes Go.WideShapes Go.ChangeAt Go.RowKit Go.Proofs.YthmholgfnjpgbaaGreat.M Go.Proofs.YthmholgfnjpgbaaGreat.Wd Go.Proofs.YthmholgfnjpgbaaGreat.Wst

/-- What an Open of the document that goes well comes to. -/
def RoY (w : World) (E : Nat) (d : Dk) (G : Nat → Prop) (a : Int) (e : Ending) (w' : World) : Prop :=
  ∃ T v v0 G', e = .returned (.tuple #[.pointer (some ⟨T, 0, none⟩), v, .int .i64 0]) ∧ w.heap.size ≤ T ∧ (∃ L', Wr.RkL w' E (opD d a) G' L') ∧ Rs w' T E (opT d a) G' v0 ∧ Row w' G' T v0 (opT d a).L ∧ (∀ b, Gt G' T v0 b → G b ∨ w.heap.size ≤ b) ∧ Kept G w w' ∧ (w'.ownsRow w.heap.size 9 1 v (opL d a.toNat).length (rcv (opL d a.toNat)) ∧ ∀ b, v.ownBlock = some b → ¬ Gt G' T v0 b)
/-- What one that has an error comes to. -/
def RoN (w : World) (E : Nat) (d : Dk) (G : Nat → Prop) (a : Int) (e : Ending) (w' : World) : Prop :=
  e = .returned (.tuple #[.pointer none, .slice none 0 0, .int .i64 (opX d a)]) ∧ ∃ G', (∃ L', Wr.RkL w' E (opD d a) G' L') ∧ (∀ b, G' b → G b ∨ w.heap.size ≤ b) ∧ Kept G w w'
def RoP (w : World) (E : Nat) (d : Dk) (G : Nat → Prop) (a : Int) (e : Ending) (w' : World) : Prop := (opX d a = 0 ∧ RoY w E d G a e w') ∨ (¬ opX d a = 0 ∧ RoN w E d G a e w')

theorem RoN.same {w w' : World} {E : Nat} {d : Dk} {G : Nat → Prop} {L : Wr.Lr} (h : Wr.RkL w E d G L) (b : Below w.heap.size w w') {a X : Int} (hX : opX d a = X) (hD : opD d a = d) : RoN w E d G a (.returned (.tuple #[.pointer none, .slice none 0 0, .int .i64 X])) w' := by
  refine ⟨by rw [hX], G, ⟨L, ?_⟩, fun _ c => .inl c, .of_below b⟩
  rw [hD]
  exact h.below b

/-- A row that was made behind the document's disk and ahead of the stream. -/
theorem own_ap2 {w X : World} {base e k T : Nat} {v : Value} {xs : List Value} {f : Nat → ByteArray} {G : Nat → Prop} (h : w.ownsRow base e 1 v k xs) (hx : ∀ j, j < k → xs[j]? = some (.string (f j))) (hG : ∀ b, G b → b < base) (hb : Below w.heap.size w X) (hT : w.heap.size ≤ T) :
    ∃ a cap, v = .slice a k cap ∧ Ap X G T a k f := by
  obtain ⟨a, cap, h1, _, _, h4⟩ := War.own_lies h hx
  refine ⟨a, cap, h1, ?_⟩
  rcases h4 with h4 | ⟨b, off, h5, h6, h7⟩
  · exact .inl h4
  · have hl := h.lt b (by rw [h1, h5]; rfl)
    exact .inr ⟨b, off, h5, Nat.lt_of_lt_of_le h6 hb.size, fun e => by have := hG b e; omega, by omega, fun i hi => (hb.cell (by exact h6)).trans (h7 i hi)⟩

/-- The end of an Open. -/
theorem ro_end {w w2 X4 w' : World} {E T : Nat} {d : Dk} {G : Nat → Prop} {a : Int} {v : Value} {e : Ending} (hG : ∀ b, G b → b < w.heap.size) (b2 : Below w.heap.size w w2) (own : w2.ownsRow w.heap.size 9 1 v (opL d a.toNat).length (rcv (opL d a.toNat))) (b4 : Below w2.heap.size w2 X4) (hT1 : w2.heap.size ≤ T) (hT2 : T < X4.heap.size) (h : RcP G T E (.slice none 0 0) (opT d a) 0 (opD d a) X4 e w') :
    RoY w E d G a (.returned (.tuple #[.pointer (some ⟨T, 0, none⟩), v, .int .i64 0])) w' := by
  obtain ⟨_, G', v', h1, h2, h3, h4, h5⟩ := h
  have hz2 := b2.size
  have hz4 := b4.size
  have B4 : Below w.heap.size w X4 := b2.trans (b4.mono hz2)
  have gt : ∀ b, Gt G T (.slice none 0 0) b → G b ∨ b = T := fun b c => c.imp id fun c => c.elim id fun c => by simp [Value.ownBlock] at c
  refine ⟨T, v, v', G', rfl, by omega, h1, h2, h3, fun b c => ?_, ?_, ?_, fun b hb c => ?_⟩
  · rcases h4 b c with c | c
    · exact (gt b c).imp id fun c => by omega
    · exact .inr (by omega)
  · exact (Kept.of_below (F := G) B4).trans (h5.mono fun i _ hi => (gt i hi).imp id fun hi => by omega)
  · refine own_keep own (Nat.le_refl _) fun b hb1 hb2 => ?_
    rw [h5.block b (by omega) (fun c => (gt b c).elim (fun c => by have := hG b c; omega) fun c => by omega), b4.block b hb2]
  · have := own.lt b hb
    rcases h4 b c with c | c
    · exact (gt b c).elim (fun c => by have := hG b c; omega) fun c => by omega
    · omega
theorem ro_no {w X4 w' : World} {E T : Nat} {d : Dk} {G : Nat → Prop} {a X : Int} {e : Ending} {s' : Sm} (hX : opX d a = X) (B4 : Below w.heap.size w X4) (hT1 : w.heap.size ≤ T) (h : RcP G T E (.slice none 0 0) s' X (opD d a) X4 e w') :
    RoN w E d G a (.returned (.tuple #[.pointer none, .slice none 0 0, .int .i64 X])) w' := by
  obtain ⟨_, G', v', h1, _, _, h4, h5⟩ := h
  have hz4 := B4.size
  have gt : ∀ b, Gt G T (.slice none 0 0) b → G b ∨ b = T := fun b c => c.imp id fun c => c.elim id fun c => by simp [Value.ownBlock] at c
  refine ⟨by rw [hX], G', h1, fun b c => ?_, (Kept.of_below (F := G) B4).trans (h5.mono fun i _ hi => (gt i hi).imp id fun hi => by omega)⟩
  rcases h4 b (.inl c) with c | c
  · exact (gt b c).imp id fun c => by omega
  · exact .inr (by omega)

set_option maxRecDepth 100000 in
set_option maxHeartbeats 1000000 in
theorem open_ {w : World} {E : Nat} {d : Dk} {G : Nat → Prop} {L : Wr.Lr} (h : Wr.RkL w E d G L) (hq : ∀ j, j < d.k → (d.r j).q.length ≤ 990000) (a : Int) :
    Calls Tryz.prog 9 #[.pointer (some ⟨E, 0, none⟩), .int .i64 a] w fun e w' => RoP w E d G a e w' := by
  have C1 := hid (Wr.sectorsR h a)
  by_cases c1 : d.secs a < 3
  · have hX : opX d a = 10 := if_pos c1
    have hD : opD d a = d := if_pos c1
    have R : Hid (RoP w E d G a (.returned (.tuple #[.pointer none, .slice none 0 0, .int .i64 10])) w) := .inr ⟨by rw [hX]; decide, RoN.same h (Below.refl _ _) hX hD⟩
    have c1' : (d.secs a : Int) < 3 := by omega
    clear hX hD h hq c1
    generalize d.secs a = z at *
    go_enter Tryz.func9, Tryz.ntmps9
    go_wp2_with fail
    refine C1.out.mono ?_
    rintro e w1 ⟨rfl, rfl⟩
    go_wp2
    go_ret3
    exact R.out
  · have hhas : d.has a = true := by
      unfold Dk.secs at c1
      by_cases c : d.has a = true
      · exact c
      · rw [if_neg c] at c1
        omega
    obtain ⟨i, rfl, hi⟩ := has_nat hhas
    have hsec : d.secs (i : Int) = (d.r i).n := by
      unfold Dk.secs
      rw [if_pos hhas, Int.toNat_natCast]
    rw [hsec] at c1 C1
    have hn := (h.ok.r i hi).n
    have c1' : ¬ ((d.r i).n : Int) < 3 := by omega
    have hsc : ¬ d.secs (i : Int) < 3 := by rw [hsec]; exact c1
    have hdv : ((d.r i).n - 1 : Int) / 2 = ((((d.r i).n - 1) / 2 : Nat) : Int) := by omega
    have hdt : ((d.r i).n - 1 : Int).tdiv 2 = ((((d.r i).n - 1) / 2 : Nat) : Int) := by
      rw [Int.tdiv_eq_ediv_of_nonneg (by omega)]
      exact hdv
    by_cases c2 : d.off = true
    · have hX : opX d (i : Int) = 11 := by unfold opX; rw [if_neg hsc, if_pos c2]
      have hD : opD d (i : Int) = d := by unfold opD; rw [if_neg hsc, if_pos c2]
      have C2 := hid (recordsOff h (fun j hj => by have := hq j hj; omega) hi (by omega) c2)
      have R : Hid (∀ W, Below w.heap.size w W → RoP w E d G (i : Int) (.returned (.tuple #[.pointer none, .slice none 0 0, .int .i64 11])) W) := fun W hW => .inr ⟨by rw [hX]; decide, RoN.same h hW hX hD⟩
      clear hX hD h hq c1 c2 hsec hhas hsc
      generalize (d.r i).n = z at *
      go_enter Tryz.func9, Tryz.ntmps9
      go_wp2_with fail
      refine C1.out.mono ?_
      rintro e w1 ⟨rfl, rfl⟩
      go_wp2_with fail
      refine (C2.out _).mono ?_
      rintro e w1 ⟨rfl, b1⟩
      have R1 := hid (R.out w1 b1)
      go_wp2
      go_ret3
      exact R1.out
    · have off : d.off = false := by simpa using c2
      have hX : opX d (i : Int) = (opS d i).rX (opL d i) d := by unfold opX; rw [if_neg hsc, if_neg c2, Int.toNat_natCast]
      have hD : opD d (i : Int) = (opS d i).rD (opL d i) d := by unfold opD; rw [if_neg hsc, if_neg c2, Int.toNat_natCast]
      have hT : opT d (i : Int) = (opS d i).rS (opL d i) d := by unfold opT; rw [Int.toNat_natCast]
      have fit := opS_fit hi (show 3 ≤ (d.r i).n by omega)
      have C2 := hid (records h (fun j hj => by have := hq j hj; omega) hi (by omega) off)
      have hOL : opL d i = recs (dtOf (opY d i) (((d.r i).n - 1) / 2)) := rfl
      have GLT : Hid (∀ b, G b → b < w.heap.size) := h.lt
      have lsz : Hid (∀ b ∈ opL d i, b.size ≤ maxLen) := fun b hb => by
        rw [hOL] at hb
        have := rec_size hb
        unfold maxLen
        omega
      have lln : Hid ((opL d i).length ≤ 1048576) := by
        show _ ≤ _
        have h1 := recs_len (dtOf (opY d i) (((d.r i).n - 1) / 2))
        have h2 := dt_size (opY d i) (((d.r i).n - 1) / 2)
        rw [hOL]
        omega
      have hhh : (opS d i).h = ((d.r i).n - 1) / 2 := rfl
      obtain ⟨ob, hob⟩ : ∃ ob, ob = Obj.cells #[.pointer (some ⟨E, 0, none⟩), .int .i64 (i : Int), .int .i64 ((((d.r i).n - 1) / 2 : Nat) : Int), .int .i64 (opS d i).g, .int .i64 ((opS d i).half : Int), .slice none 0 0, .bool false] 55 := ⟨_, rfl⟩
      have CELLS : Hid (ob = rst E (opS d i) (.slice none 0 0)) := by
        show _ = Obj.cells (rcs E (opS d i) (.slice none 0 0)).toArray _ _
        rw [hob]
        rfl
      have RST : Hid (∀ (W : World) (v : Value), Below w.heap.size w W → W.ownsRow w.heap.size 9 1 v (opL d i).length (rcv (opL d i)) → ∃ p cap, v = .slice p (opL d i).length cap ∧ Calls Tryz.prog 14 #[.pointer (some ⟨W.heap.size, 0, none⟩), .slice p (opL d i).length cap] (W.alloc ob) fun e w' => e = .returned (.int .i64 (opX d (i : Int))) ∧ RcP G W.heap.size E (.slice none 0 0) (opT d (i : Int)) (opX d (i : Int)) (opD d (i : Int)) (W.alloc ob) e w') := fun W v hW own => by
        have b1 := (Below.refl W.heap.size W).alloc (Nat.le_refl _) ob
        have b2 := hW.trans (b1.mono hW.size)
        have st : Rs (W.alloc ob) W.heap.size E (opS d i) G (.slice none 0 0) := ⟨by rw [← CELLS.out, hob]; exact heap_alloc_last W _, fun e => by have := GLT.out _ e; have := hW.size; omega⟩
        have rw_ : Row (W.alloc ob) G W.heap.size (.slice none 0 0) (opS d i).L := ⟨World.ownsRow_nil _ _ _ _, fun b hb => by simp [Value.ownBlock] at hb⟩
        obtain ⟨p, cap, rfl, hA⟩ := own_ap2 (T := W.heap.size) own (fun j hj => rcv_get hj) GLT.out b1 (Nat.le_refl _)
        refine ⟨p, cap, rfl, ?_⟩
        have C := reset (h.below b2) st rw_ fit hq (opL d i) p cap lsz.out lln.out hA
        rw [← hX, ← hD, ← hT] at C
        exact C.mono fun e w' hw => ⟨hw.1, hw⟩
      have TN : Hid ((i : Int).toNat = i) := Int.toNat_natCast i
      have OPL : Hid (opL d (i : Int).toNat = opL d i) := congrArg (opL d) TN.out
      clear hX hD hT h hq c1 c2 off hsec hhas hsc fit hOL CELLS lsz lln hhh
      have ENY := hid fun (w2 X4 w' : World) (T : Nat) (v : Value) (e : Ending) (b2 : Below w.heap.size w w2) own (b4 : Below w2.heap.size w2 X4) hS1 hS2 h => ro_end (E := E) (T := T) (d := d) (a := (i : Int)) (v := v) (e := e) (w' := w') GLT.out b2 own b4 hS1 hS2 h
      have ENN := hid fun (X : Int) (X4 w' : World) (T : Nat) (e : Ending) (s' : Sm) hX (B4 : Below w.heap.size w X4) hS1 h => ro_no (E := E) (T := T) (d := d) (G := G) (a := (i : Int)) (X := X) (e := e) (s' := s') (w' := w') hX B4 hS1 h
      rw [OPL.out] at ENY
      have PP0 : Hid (opX d (i : Int) = 0 → ∀ e w', RoY w E d G (i : Int) e w' → RoP w E d G (i : Int) e w') := fun h e w' hw => .inl ⟨h, hw⟩
      have PP1 : Hid (¬ opX d (i : Int) = 0 → ∀ e w', RoN w E d G (i : Int) e w' → RoP w E d G (i : Int) e w') := fun h e w' hw => .inr ⟨h, hw⟩
      obtain ⟨AX, hAX⟩ : ∃ X, opX d (i : Int) = X := ⟨_, rfl⟩
      have HAX := hid hAX
      rw [hAX] at RST
      clear hAX OPL TN
      generalize (opS d i).g = g at *
      generalize (opS d i).half = H at *
      generalize rcv (opL d i) = rv at *
      generalize (opL d i).length = ln at *
      have hz : ((d.r i).n - 1) / 2 ≤ 5000 := by omega
      generalize (d.r i).n = n at *
      generalize hHd : (n - 1) / 2 = hh at *
      go_enter Tryz.func9, Tryz.ntmps9
      go_wp2_with fail
      refine C1.out.mono ?_
      rintro e w1 ⟨rfl, rfl⟩
      go_wp2_with fail
      refine C2.out.mono ?_
      rintro e w2 ⟨v, rfl, own, b2⟩
      obtain ⟨p, cap, rfl, RS⟩ := RST.out w2 v b2 own
      have RS := hid RS
      have OW := hid own
      have B2 := hid b2
      clear own b2 RST C2 C1
      go_wp2_with fail
      rw [← hob]
      refine RS.out.mono ?_
      rintro e w5 ⟨rfl, hB⟩
      have HB := hid hB
      have BA : Hid (Below w2.heap.size w2 (w2.alloc ob)) := (Below.refl w2.heap.size w2).alloc (Nat.le_refl _) ob
      have ZA : Hid ((w2.alloc ob).heap.size = w2.heap.size + 1) := by
        show _ = _
        simp
      clear hB RS hob
      by_cases cX : AX = 0
      · subst cX
        have R := hid (PP0.out HAX.out _ _ (ENY.out w2 (w2.alloc ob) w5 w2.heap.size _ _ B2.out OW.out BA.out (Nat.le_refl _) (by rw [ZA.out]; omega) HB.out))
        clear HB PP0 PP1 ENY ENN
        go_wp2
        go_ret3
        exact R.out
      · have cb : (AX == 0) = false := by simpa using cX
        have R := hid (PP1.out (by rw [HAX.out]; exact cX) _ _ (ENN.out AX (w2.alloc ob) w5 w2.heap.size _ _ HAX.out (B2.out.trans (BA.out.mono B2.out.size)) B2.out.size HB.out))
        clear HB PP0 PP1 ENY ENN
        go_wp2
        go_ret3
        exact R.out

end Go.Proofs.YthmholgfnjpgbaaGreat.Wdc
