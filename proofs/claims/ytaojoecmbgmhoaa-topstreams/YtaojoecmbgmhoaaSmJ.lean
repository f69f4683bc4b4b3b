/-
  The walk of stream.Open: the stream of a region, and its records, or the error that the document names. Conditions: the disk lies in memory, its queues are not too long.
-/
import Derived.Test.YtaojoecmbgmhoaaSmI
import Derived.Test.YtaojoecmbgmhoaaSmC
import Derived.Test.YtaojoecmbgmhoaaSmF
namespace Go.Proofs.Ytaojoecmbgmhoaa.Wst
open Go.ChangeShapes Go.WideShapes Go.ChangeAt Go.RowKit Go.Proofs.Ytaojoecmbgmhoaa.M Go.Proofs.Ytaojoecmbgmhoaa.Wd

/-- What an Open that goes well comes to. -/
def OpY (w : World) (D : Nat) (d : Dk) (F : Nat → Prop) (a : Int) (e : Ending) (w' : World) : Prop :=
  ∃ S v F', e = .returned (.tuple #[.pointer (some ⟨S, 0, none⟩), v, .int .i64 0]) ∧ w.heap.size ≤ S ∧ (∃ L', DkL w' D (opD d a) F' L') ∧ StL w' S D (opT d a) F' ∧ (∀ b, F' b → Gr F w w' b) ∧ Kept F w w' ∧ (w'.ownsRow w.heap.size 9 1 v (opL d a.toNat).length (rcv (opL d a.toNat)) ∧ ∀ b, v.ownBlock = some b → ¬ F' b ∧ b ≠ S)
/-- What one that has an error comes to. -/
def OpN (w : World) (D : Nat) (d : Dk) (F : Nat → Prop) (a : Int) (e : Ending) (w' : World) : Prop :=
  e = .returned (.tuple #[.pointer none, .slice none 0 0, .int .i64 (opX d a)]) ∧ (∃ L', DkL w' D (opD d a) (Gr F w w') L') ∧ Kept F w w'
def OpP (w : World) (D : Nat) (d : Dk) (F : Nat → Prop) (a : Int) (e : Ending) (w' : World) : Prop := (opX d a = 0 ∧ OpY w D d F a e w') ∨ (¬ opX d a = 0 ∧ OpN w D d F a e w')

theorem OpN.same {w w' : World} {D : Nat} {d : Dk} {F : Nat → Prop} {L : Ly} (h : DkL w D d F L) (b : Below w.heap.size w w') {a X : Int} (hX : opX d a = X) (hD : opD d a = d) : OpN w D d F a (.returned (.tuple #[.pointer none, .slice none 0 0, .int .i64 X])) w' := by
  refine ⟨by rw [hX], ⟨L, ?_⟩, .of_below b⟩
  rw [hD]
  refine (h.below b).more (fun i hi => .inl hi) fun i hi => ?_
  rcases hi with hi | hi
  · exact Nat.lt_of_lt_of_le (h.lt i hi) b.size
  · exact hi.2

/-- A stream that Open makes fits its disk. -/
theorem opS_fit {d : Dk} {i : Nat} (hi : i < d.k) (hn : 3 ≤ (d.r i).n) : Sw d (opS d i) where
  hi := hi
  n3 := hn
  h := rfl
  half := hH_lt _
  g := by
    show 0 ≤ max _ _ ∧ max _ _ ≤ 281474976710655
    have h1 := hG_range (opY d i 0)
    have h2 := nw_range (fun j => opY d i (1 + j)) (2 * (((d.r i).n - 1) / 2))
    omega
  cap := by
    show (frs []).size + 1 ≤ 55 * (((d.r i).n - 1) / 2)
    have : (frs []).size = 0 := rfl
    omega
theorem rec_size {T b : ByteArray} (h : b ∈ recs T) : b.size ≤ 4096 := ((bods_fr (bods_recs T)).1 b h).2
theorem recs_len (T : ByteArray) : (recs T).length ≤ T.size := by
  have := (pl_le (recs_fst T).1)
  rw [recs_length]
  omega
theorem dt_size (y : Nat → ByteArray) (h : Nat) : (dtOf y h).size ≤ 55 * h := by
  unfold dtOf
  split
  · exact jn_size _ _ _ _
  · exact Nat.zero_le _

theorem tl_none : tl (frs []) = ⟨#[]⟩ := by decide +kernel
/-- The end of an Open. -/
theorem open_end {w w1 w2 X4 w' : World} {D S : Nat} {d : Dk} {F : Nat → Prop} {a : Int} {v : Value} {e : Ending} (hF : ∀ b, F b → b < w.heap.size) (b1 : Below w.heap.size w w1) (b2 : Below w1.heap.size w1 w2) (own : w2.ownsRow w1.heap.size 9 1 v (opL d a.toNat).length (rcv (opL d a.toNat))) (b4 : Below w2.heap.size w2 X4) (hS1 : w2.heap.size ≤ S) (hS2 : S < X4.heap.size) (h : CaP F S D (opT d a) 0 (opD d a) X4 e w') :
    OpY w D d F a (.returned (.tuple #[.pointer (some ⟨S, 0, none⟩), v, .int .i64 0])) w' := by
  obtain ⟨_, ⟨L', h2⟩, h3, h4⟩ := h
  have B2 : Below w.heap.size w w2 := b1.trans (b2.mono b1.size)
  have B4 : Below w.heap.size w X4 := B2.trans (b4.mono B2.size)
  have hz1 := b1.size
  have hz2 := b2.size
  have hz4 := b4.size
  refine ⟨S, v, Gr F X4 w', rfl, by omega, ⟨L', h2⟩, h3, fun b hb => hb.elim .inl fun hb => .inr ⟨Nat.le_trans B4.size hb.1, hb.2⟩, ?_, ?_, fun b hb => ?_⟩
  · exact (Kept.of_below (F := F) B4).trans (h4.mono fun i _ hi => hi.elim .inl fun hi => .inr (by omega))
  · refine own_keep own hz1 fun b hb1 hb2 => ?_
    rw [h4.block b (by omega) (fun e => e.elim (fun e => by have := hF b e; omega) fun e => by omega), b4.block b hb2]
  · have := own.lt b hb
    exact ⟨fun e => e.elim (fun e => by have := hF b e; omega) fun e => by omega, by omega⟩
theorem open_no {w X4 w' : World} {D S : Nat} {d : Dk} {F : Nat → Prop} {a X : Int} {e : Ending} {s' : Sm} (hX : opX d a = X) (B4 : Below w.heap.size w X4) (hS1 : w.heap.size ≤ S) (_hS2 : S < X4.heap.size) (h : CaP F S D s' X (opD d a) X4 e w') :
    OpN w D d F a (.returned (.tuple #[.pointer none, .slice none 0 0, .int .i64 X])) w' := by
  obtain ⟨_, ⟨L', h2⟩, h3, h4⟩ := h
  have hz := B4.size
  refine ⟨by rw [hX], ⟨L', h2.more (fun b hb => hb.elim .inl fun hb => .inr ⟨Nat.le_trans hz hb.1, hb.2⟩) fun b hb => ?_⟩, (Kept.of_below (F := F) B4).trans (h4.mono fun i _ hi => hi.elim .inl fun hi => .inr (by omega))⟩
  rcases hb with hb | hb
  · exact h2.lt b (.inl hb)
  · exact hb.2

set_option maxRecDepth 100000 in
set_option maxHeartbeats 1000000 in
theorem open_ {w : World} {D : Nat} {d : Dk} {F : Nat → Prop} {L : Ly} (h : DkL w D d F L) (hq : ∀ j, j < d.k → (d.r j).q.length ≤ 990000) (a : Int) :
    Calls Try.prog 9 #[.pointer (some ⟨D, 0, none⟩), .int .i64 a] w fun e w' => OpP w D d F a e w' := by
  have C1 := hid (sectorsD h a)
  unfold dp at C1
  by_cases c1 : d.secs a < 3
  · have hX : opX d a = 10 := if_pos c1
    have hD : opD d a = d := if_pos c1
    have R : Hid (OpP w D d F a (.returned (.tuple #[.pointer none, .slice none 0 0, .int .i64 10])) w) := .inr ⟨by rw [hX]; decide, OpN.same h (Below.refl _ _) hX hD⟩
    have c1' : (d.secs a : Int) < 3 := by omega
    clear hX hD h hq c1
    generalize d.secs a = z at *
    go_enter Try.func9, Try.ntmps9
    go_wp2_with fail
    refine C1.out.mono ?_
    rintro e w1 ⟨rfl, rfl⟩
    go_wp2
    go_ret3
    exact R.out
  · have hhas : d.has a = true := by
      unfold Dk.secs at c1
      by_cases c : d.has a = true
      · exact c
      · rw [if_neg c] at c1
        omega
    obtain ⟨i, rfl, hi⟩ := has_nat hhas
    have hsec : d.secs (i : Int) = (d.r i).n := by
      unfold Dk.secs
      rw [if_pos hhas, Int.toNat_natCast]
    rw [hsec] at c1 C1
    have hn := (h.ok.r i hi).n
    have c1' : ¬ ((d.r i).n : Int) < 3 := by omega
    have hsc : ¬ d.secs (i : Int) < 3 := by rw [hsec]; exact c1
    by_cases c2 : d.off = true
    · have hX : opX d (i : Int) = 11 := by unfold opX; rw [if_neg hsc, if_pos c2]
      have hD : opD d (i : Int) = d := by unfold opD; rw [if_neg hsc, if_pos c2]
      have C2 := hid (readAllOff h (fun j hj => by have := hq j hj; omega) hi (by omega) c2)
      have R : Hid (∀ W, Below w.heap.size w W → OpP w D d F (i : Int) (.returned (.tuple #[.pointer none, .slice none 0 0, .int .i64 11])) W) := fun W hW => .inr ⟨by rw [hX]; decide, OpN.same h hW hX hD⟩
      clear hX hD h hq c1 c2 hsec hhas hsc
      generalize (d.r i).n = z at *
      go_enter Try.func9, Try.ntmps9
      go_wp2_with fail
      refine C1.out.mono ?_
      rintro e w1 ⟨rfl, rfl⟩
      go_wp2_with fail
      refine C2.out.mono ?_
      rintro e w1 ⟨rfl, b1⟩
      have R1 := hid (R.out w1 b1)
      go_wp2
      go_ret3
      exact R1.out
    · have off : d.off = false := by simpa using c2
      have hX : opX d (i : Int) = (opS d i).rX (opL d i) d := by unfold opX; rw [if_neg hsc, if_neg c2, Int.toNat_natCast]
      have hD : opD d (i : Int) = (opS d i).rD (opL d i) d := by unfold opD; rw [if_neg hsc, if_neg c2, Int.toNat_natCast]
      have hT : opT d (i : Int) = (opS d i).rS (opL d i) d := by unfold opT; rw [Int.toNat_natCast]
      have fit := opS_fit hi (show 3 ≤ (d.r i).n by omega)
      have C2 := hid (readAll h (fun j hj => by have := hq j hj; omega) hi off)
      have y64 : ∀ k, (opY d i k).size = 64 := fun k => rd_size (h.ok.r i hi) k
      have C3 := hid fun (W : World) (p : Option Addr) hL => find (d.r i).n (opY d i) p W (by omega) hn y64 hL
      have hOL : opL d i = recs (dtOf (opY d i) (((d.r i).n - 1) / 2)) := rfl
      have hG : (opS d i).g = gg (opY d i) (((d.r i).n - 1) / 2) := rfl
      have hHf : (opS d i).half = hH (opY d i 0) := rfl
      rw [← hOL, ← hG, ← hHf] at C3
      have FLT : Hid (∀ b, F b → b < w.heap.size) := h.lt
      have lsz : Hid (∀ b ∈ opL d i, b.size ≤ maxLen) := fun b hb => by
        rw [hOL] at hb
        have := rec_size hb
        unfold maxLen
        omega
      have lln : Hid ((opL d i).length ≤ 1048576) := by
        show _ ≤ _
        have h1 := recs_len (dtOf (opY d i) (((d.r i).n - 1) / 2))
        have h2 := dt_size (opY d i) (((d.r i).n - 1) / 2)
        rw [hOL]
        omega
      have CELLS : Hid ((Obj.cells #[.pointer (some ⟨D, 0, none⟩), .int .i64 (i : Int), .int .i64 (opS d i).g, .int .i64 ((opS d i).half : Int), .int .i64 0, .string ⟨#[]⟩, .bool false] 68 (0, 0)) = stm D (opS d i)) := by
        show _ = Obj.cells (scs D (opS d i)).toArray _ _
        unfold scs
        rw [show (opS d i).L = [] from rfl, tl_none]
        rfl
      have RST : Hid (∀ (W : World) (p : Option Addr) (cap : Nat), Below w.heap.size w W → War.Lies W p (opL d i).length (nth (opL d i)) → Calls Try.prog 21 #[.pointer (some ⟨W.heap.size, 0, none⟩), .slice p (opL d i).length cap] (W.alloc (.cells #[.pointer (some ⟨D, 0, none⟩), .int .i64 (i : Int), .int .i64 (opS d i).g, .int .i64 ((opS d i).half : Int), .int .i64 0, .string ⟨#[]⟩, .bool false] 68)) fun e w' => e = .returned (.int .i64 (opX d (i : Int))) ∧ CaP F W.heap.size D (opT d (i : Int)) (opX d (i : Int)) (opD d (i : Int)) (W.alloc (.cells #[.pointer (some ⟨D, 0, none⟩), .int .i64 (i : Int), .int .i64 (opS d i).g, .int .i64 ((opS d i).half : Int), .int .i64 0, .string ⟨#[]⟩, .bool false] 68)) e w') := fun W p cap hW hLi => by
        have b1 := (Below.refl W.heap.size W).alloc (Nat.le_refl _) (.cells #[.pointer (some ⟨D, 0, none⟩), .int .i64 (i : Int), .int .i64 (opS d i).g, .int .i64 ((opS d i).half : Int), .int .i64 0, .string ⟨#[]⟩, .bool false] 68)
        have b2 := hW.trans (b1.mono hW.size)
        have st : StL (W.alloc (.cells #[.pointer (some ⟨D, 0, none⟩), .int .i64 (i : Int), .int .i64 (opS d i).g, .int .i64 ((opS d i).half : Int), .int .i64 0, .string ⟨#[]⟩, .bool false] 68)) W.heap.size D (opS d i) F := ⟨by rw [← CELLS.out]; exact heap_alloc_last W _, fun e => by have := FLT.out _ e; have := hW.size; omega⟩
        have C := reset (h.below b2) st fit hq (opL d i) p cap lsz.out lln.out (hLi.below b1)
        rw [← hX, ← hD, ← hT] at C
        exact C.mono fun e w' hw => ⟨hw.1, hw⟩
      have OWN := hid fun (W : World) (v : Value) (own : W.ownsRow w.heap.size 9 1 v (opL d i).length (rcv (opL d i))) => War.own_lies own (fun j hj => rcv_get hj)
      have TN : Hid ((i : Int).toNat = i) := Int.toNat_natCast i
      have OPL : Hid (opL d (i : Int).toNat = opL d i) := congrArg (opL d) TN.out
      clear hX hD hT h hq c1 c2 off hsec hhas hsc fit y64 hOL hG hHf CELLS lsz lln
      have ENY := hid fun (w1 w2 X4 w' : World) (S : Nat) (v : Value) (e : Ending) (b1 : Below w.heap.size w w1) (b2 : Below w1.heap.size w1 w2) own (b4 : Below w2.heap.size w2 X4) hS1 hS2 h => open_end (D := D) (S := S) (d := d) (a := (i : Int)) (v := v) (e := e) (w' := w') FLT.out b1 b2 own b4 hS1 hS2 h
      have ENN := hid fun (X : Int) (X4 w' : World) (S : Nat) (e : Ending) (s' : Sm) hX (B4 : Below w.heap.size w X4) hS1 hS2 h => open_no (D := D) (S := S) (d := d) (F := F) (a := (i : Int)) (X := X) (e := e) (s' := s') (w' := w') hX B4 hS1 hS2 h
      rw [OPL.out] at ENY
      have PP0 : Hid (opX d (i : Int) = 0 → ∀ e w', OpY w D d F (i : Int) e w' → OpP w D d F (i : Int) e w') := fun h e w' hw => .inl ⟨h, hw⟩
      have PP1 : Hid (¬ opX d (i : Int) = 0 → ∀ e w', OpN w D d F (i : Int) e w' → OpP w D d F (i : Int) e w') := fun h e w' hw => .inr ⟨h, hw⟩
      obtain ⟨AX, hAX⟩ : ∃ X, opX d (i : Int) = X := ⟨_, rfl⟩
      have HAX := hid hAX
      rw [hAX] at RST
      clear hAX OPL TN
      generalize (opS d i).g = G at *
      generalize (opS d i).half = H at *
      generalize rcv (opL d i) = rv at *
      generalize (opL d i).length = ln at *
      generalize nth (opL d i) = nt at *
      generalize (d.r i).n = n at *
      unfold hv at C3
      go_enter Try.func9, Try.ntmps9
      go_wp2_with fail
      refine C1.out.mono ?_
      rintro e w1 ⟨rfl, rfl⟩
      go_wp2_with fail
      refine C2.out.mono ?_
      rintro e w1 ⟨p, rfl, lies, b1⟩
      have C3' := hid (C3.out w1 p lies)
      have B1 := hid b1
      clear lies C3 C2 C1 b1
      go_wp2_with fail
      refine C3'.out.mono ?_
      rintro e w2 ⟨v, rfl, own, b2⟩
      have bX3 := (Below.refl w2.heap.size w2).alloc (Nat.le_refl _) (.cells #[.int .i64 G, .int .i64 (H : Int)] 64)
      have zX3 : (w2.alloc (.cells #[.int .i64 G, .int .i64 (H : Int)] 64)).heap.size = w2.heap.size + 1 := by simp
      have OW := hid own
      have own' := own_keep (w' := w2.alloc (.cells #[.int .i64 G, .int .i64 (H : Int)] 64)) own B1.out.size (fun b _ hb => bX3.block b hb)
      obtain ⟨q, cap, rfl, _, _, lies⟩ := OWN.out _ v own'
      have B3 : Below w.heap.size w (w2.alloc (.cells #[.int .i64 G, .int .i64 (H : Int)] 64)) := (B1.out.trans (b2.mono B1.out.size)).trans (bX3.mono (B1.out.trans (b2.mono B1.out.size)).size)
      have RS := hid (RST.out _ q cap B3 lies)
      rw [zX3] at RS
      have B2 := hid b2
      clear own own' lies RST OWN C3' B3 b2 bX3 zX3
      go_wp2_with fail
      refine RS.out.mono ?_
      rintro e w5 ⟨rfl, hB⟩
      have HB := hid hB
      clear hB RS
      have BB : Hid (Below w2.heap.size w2 ((w2.alloc (.cells #[.int .i64 G, .int .i64 (H : Int)] 64)).alloc (.cells #[.pointer (some ⟨D, 0, none⟩), .int .i64 (i : Int), .int .i64 G, .int .i64 (H : Int), .int .i64 0, .string ⟨#[]⟩, .bool false] 68))) := ((Below.refl w2.heap.size w2).alloc (Nat.le_refl _) _).alloc (by simp) _
      have ZB : Hid (((w2.alloc (.cells #[.int .i64 G, .int .i64 (H : Int)] 64)).alloc (.cells #[.pointer (some ⟨D, 0, none⟩), .int .i64 (i : Int), .int .i64 G, .int .i64 (H : Int), .int .i64 0, .string ⟨#[]⟩, .bool false] 68)).heap.size = w2.heap.size + 2) := by
        show _ = _
        simp
      by_cases cX : AX = 0
      · subst cX
        have EN := hid (PP0.out HAX.out _ _ (ENY.out w1 w2 _ w5 (w2.heap.size + 1) _ _ B1.out B2.out OW.out BB.out (by omega) (by rw [ZB.out]; omega) HB.out))
        go_wp2
        go_ret3
        exact EN.out
      · have cb : (AX == 0) = false := by simpa using cX
        have EN := hid (PP1.out (by rw [HAX.out]; exact cX) _ _ (ENN.out AX _ w5 (w2.heap.size + 1) _ _ HAX.out ((B1.out.trans (B2.out.mono B1.out.size)).trans (BB.out.mono (B1.out.trans (B2.out.mono B1.out.size)).size)) (by have := B1.out.size; have := B2.out.size; omega) (by rw [ZB.out]; omega) HB.out))
        go_wp2
        go_ret3
        exact EN.out

end Go.Proofs.Ytaojoecmbgmhoaa.Wst
