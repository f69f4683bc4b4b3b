/-
  The walk of the law GrantPlays: behind every calls a table answers, and has, what the document's does: it returns true, and nothing that was in memory has turned. Conditions: none but that the arguments lie in memory as such do.
-/
import Derived.Test.YtpbbamoeaalolaaGtJ
import Derived.Lib.MinMax
namespace Go.Proofs.Ytpbbamoeaalolaa.Wg
open Go.ChangeShapes Go.WideShapes Go.ChangeAt Go.RowKit Go.Proofs.Ytpbbamoeaalolaa.M Go.Maps

theorem Tab.base {W0 W w' : World} {s : Nat} {L : List Ky} (t : Tab W w' s L) (b : Below W0.heap.size W0 W) : Tab W0 w' s L := by
  obtain ⟨F, h1, h2⟩ := t.tb
  exact ⟨⟨F, h1, fun i hi => Nat.le_trans b.size (h2 i hi)⟩, b.trans (t.bel.mono b.size)⟩
theorem Sp.rebase {w W : World} {o : Obj} {s r : Nat} {obs : List (Nat × Obj)} {L M : List Ky} (h : Sp (w.alloc o) W s r obs L M) : Sp w W s r ((w.heap.size, o) :: obs) L M := by
  obtain ⟨F, G, h1, h2, h3, h4, h5, h6⟩ := h.st
  have hz : (w.alloc o).heap.size = w.heap.size + 1 := by simp
  refine ⟨((Below.refl _ _).alloc (Nat.le_refl _) o).trans (h.bel.mono (by omega)), F, G, h1, h2, fun i hi => ?_, fun i hi => ?_, h5, fun p hp => ?_⟩
  · have := h3 i hi; omega
  · have := h4 i hi; omega
  · rcases List.mem_cons.1 hp with rfl | hp
    · refine ⟨(h.bel.block w.heap.size (by omega)).trans (heap_alloc_new w o), fun e => ?_, fun e => ?_⟩
      · have := h3 _ e; simp at this; omega
      · have := h4 _ e; simp at this; omega
    · exact h6 p hp
theorem newNone (W : World) : Calls Try.prog 11 #[.slice none 0 0] W fun e w' => ∃ s, e = .returned (.tuple #[.pointer (some ⟨s, 0, none⟩), .int .i64 0]) ∧ Tab W w' s [] := by
  refine (new (l := []) (a := none) (cap := 0) (by decide) (by simp) (.inl rfl)).mono ?_
  rintro e w' ⟨_, h⟩
  rcases h with ⟨h, _⟩ | ⟨_, s, h1, h2⟩
  · exact absurd rfl h
  · exact ⟨s, h1, h2⟩
def kO (T : Nat) (k : Ky) : Obj := .cells #[.int .i64 k.1, .string k.2] T
def aO (x : Ac) : Obj := .cells #[.bool x.d, .int .i64 x.k.1, .string x.k.2] 36
/-- The cells of the asked grant and of the call's. -/
def SK (W : World) (A V : Nat) (ask : Ky) (x : Ac) : Prop := (W.cell? ⟨A, 0, none⟩ = some (.int .i64 ask.1) ∧ W.cell? ⟨A, 1, none⟩ = some (.string ask.2)) ∧ (W.cell? ⟨V, 1, none⟩ = some (.int .i64 x.k.1) ∧ W.cell? ⟨V, 2, none⟩ = some (.string x.k.2))
theorem sp_cells {w W : World} {s r A V : Nat} {ask : Ky} {x : Ac} {L M : List Ky} (h : Sp w W s r [(V, aO x), (A, kO 25 ask)] L M) : SK W A V ask x := by
  have h1 := h.at (p := (V, aO x)) (by simp)
  have h2 := h.at (p := (A, kO 25 ask)) (by simp)
  exact ⟨⟨blk_cell (l := [.int .i64 ask.1, .string ask.2]) h2 rfl, blk_cell (l := [.int .i64 ask.1, .string ask.2]) h2 rfl⟩, blk_cell (l := [.bool x.d, .int .i64 x.k.1, .string x.k.2]) h1 rfl, blk_cell (l := [.bool x.d, .int .i64 x.k.1, .string x.k.2]) h1 rfl⟩

set_option maxRecDepth 100000 in
set_option maxHeartbeats 8000000 in
theorem plays (p : Option Addr) (n cap : Nat) (A : Nat → Ac) (c : Int) (f : ByteArray) (w : World) (hc : n ≤ cap) (_ : cap ≤ maxLen) (hA : Acs w p n A) (hk : KOk (c, f)) :
    Calls Try.prog 4 #[.slice p n cap, .agg #[.int .i64 c, .string f]] w fun e w' => e = .returned (.bool true) ∧ Below w.heap.size w w' := by
  have k1' : min (n : Int) 80 = ((min n 80 : Nat) : Int) := by omega
  obtain ⟨kk, hkk⟩ : ∃ k, k = min n 80 := ⟨_, rfl⟩
  have hkk1 : kk ≤ 80 := by omega
  have hkk2 : kk ≤ n := by omega
  rw [← hkk] at k1'
  clear hkk
  have HA := hid hA
  have NW := hid newNone
  have WK := hid Wg.wakes
  clear hA
  go_enter Try.func4, Try.ntmps4
  go_wp2_with fail
  refine (NW.out _).mono ?_
  rintro e w1 ⟨s, rfl, t1⟩
  have P1 := hid (Sp.rebase (o := kO 25 (c, f)) (sp_new t1))
  clear NW t1
  go_wp2_with fail
  refine (WK.out _).mono ?_
  rintro e w2 ⟨rfl, b2⟩
  have P2 := hid (P1.out.below b2)
  clear WK P1 b2
  generalize w1.heap.size = r at P2
  go_wp2
  go_loopw [28] (fun i wr => ∃ (m : Nat) (L : List Ky), i = .int .i64 m ∧ m ≤ kk ∧ Hid (Sp w wr s r [(w.heap.size, kO 25 (c, f))] L L)) (fun i _ => kk - (intOf i).toNat)
  case atStart => exact ⟨0, [], rfl, Nat.zero_le _, P2⟩
  case round =>
    clear P2
    obtain ⟨m, L, rfl, hm, P⟩ := hrel
    by_cases cm : m < kk
    · obtain ⟨hA1, hA2⟩ := HA.out
      rcases hA2 with hA2 | ⟨b, o, rfl, q3, q4⟩
      · omega
      have hx := hA1 m (by omega)
      have bw := P.out.bel
      have y0 := (bw.cell (p := ⟨b, o + m * 3 + 0, none⟩) q3).trans (q4 m (by omega) 0 _ rfl)
      have y1 := (bw.cell (p := ⟨b, o + m * 3 + 1, none⟩) q3).trans (q4 m (by omega) 1 _ rfl)
      have y2 := (bw.cell (p := ⟨b, o + m * 3 + 2, none⟩) q3).trans (q4 m (by omega) 2 _ rfl)
      rw [Nat.add_zero] at y0
      clear hA1 q4 bw HA
      generalize A m = x at hx y0 y1 y2
      have P3 := hid (P.out.alloc (aO x))
      clear P
      obtain ⟨xd, x⟩ := x
      cases xd
      · have kx : KOk x := hx
        have CD := hid fun W M' (h : Sp w W s r [(wr.heap.size, aO ⟨false, x⟩), (w.heap.size, kO 25 (c, f))] L M') => (sp_add h kx).mono fun e w' (q : _ ∧ _) => And.intro q.1 (And.intro (sp_cells q.2) (hid q.2))
        have DD := hid fun W L' (h : Sp w W s r [(wr.heap.size, aO ⟨false, x⟩), (w.heap.size, kO 25 (c, f))] L' L) => (sp_addR h kx).mono fun e w' (q : _ ∧ _) => And.intro q.1 (And.intro (sp_cells q.2) (hid q.2))
        generalize addE x L = E at CD DD
        generalize addL x L = L2 at CD DD
        have P4 : Hid (Sp w (wr.alloc (.cells #[.bool false, .int .i64 x.1, .string x.2] 36)) s r [(wr.heap.size, aO ⟨false, x⟩), (w.heap.size, kO 25 (c, f))] L L) := P3
        have S3 := sp_cells P4.out
        clear P3
        go_wp2_with fail
        generalize hX : wr.alloc (.cells #[.bool false, .int .i64 x.1, .string x.2] 36) = X at P4 S3 ⊢
        clear hX
        have P4 := hid P4.out.drew
        go_region_held3 (fun W => (W.cell? ⟨w.heap.size, 0, none⟩ = some (.int .i64 c) ∧ W.cell? ⟨w.heap.size, 1, none⟩ = some (.string f)) ∧ (W.cell? ⟨wr.heap.size, 1, none⟩ = some (.int .i64 x.1) ∧ W.cell? ⟨wr.heap.size, 2, none⟩ = some (.string x.2)))
          (first | exact hS | exact S3)
          (first | (go_at_call 15; first | (refine (CD.out _ _ Q1.out).mono ?_; rintro e w7 ⟨rfl, hS, Z⟩) | (refine (CD.out _ _ P4.out).mono ?_; rintro e w6 ⟨rfl, hS, P5⟩)) | (go_at_call 16; first | (refine (DD.out _ _ P5.out).mono ?_; rintro e w7 ⟨rfl, hS, Z⟩) | (refine (DD.out _ _ P4.out).mono ?_; rintro e w6 ⟨rfl, hS, Q1⟩)))
        all_goals
          clear CD DD P4 S3
          have S0 : (fun W : World => (((W.cell? ⟨w.heap.size, 0, none⟩ = some (.int .i64 c) ∧ W.cell? ⟨w.heap.size, 1, none⟩ = some (.string f)) ∧ (W.cell? ⟨wr.heap.size, 1, none⟩ = some (.int .i64 x.1) ∧ W.cell? ⟨wr.heap.size, 2, none⟩ = some (.string x.2))) ∧ Hid (Sp w W s r [(wr.heap.size, aO ⟨false, x⟩), (w.heap.size, kO 25 (c, f))] L2 L2))) w7.drew := ⟨hS, hid Z.out.drew⟩
          have SS := hid fun (W : World) (h : (((W.cell? ⟨w.heap.size, 0, none⟩ = some (.int .i64 c) ∧ W.cell? ⟨w.heap.size, 1, none⟩ = some (.string f)) ∧ (W.cell? ⟨wr.heap.size, 1, none⟩ = some (.int .i64 x.1) ∧ W.cell? ⟨wr.heap.size, 2, none⟩ = some (.string x.2))) ∧ Hid (Sp w W s r [(wr.heap.size, aO ⟨false, x⟩), (w.heap.size, kO 25 (c, f))] L2 L2))) => Calls.mono (sp_same h.2.out) fun e w' (q : _ ∧ _) => And.intro q.1 (And.intro (sp_cells q.2) (hid q.2))
          have CH := hid fun (W : World) (c' : Int) (f' : ByteArray) (hk' : KOk (c', f')) (h : (((W.cell? ⟨w.heap.size, 0, none⟩ = some (.int .i64 c) ∧ W.cell? ⟨w.heap.size, 1, none⟩ = some (.string f)) ∧ (W.cell? ⟨wr.heap.size, 1, none⟩ = some (.int .i64 x.1) ∧ W.cell? ⟨wr.heap.size, 2, none⟩ = some (.string x.2))) ∧ Hid (Sp w W s r [(wr.heap.size, aO ⟨false, x⟩), (w.heap.size, kO 25 (c, f))] L2 L2))) => Calls.mono (sp_has h.2.out hk') fun e w' (q : _ ∧ _) => And.intro q.1 (And.intro (sp_cells q.2) (hid q.2))
          have DH := hid fun (W : World) (c' : Int) (f' : ByteArray) (h : (((W.cell? ⟨w.heap.size, 0, none⟩ = some (.int .i64 c) ∧ W.cell? ⟨w.heap.size, 1, none⟩ = some (.string f)) ∧ (W.cell? ⟨wr.heap.size, 1, none⟩ = some (.int .i64 x.1) ∧ W.cell? ⟨wr.heap.size, 2, none⟩ = some (.string x.2))) ∧ Hid (Sp w W s r [(wr.heap.size, aO ⟨false, x⟩), (w.heap.size, kO 25 (c, f))] L2 L2))) => Calls.mono (sp_hasR h.2.out (c', f')) fun e w' (q : _ ∧ _) => And.intro q.1 (And.intro (sp_cells q.2) (hid q.2))
          go_wp2_with fail
          go_region_held3 (fun W => (((W.cell? ⟨w.heap.size, 0, none⟩ = some (.int .i64 c) ∧ W.cell? ⟨w.heap.size, 1, none⟩ = some (.string f)) ∧ (W.cell? ⟨wr.heap.size, 1, none⟩ = some (.int .i64 x.1) ∧ W.cell? ⟨wr.heap.size, 2, none⟩ = some (.string x.2))) ∧ Hid (Sp w W s r [(wr.heap.size, aO ⟨false, x⟩), (w.heap.size, kO 25 (c, f))] L2 L2)))
            (first | exact hS | exact S0)
            (first | (go_at_call 17; refine Calls.mono (SS.out _ (by assumption)) ?_; rintro e w8 ⟨rfl, hS⟩) | (go_at_call 18; refine Calls.mono (CH.out _ _ _ (by first | exact hk | exact kx) (by assumption)) ?_; rintro e w8 ⟨rfl, hS⟩) | (go_at_call 19; refine Calls.mono (DH.out _ _ _ (by assumption)) ?_; rintro e w8 ⟨rfl, hS⟩))
          all_goals
            have Pn := hid (hS.2.out.sub (obs' := [(w.heap.size, kO 25 (c, f))]) fun p hp => by simp at hp; simp [hp])
            clear SS CH DH
            go_wp2
            go_roundw
            case rel => exact ⟨m + 1, L2, by go_num, cm, Pn⟩
            case measure => simp [intOf]; omega
      · have kx : KOk x := hx
        have CD := hid fun W M' (h : Sp w W s r [(wr.heap.size, aO ⟨true, x⟩), (w.heap.size, kO 25 (c, f))] L M') => (sp_drop h kx).mono fun e w' (q : _ ∧ _) => And.intro q.1 (And.intro (sp_cells q.2) (hid q.2))
        have DD := hid fun W L' (h : Sp w W s r [(wr.heap.size, aO ⟨true, x⟩), (w.heap.size, kO 25 (c, f))] L' L) => (sp_dropR h x).mono fun e w' (q : _ ∧ _) => And.intro q.1 (And.intro (sp_cells q.2) (hid q.2))
        generalize dropE x L = E at CD DD
        generalize dropL x L = L2 at CD DD
        have P4 : Hid (Sp w (wr.alloc (.cells #[.bool true, .int .i64 x.1, .string x.2] 36)) s r [(wr.heap.size, aO ⟨true, x⟩), (w.heap.size, kO 25 (c, f))] L L) := P3
        have S3 := sp_cells P4.out
        clear P3
        go_wp2_with fail
        generalize hX : wr.alloc (.cells #[.bool true, .int .i64 x.1, .string x.2] 36) = X at P4 S3 ⊢
        clear hX
        have P4 := hid P4.out.drew
        go_region_held3 (fun W => (W.cell? ⟨w.heap.size, 0, none⟩ = some (.int .i64 c) ∧ W.cell? ⟨w.heap.size, 1, none⟩ = some (.string f)) ∧ (W.cell? ⟨wr.heap.size, 1, none⟩ = some (.int .i64 x.1) ∧ W.cell? ⟨wr.heap.size, 2, none⟩ = some (.string x.2)))
          (first | exact hS | exact S3)
          (first | (go_at_call 13; first | (refine (CD.out _ _ Q1.out).mono ?_; rintro e w7 ⟨rfl, hS, Z⟩) | (refine (CD.out _ _ P4.out).mono ?_; rintro e w6 ⟨rfl, hS, P5⟩)) | (go_at_call 14; first | (refine (DD.out _ _ P5.out).mono ?_; rintro e w7 ⟨rfl, hS, Z⟩) | (refine (DD.out _ _ P4.out).mono ?_; rintro e w6 ⟨rfl, hS, Q1⟩)))
        all_goals
          clear CD DD P4 S3
          have S0 : (fun W : World => (((W.cell? ⟨w.heap.size, 0, none⟩ = some (.int .i64 c) ∧ W.cell? ⟨w.heap.size, 1, none⟩ = some (.string f)) ∧ (W.cell? ⟨wr.heap.size, 1, none⟩ = some (.int .i64 x.1) ∧ W.cell? ⟨wr.heap.size, 2, none⟩ = some (.string x.2))) ∧ Hid (Sp w W s r [(wr.heap.size, aO ⟨true, x⟩), (w.heap.size, kO 25 (c, f))] L2 L2))) w7.drew := ⟨hS, hid Z.out.drew⟩
          have SS := hid fun (W : World) (h : (((W.cell? ⟨w.heap.size, 0, none⟩ = some (.int .i64 c) ∧ W.cell? ⟨w.heap.size, 1, none⟩ = some (.string f)) ∧ (W.cell? ⟨wr.heap.size, 1, none⟩ = some (.int .i64 x.1) ∧ W.cell? ⟨wr.heap.size, 2, none⟩ = some (.string x.2))) ∧ Hid (Sp w W s r [(wr.heap.size, aO ⟨true, x⟩), (w.heap.size, kO 25 (c, f))] L2 L2))) => Calls.mono (sp_same h.2.out) fun e w' (q : _ ∧ _) => And.intro q.1 (And.intro (sp_cells q.2) (hid q.2))
          have CH := hid fun (W : World) (c' : Int) (f' : ByteArray) (hk' : KOk (c', f')) (h : (((W.cell? ⟨w.heap.size, 0, none⟩ = some (.int .i64 c) ∧ W.cell? ⟨w.heap.size, 1, none⟩ = some (.string f)) ∧ (W.cell? ⟨wr.heap.size, 1, none⟩ = some (.int .i64 x.1) ∧ W.cell? ⟨wr.heap.size, 2, none⟩ = some (.string x.2))) ∧ Hid (Sp w W s r [(wr.heap.size, aO ⟨true, x⟩), (w.heap.size, kO 25 (c, f))] L2 L2))) => Calls.mono (sp_has h.2.out hk') fun e w' (q : _ ∧ _) => And.intro q.1 (And.intro (sp_cells q.2) (hid q.2))
          have DH := hid fun (W : World) (c' : Int) (f' : ByteArray) (h : (((W.cell? ⟨w.heap.size, 0, none⟩ = some (.int .i64 c) ∧ W.cell? ⟨w.heap.size, 1, none⟩ = some (.string f)) ∧ (W.cell? ⟨wr.heap.size, 1, none⟩ = some (.int .i64 x.1) ∧ W.cell? ⟨wr.heap.size, 2, none⟩ = some (.string x.2))) ∧ Hid (Sp w W s r [(wr.heap.size, aO ⟨true, x⟩), (w.heap.size, kO 25 (c, f))] L2 L2))) => Calls.mono (sp_hasR h.2.out (c', f')) fun e w' (q : _ ∧ _) => And.intro q.1 (And.intro (sp_cells q.2) (hid q.2))
          go_wp2_with fail
          go_region_held3 (fun W => (((W.cell? ⟨w.heap.size, 0, none⟩ = some (.int .i64 c) ∧ W.cell? ⟨w.heap.size, 1, none⟩ = some (.string f)) ∧ (W.cell? ⟨wr.heap.size, 1, none⟩ = some (.int .i64 x.1) ∧ W.cell? ⟨wr.heap.size, 2, none⟩ = some (.string x.2))) ∧ Hid (Sp w W s r [(wr.heap.size, aO ⟨true, x⟩), (w.heap.size, kO 25 (c, f))] L2 L2)))
            (first | exact hS | exact S0)
            (first | (go_at_call 17; refine Calls.mono (SS.out _ (by assumption)) ?_; rintro e w8 ⟨rfl, hS⟩) | (go_at_call 18; refine Calls.mono (CH.out _ _ _ (by first | exact hk | exact kx) (by assumption)) ?_; rintro e w8 ⟨rfl, hS⟩) | (go_at_call 19; refine Calls.mono (DH.out _ _ _ (by assumption)) ?_; rintro e w8 ⟨rfl, hS⟩))
          all_goals
            have Pn := hid (hS.2.out.sub (obs' := [(w.heap.size, kO 25 (c, f))]) fun p hp => by simp at hp; simp [hp])
            clear SS CH DH
            go_wp2
            go_roundw
            case rel => exact ⟨m + 1, L2, by go_num, cm, Pn⟩
            case measure => simp [intOf]; omega
    · have bw := P.out.bel
      go_wp2
      go_ret
      exact ⟨rfl, bw⟩

end Go.Proofs.Ytpbbamoeaalolaa.Wg
