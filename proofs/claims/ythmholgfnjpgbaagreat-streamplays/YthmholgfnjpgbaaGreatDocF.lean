/-
  The walk of the document's Records: the records of a region, the greatest generation and the half. Nothing that was in memory turns.
-/
import Derived.Test.YthmholgfnjpgbaaGreatDocE
namespace Go.Proofs.YthmholgfnjpgbaaGreat.Wdc
open Go.ChangeShapes Go.WideShapes Go.ChangeAt Go.RowKit Go.Proofs.YthmholgfnjpgbaaGreat.M Go.Proofs.YthmholgfnjpgbaaGreat.Wd Go.Proofs.YthmholgfnjpgbaaGreat.Wst

/-- The first texts of a region, as a list. -/
def fst_ (y : Nat → ByteArray) (j : Nat) : List ByteArray := (List.range j).map y
theorem fst_len (y : Nat → ByteArray) (j : Nat) : (fst_ y j).length = j := by simp [fst_]
theorem fst_add (y : Nat → ByteArray) (j : Nat) : rcv (fst_ y (j + 1)) = rcv (fst_ y j) ++ [.string (y j)] := by
  simp [fst_, rcv, List.range_succ]
theorem fst_get (y : Nat → ByteArray) {j k : Nat} (h : k < j) : (rcv (fst_ y j))[k]? = some (.string (y k)) := by
  simp [fst_, rcv, h]

set_option maxRecDepth 100000 in
set_option maxHeartbeats 1600000 in
theorem records {w : World} {E : Nat} {d : Dk} {G : Nat → Prop} {L : Wr.Lr} (h : Wr.RkL w E d G L) (hq : ∀ j, j < d.k → (d.r j).q.length ≤ 1048576) {i : Nat} (hi : i < d.k) (h3 : 3 ≤ (d.r i).n) (off : d.off = false) :
    Calls Tryz.prog 29 #[.pointer (some ⟨E, 0, none⟩), .int .i64 (i : Int), .int .i64 ((((d.r i).n - 1) / 2 : Nat) : Int)] w fun e w' => ∃ v, e = .returned (.tuple #[v, .int .i64 (opS d i).g, .int .i64 ((opS d i).half : Int), .int .i64 0]) ∧ w'.ownsRow w.heap.size 9 1 v (opL d i).length (rcv (opL d i)) ∧ Below w.heap.size w w' := by
  obtain ⟨i0, hi0, hz0, hz1, hz2⟩ := info_parts infoS
  have C1 := hid (Wr.sectorsR h (i : Int))
  have e1 : d.secs (i : Int) = (d.r i).n := by
    unfold Dk.secs Dk.has
    rw [if_pos (decide_eq_true ⟨by omega, by omega⟩), Int.toNat_natCast]
  rw [e1] at C1
  have hn := (h.ok.r i hi).n
  have RD := hid fun (W : World) (hW : Below w.heap.size w W) j (hj : j < (d.r i).n) => by
    have C := Wr.readR (h.below hW) hq (i : Int) (j : Int)
    obtain ⟨q1, q2⟩ := read_on hi off hj
    rw [q1, q2] at C
    exact C
  have y64 : ∀ k, (opY d i k).size = 64 := fun k => rd_size (h.ok.r i hi) k
  have hOL : opL d i = recs (dtOf (opY d i) (((d.r i).n - 1) / 2)) := rfl
  have hG : (opS d i).g = gg (opY d i) (((d.r i).n - 1) / 2) := rfl
  have hHf : (opS d i).half = hH (opY d i 0) := rfl
  rw [hOL, hG, hHf]
  clear hOL hG hHf e1 hq off h
  generalize opY d i = y at *
  generalize (d.r i).n = n at *
  obtain ⟨h, hhd⟩ : ∃ h, h = (n - 1) / 2 := ⟨_, rfl⟩
  rw [← hhd]
  have hn2 : 1 + 2 * h ≤ n := by omega
  have hh1 : 1 ≤ h ∧ h ≤ 2047 := by omega
  clear hhd
  have HG : Hid (gg y h = max (hG (y 0)) (nw (fun j => y (1 + j)) (2 * h))) := rfl
  have NR := nw_range (fun j => y (1 + j)) (2 * h)
  have GR := hG_range (y 0)
  have HD : Hid (dtOf y h = if 0 < hG (y 0) then jn (fun j => y (1 + hH (y 0) * h + j)) (hG (y 0)) 0 h else ⟨#[]⟩) := rfl
  have HH := hH_lt (y 0)
  have CP := hid fun w => parse (y 0) w (y64 0)
  have CN : Hid (∀ (V W : World) b off cap, b < V.heap.size → (∀ i, i < n → V.cell? ⟨b, off + i, none⟩ = some (.string (y i))) → Below V.heap.size V W → Calls Tryz.prog 71 #[.slice (some ⟨b, off + 1, none⟩) (2 * h) (cap - 1)] W fun e w' => e = .returned (.int .i64 (nw (fun j => y (1 + j)) (2 * h))) ∧ Below W.heap.size W w') := fun V W b off cap hb hc hW => by
    exact War.newestRef (some ⟨b, off + 1, none⟩) (2 * h) (cap - 1) (fun j => y (1 + j)) W (fun i _ => by rw [y64]; decide) (by omega) (.inr ⟨b, off + 1, rfl, Nat.lt_of_lt_of_le hb hW.size, fun i hi => by rw [Nat.add_assoc]; exact (hW.cell (by exact hb)).trans (hc (1 + i) (by omega))⟩)
  obtain ⟨P, hPd⟩ : ∃ P, P = hH (y 0) * h := ⟨_, rfl⟩
  have hPle : 1 + P + h ≤ n := by
    rcases (by omega : hH (y 0) = 0 ∨ hH (y 0) = 1) with e | e <;> rw [e] at hPd <;> omega
  have hP : (hH (y 0) : Int) * (h : Int) = (P : Int) := by rw [hPd]; push_cast; rfl
  have CJ : Hid (∀ (V W : World) b off cap, b < V.heap.size → (∀ i, i < n → V.cell? ⟨b, off + i, none⟩ = some (.string (y i))) → Below V.heap.size V W → Calls Tryz.prog 69 #[.slice (some ⟨b, off + (1 + P), none⟩) h (cap - (1 + P)), .int .i64 (hG (y 0))] W fun e w' => e = .returned (.string (jn (fun j => y (1 + hH (y 0) * h + j)) (hG (y 0)) 0 h)) ∧ Below W.heap.size W w') := fun V W b off cap hb hc hW => by
    rw [← hPd]
    exact War.joinRef (some ⟨b, off + (1 + P), none⟩) h (cap - (1 + P)) (fun j => y (1 + P + j)) (hG (y 0)) W (fun i _ => by rw [y64]; decide) (by omega) (.inr ⟨b, off + (1 + P), rfl, Nat.lt_of_lt_of_le hb hW.size, fun i hi => by rw [Nat.add_assoc]; exact (hW.cell (by exact hb)).trans (hc (1 + P + i) (by omega))⟩)
  have JS := jn_size (fun j => y (1 + hH (y 0) * h + j)) (hG (y 0)) h 0
  rw [← hPd] at HD CJ JS
  clear hPd y64
  have START : Hid (∃ a cap, (Value.slice none 0 0) = .slice a 0 cap ∧ w.ownsRow w.heap.size 9 1 (.slice a 0 cap) 0 (rcv (fst_ y 0))) := ⟨none, 0, rfl, World.ownsRow_nil _ _ _ _⟩
  generalize jn (fun j => y (1 + P + j)) (hG (y 0)) 0 h = T at *
  generalize nw (fun j => y (1 + j)) (2 * h) = NW at *
  generalize dtOf y h = DT at *
  generalize gg y h = GG at *
  generalize hH (y 0) = H at *
  generalize hG (y 0) = g0 at *
  go_enter Tryz.func29, Tryz.ntmps29
  go_wp2_with fail
  refine C1.out.mono ?_
  rintro e w1 ⟨rfl, rfl⟩
  go_wp2
  go_loopw [10, 12] (fun av jv wr => ∃ j : Nat, j ≤ n ∧ jv = .int .i64 (j : Int) ∧ Below w.heap.size w wr ∧ ∃ a cap, av = .slice a j cap ∧ wr.ownsRow w.heap.size 9 1 (.slice a j cap) j (rcv (fst_ y j))) (fun _ jv _ => n - (intOf jv).toNat)
  case atStart =>
    exact ⟨0, Nat.zero_le _, rfl, Below.refl _ _, START.out⟩
  case round =>
    clear START
    obtain ⟨j, hj, rfl, hbel, a, cap, rfl, own⟩ := hrel
    by_cases hlt : j < n
    · have C := hid (RD.out wr hbel j hlt)
      have OW := hid fun o => own.alloc o
      have NX := hid (fst_add y j)
      have BN := hid fun (w6 : World) (o : Obj) (gr : (wr.alloc o).grownBy w6 (Value.slice a j cap).ownBlock) => show Below w.heap.size w w6 from (by
        have bA := hbel.alloc hbel.size o
        refine ⟨gr.os.trans bA.os, gr.tape.trans bA.tape, gr.output.trans bA.output, Nat.le_trans bA.size gr.size, fun k hk => ?_⟩
        rw [gr.block k (Nat.lt_of_lt_of_le hk bA.size) (fun c => by have := (own.lt k c.symm).1; omega)]
        exact bA.block k hk)
      have hzz := hbel.size
      clear own hbel RD CN CJ CP C1 HG HD
      generalize y j = x at *
      go_wp2_with fail
      refine C.out.mono ?_
      rintro e w1 ⟨rfl, rfl⟩
      go_wp2_with (at_builtin; refine wpList_append_lies _ rfl _ _ 31 rfl w.heap.size 9 i0 (.string ⟨#[]⟩) 1 16 Tryz.underlying31 hi0 hz0 hz1 hz2 rfl (by decide) _ _ _ rfl (OW.out _) ⟨wr.heap.size, 0, none⟩ 1 1 [.string x] rfl rfl (World.news_of_block (heap_alloc_last wr _)) (by intro u hu; simp at hu; subst hu; rfl) (by decide) (by unfold maxLen; omega) (by omega) (by show _ ≤ (World.alloc _ _).heap.size; simp; omega) (wr.heap.size + 1) (by simp) ?_)
      intro g cap2 w6 own6 gr6 hg6 _
      have B6 := hid (BN.out w6 _ gr6)
      have O6 := hid own6
      clear own6 gr6 hg6 BN OW
      go_wp2
      go_roundw
      case rel => exact ⟨j + 1, by omega, by go_num, B6.out, _, _, rfl, by rw [NX.out]; exact O6.out⟩
      case measure => simp [intOf] <;> omega
    · obtain rfl : j = n := by omega
      obtain ⟨a2, cap2, e2, hc1, hc2, hL⟩ := War.own_lies own (f := y) fun k hk => fst_get y hk
      injection e2 with e3 e4 e5
      subst e3 e5
      rcases hL with hL | ⟨b, off, rfl, hb, hcell⟩
      · exfalso; omega
      have k0 : wr.cell? ⟨b, off, none⟩ = some (.string (y 0)) := hcell 0 (by omega)
      have CN1 := hid fun W hW => CN.out wr W b off cap hb hcell hW
      have CJ1 := hid fun W hW => CJ.out wr W b off cap hb hcell hW
      have SL1 := run_cut b off j cap 1 (1 + 2 * h) (by omega) (by omega) (by omega) 1 (1 + 2 * (h : Int)) rfl (by omega)
      have SL2 := run_cut b off j cap (1 + P) (1 + P + h) (by omega) (by omega) (by omega) (1 + (P : Int)) (1 + (P : Int) + (h : Int)) (by omega) (by omega)
      rw [show 1 + 2 * h - 1 = 2 * h by omega] at SL1
      rw [show 1 + P + h - (1 + P) = h by omega] at SL2
      have BL := hid hbel
      clear hcell own CN CJ RD hbel C1
      generalize y 0 = Y at *
      by_cases c : 0 < g0
      · have HE : Hid (GG = max g0 NW ∧ DT = T) := ⟨HG.out, by rw [HD.out, if_pos c]⟩
        have CA := hid fun w => Wa.allRef T w (by omega)
        have BR := hid fun k h => bds_recs (T := T) (k := k) h
        clear HG HD JS
        go_wp2_with fail
        refine (CP.out _).mono ?_
        rintro e w3 ⟨rfl, b3⟩
        have CJ2 := hid (CJ1.out w3 b3)
        clear CP CJ1 k0
        go_wp2_with fail
        refine CJ2.out.mono ?_
        rintro e w4 ⟨rfl, b4⟩
        have B4 := b3.trans (b4.mono b3.size)
        clear b3 b4 CJ2
        go_wp2_with fail
        refine (CA.out w4).mono ?_
        rintro e w5 ⟨k, v, hF, rfl, own, b5⟩
        have B5 := B4.trans (b5.mono B4.size)
        have CN2 := hid (CN1.out w5 B5)
        have OW := hid own
        have BD := hid (BR.out k hF)
        have z4 := B4.size
        clear own b5 B4 CN1 CA BR hF
        go_wp2_with fail
        refine CN2.out.mono ?_
        rintro e w6 ⟨rfl, b6⟩
        have B6 := hid (B5.trans (b6.mono B5.size))
        have O6 : Hid (w6.ownsRow w.heap.size 9 1 v (recs T).length (rcv (recs T))) := by
          have o := OW.out
          rw [BD.out.2, BD.out.1] at o
          exact own_keep o (Nat.le_trans BL.out.size z4) fun i _ h2 => b6.block i h2
        clear b6 B5 CN2
        by_cases cg : g0 < NW
        · have em : max g0 NW = NW := by omega
          go_wp2
          refine bodyPost_ret (v := .tuple #[v, .int .i64 NW, .int .i64 (H : Int), .int .i64 0]) (by simp [results, Tryz.results29, go_sem]) rfl ?_
          exact ⟨v, by rw [HE.out.1, em], by rw [HE.out.2]; exact O6.out, BL.out.trans (B6.out.mono BL.out.size)⟩
        · have em : max g0 NW = g0 := by omega
          go_wp2
          refine bodyPost_ret (v := .tuple #[v, .int .i64 g0, .int .i64 (H : Int), .int .i64 0]) (by simp [results, Tryz.results29, go_sem]) rfl ?_
          exact ⟨v, by rw [HE.out.1, em], by rw [HE.out.2]; exact O6.out, BL.out.trans (B6.out.mono BL.out.size)⟩
      · have HE : Hid (GG = NW ∧ DT = ⟨#[]⟩) := by
          refine ⟨?_, by rw [HD.out, if_neg c]⟩
          rw [HG.out]
          omega
        have R0 : Hid (recs ⟨#[]⟩ = []) := recs_eq bods_none
        have G0 : g0 = 0 := by omega
        subst G0
        clear HG HD JS c
        go_wp2_with fail
        refine (CP.out _).mono ?_
        rintro e w3 ⟨rfl, b3⟩
        have CN2 := hid (CN1.out w3 b3)
        clear CP CJ1 CN1 k0
        go_wp2_with fail
        refine CN2.out.mono ?_
        rintro e w6 ⟨rfl, b6⟩
        have B6 := hid (b3.trans (b6.mono b3.size))
        clear b6 b3 CN2
        by_cases cg : 0 < NW
        · go_wp2
          refine bodyPost_ret (v := .tuple #[.slice none 0 0, .int .i64 NW, .int .i64 (H : Int), .int .i64 0]) (by simp [results, Tryz.results29, go_sem]) rfl ?_
          exact ⟨.slice none 0 0, by rw [HE.out.1], by rw [HE.out.2, R0.out]; exact World.ownsRow_nil _ _ _ _, BL.out.trans (B6.out.mono BL.out.size)⟩
        · have em : NW = 0 := by omega
          go_wp2
          refine bodyPost_ret (v := .tuple #[.slice none 0 0, .int .i64 0, .int .i64 (H : Int), .int .i64 0]) (by simp [results, Tryz.results29, go_sem]) rfl ?_
          exact ⟨.slice none 0 0, by rw [HE.out.1, em], by rw [HE.out.2, R0.out]; exact World.ownsRow_nil _ _ _ _, BL.out.trans (B6.out.mono BL.out.size)⟩

set_option maxRecDepth 100000 in
theorem recordsOff {w : World} {E : Nat} {d : Dk} {G : Nat → Prop} {L : Wr.Lr} (h : Wr.RkL w E d G L) (hq : ∀ j, j < d.k → (d.r j).q.length ≤ 1048576) {i : Nat} (hi : i < d.k) (h3 : 3 ≤ (d.r i).n) (off : d.off = true) (z : Int) :
    Calls Tryz.prog 29 #[.pointer (some ⟨E, 0, none⟩), .int .i64 (i : Int), .int .i64 z] w fun e w' => e = .returned (.tuple #[.slice none 0 0, .int .i64 0, .int .i64 1, .int .i64 11]) ∧ Below w.heap.size w w' := by
  have C1 := hid (Wr.sectorsR h (i : Int))
  have e1 : d.secs (i : Int) = (d.r i).n := by
    unfold Dk.secs Dk.has
    rw [if_pos (decide_eq_true ⟨by omega, by omega⟩), Int.toNat_natCast]
  rw [e1] at C1
  have hn := (h.ok.r i hi).n
  have RD := hid fun (W : World) (hW : Below w.heap.size w W) => by
    have C := Wr.readR (h.below hW) hq (i : Int) 0
    have q1 : d.readE (i : Int) 0 = 11 := by unfold Dk.readE; rw [if_pos off]
    rw [q1] at C
    exact C
  generalize d.readB (i : Int) 0 = x at *
  generalize (d.r i).n = n at *
  clear e1 hq off
  go_enter Tryz.func29, Tryz.ntmps29
  go_wp2_with fail
  refine C1.out.mono ?_
  rintro e w1 ⟨rfl, rfl⟩
  go_wp2
  go_loopw [10, 12] (fun av jv wr => av = .slice none 0 0 ∧ jv = .int .i64 0 ∧ Below w.heap.size w wr) (fun _ jv _ => n - (intOf jv).toNat)
  case atStart => exact ⟨rfl, rfl, Below.refl _ _⟩
  case round =>
    obtain ⟨rfl, rfl, hbel⟩ := hrel
    have C := hid (RD.out wr hbel)
    go_wp2_with fail
    refine C.out.mono ?_
    rintro e w1 ⟨rfl, rfl⟩
    go_wp2
    refine bodyPost_ret (v := .tuple #[.slice none 0 0, .int .i64 0, .int .i64 1, .int .i64 11]) (by simp [results, Tryz.results29, go_sem]) rfl ?_
    exact ⟨rfl, hbel⟩

end Go.Proofs.YthmholgfnjpgbaaGreat.Wdc
