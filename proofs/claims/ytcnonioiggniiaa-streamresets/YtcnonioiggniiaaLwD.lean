/-
  The walk of the law StreamAny: whatever lies in a region, what it is opened with is opened again the same, with what is appended behind it; the law returns true, and nothing that was in memory has turned. Conditions: none but that the arguments lie in memory as such do.
-/
import Derived.Test.YtcnonioiggniiaaSmR
namespace Go.Proofs.Ytcnonioiggniiaa.Wst
open Go.ChangeShapes Go.WideShapes Go.ChangeAt Go.RowKit Go.Proofs.Ytcnonioiggniiaa.M Go.Proofs.Ytcnonioiggniiaa.Wd

theorem laid_new {z : Int} (h3 : 3 ≤ z) (h4 : z ≤ 4096) (x : ByteArray) : Live ((newD (fun _ => z) 1).lay 0 x) 0 z.toNat ∧ (∃ y, ((newD (fun _ => z) 1).lay 0 x).r 0 = ⟨z.toNat, y, []⟩) ∧ ((newD (fun _ => z) 1).lay 0 x).ask = none ∧ ((newD (fun _ => z) 1).lay 0 x).k = 1 := by
  have hz : szN z = z.toNat := by unfold szN; omega
  have hr : ((newD (fun _ => z) 1).lay 0 x).r 0 = (newR z).lay x := rfl
  have hr2 : (newR z).lay x = ⟨z.toNat, fun k => cut64 x (64 * k), []⟩ := by
    show Rg.mk (szN z) _ _ = _
    rw [hz]
  exact ⟨⟨rfl, Nat.zero_lt_one, by rw [hr, hr2]⟩, ⟨_, hr.trans hr2⟩, rfl, rfl⟩

/-- An Open of a region with whatever in it. -/
def AnO (W : World) (D N : Nat) (e : Ending) (w' : World) : Prop :=
  (e = .returned (.tuple #[.pointer none, .slice none 0 0, .int .i64 12]) ∧ Hid (Below W.heap.size W w')) ∨
  (∃ S v F d s, e = .returned (.tuple #[.pointer (some ⟨S, 0, none⟩), v, .int .i64 0]) ∧ Hid (Ss W w' S D s d F ∧ On d s N ∧ s.i = 0 ∧ d.k = 1 ∧ d.ask = none ∧ Rw W w' (Fs F S) v s.L ∧ s.L.length ≤ 200000))
theorem open_anO {W w : World} {D N : Nat} {d : Dk} {F : Nat → Prop} (o : One W w D d F) (hl : Live d 0 N) (hn : 3 ≤ N ∧ N ≤ 4096) {y : Nat → ByteArray} (hr : d.r 0 = ⟨N, y, []⟩) (ha : d.ask = none) (hk : d.k = 1) :
    Calls Try.prog 15 #[.pointer (some ⟨D, 0, none⟩), .int .i64 0] w fun e w' => AnO W D N e w' := by
  obtain ⟨Ly, l⟩ := o.at_
  have hq : ∀ j, j < d.k → (d.r j).q.length ≤ 990000 := fun j hj => by
    have : j = 0 := by omega
    rw [this, hr]
    exact Nat.zero_le _
  refine (open_ l hq 0).mono fun e w' h => ?_
  rcases open_any hl hn hr ha with ⟨x, _⟩ | ⟨x, q1, q2, q3, q4, q5, q6⟩
  · have x : opX d 0 = 12 := x
    rcases h with ⟨h, _⟩ | ⟨_, h1, h2, h3⟩
    · rw [x] at h; cases h
    · rw [x] at h1
      exact .inl ⟨h1, o.bel.trans (h3.below o.bel.size o.own)⟩
  · have x : opX d 0 = 0 := x
    rcases h with ⟨_, h⟩ | ⟨h, _⟩
    · obtain ⟨S, v, F', e1, e2, e3, e4, e5, e6, e7⟩ := opened o h
      have hLL : opL d (0 : Int).toNat = (opT d 0).L := q3.symm
      rw [hLL] at e6
      refine .inr ⟨S, v, F', _, _, e1, e2, q1, q2, q5.trans hk, q6, row_of o.bel.size e6 e7, ?_⟩
      have h1 : (frs (opT d 0).L).size + 1 ≤ 55 * (opT d 0).h := (On.sw q1).1.cap
      have h3 : ∀ (L : List ByteArray), L.length ≤ (frs L).size := fun L => by
        induction L with
        | nil => exact Nat.zero_le _
        | cons b L ih =>
          show L.length + 1 ≤ (fr b ++ frs L).size
          rw [size_app, fr_size]
          omega
      have h4 := h3 (opT d 0).L
      have h5 : (opT d 0).h ≤ 2047 := by
        have := q1.h
        have := hn
        show (opT d ((0 : Nat) : Int)).h ≤ 2047
        omega
      omega
    · exact absurd x h

theorem Rw.at_ {W w : World} {G : Nat → Prop} {a : Option Addr} {n cap : Nat} {L : List ByteArray} (h : Rw W w G (.slice a n cap) L) : War.Lies w a L.length (nth L) := by
  obtain ⟨a', cap', e, _, _, hl⟩ := h.lies
  injection e with e1 e2 e3
  rw [e1]
  exact hl
/-- A Crash and an Open behind it, of a region at rest. -/
def CrO (W w : World) (D N : Nat) (L : List ByteArray) (g : Int) (F : Nat → Prop) (e : Ending) (w' : World) : Prop :=
  ∃ S a cap F' d', e = .returned (.tuple #[.pointer (some ⟨S, 0, none⟩), .slice a L.length cap, .int .i64 0]) ∧ Hid (One W w' D d' F' ∧ M.Rest d' 0 N L (g + 1) ∧ d'.ask = none ∧ d'.k = 1 ∧ Kept F w w' ∧ (∀ b, F' b → F b ∨ w.heap.size ≤ b) ∧ War.Lies w' a L.length (nth L))
theorem open_cr {W w : World} {D N : Nat} {d : Dk} {F : Nat → Prop} {L : List ByteArray} {g : Int} (o : One W w D d F) (r : M.Rest d 0 N L g) (hg : g < 281474976710655) (ha : d.ask = none) (hk : d.k = 1) :
    Calls Try.prog 15 #[.pointer (some ⟨D, 0, none⟩), .int .i64 0] w fun e w' => CrO W w D N L g F e w' :=
  (open_calm o r hg (k1 hk rfl) ha).mono fun e w' ⟨S, v, F', d', s', q1, q2, q3, q4, q5, q6, q7, q8, q9, kp, gr, hS, own, ap⟩ => by
    obtain ⟨a, cap, rfl, _, _, li⟩ := War.own_lies own (fun j hj => rcv_get hj)
    have r1 := q3.rest
    rw [q4, q5] at r1
    exact ⟨S, a, cap, F', d', q1, q2.o, r1.mono q6, q9 ha, q7.trans hk, kp, fun b hb => gr_old b (gr b hb), li⟩

theorem list_len (L : List ByteArray) (x : ByteArray) : (L ++ [x]).length = L.length + 1 := by simp

set_option maxRecDepth 100000 in
set_option maxHeartbeats 2000000 in
theorem lawAny (size : Int) (image : ByteArray) (p : Option Addr) (n cap : Nat) (y : Nat → ByteArray) (w : World) (_ : -9223372036854775808 ≤ size) (_ : size < 9223372036854775808) (_ : image.size ≤ 140737488355328) (hy : ∀ i, (y i).size ≤ maxLen) (hc : n ≤ cap) (_ : cap ≤ maxLen) (hL : War.Lies w p n y) :
    Calls Try.prog 6 #[.int .i64 size, .string image, .slice p n cap] w fun e w' => e = .returned (.bool true) ∧ Below w.heap.size w w' := by
  obtain ⟨i0, hi0, hz0, hz1, hz2⟩ := info_parts infoS
  obtain ⟨q, hq40, m1', m2', m3', m4'⟩ := max_mod size 60 (by omega)
  have m3 : max 0 size % 60 = (q : Int) := m3'
  have m2 : (max 0 size).tmod 60 = (q : Int) := m2'
  clear m1' m2' m3' m4'
  have k2 : min (n : Int) 20 = ((min n 20 : Nat) : Int) := by omega
  obtain ⟨k, hk⟩ : ∃ k, k = min n 20 := ⟨_, rfl⟩
  have hk20 : k ≤ 20 := by omega
  have hkn : k ≤ n := by omega
  rw [← hk] at k2
  clear hk
  obtain ⟨N, hN⟩ : ∃ N : Nat, N = 3 + q := ⟨_, rfl⟩
  have hNq : (3 : Int) + (q : Int) = (N : Int) := by omega
  have hN3 : 3 ≤ N ∧ N ≤ 4096 := by omega
  have C0 := hid (newOne (Below.refl w.heap.size w) (N : Int))
  have LAY : Hid (∀ (W : World) D F, One w W D (newD (fun _ => (N : Int)) 1) F → Calls Try.prog 22 #[.pointer (some ⟨D, 0, none⟩), .int .i64 0, .string image] W fun e w' => e = .returned (.tuple #[]) ∧ Hid (∃ F', One w w' D ((newD (fun _ => (N : Int)) 1).lay 0 image) F')) := fun W D F o => (o.lay 0 image).mono fun e w' ⟨h1, h2, _⟩ => ⟨h1, _, h2⟩
  obtain ⟨L1, ⟨yy, L2⟩, L3, L4⟩ := laid_new (z := (N : Int)) (by omega) (by omega) image
  rw [Int.toNat_natCast] at L1 L2
  have OPN : Hid (∀ (W : World) D F, One w W D ((newD (fun _ => (N : Int)) 1).lay 0 image) F → Calls Try.prog 15 #[.pointer (some ⟨D, 0, none⟩), .int .i64 0] W fun e w' => AnO w D N e w') := fun W D F o => open_anO o L1 hN3 L2 L3 L4
  have HL := hid hL
  have HY := hid hy
  have APP := hid fun (W : World) (S D : Nat) (F : Nat → Prop) (d : Dk) (s : Sm) (b : ByteArray) (hb : b.size ≤ maxLen) (h : Ss w W S D s d F) (o : On d s N) (hi : s.i = 0) (hk : d.k = 1) => append_on h o (k1 hk hi) b hb
  clear hL hy L1 L2 L3 L4 hN
  go_enter Try.func6, Try.ntmps6
  go_wp2_with fail
  refine C0.out.mono ?_
  rintro e w1 ⟨rfl, ⟨F, o⟩, _⟩
  have C1 := hid (LAY.out w1 _ F o)
  obtain ⟨D, hD⟩ : ∃ D, D = w.heap.size + 1 := ⟨_, rfl⟩
  rw [← hD] at C1
  rw [← hD]
  clear o LAY C0 hD
  go_wp2_with fail
  refine C1.out.mono ?_
  rintro e w1 ⟨rfl, h1⟩
  obtain ⟨F1, o⟩ := h1.out
  have O1 := hid (OPN.out w1 _ F1 o)
  clear o OPN C1 h1
  go_wp2_with fail
  refine O1.out.mono ?_
  clear O1
  rintro e w2 (⟨rfl, h2⟩ | ⟨S, v, F2, d2, s2, rfl, h2⟩)
  · go_wp2_with fail
    refine (wakes _).mono ?_
    rintro e w3 ⟨rfl, b3⟩
    have B3 := hid (h2.out.trans (b3.mono h2.out.size))
    clear b3 h2
    go_wp2_with fail
    refine (wakes _).mono ?_
    rintro e w4 ⟨rfl, b4⟩
    have B4 := hid (B3.out.trans (b4.mono B3.out.size))
    clear b4
    go_wp2
    go_ret
    exact ⟨rfl, B4.out⟩
  · go_wp2_with fail
    refine (wakes _).mono ?_
    rintro e w3 ⟨rfl, b3⟩
    obtain ⟨a1, a2, a3, a4, a5, a6, a7⟩ := h2.out
    have G3 := hid (gen (a1.below b3).st)
    have ST := hid (show ∃ F d s, Ss w w3 S D s d F ∧ On d s N ∧ s.i = 0 ∧ d.k = 1 ∧ d.ask = none ∧ Rw w w3 (Fs F S) v s.L ∧ s.L.length ≤ 200000 + 0 ∧ s.g = s2.g from ⟨_, _, _, a1.below b3, a2, a3, a4, a5, a6.below b3, a7, rfl⟩)
    have BE := hid (a1.below b3).o.bel
    clear a1 a2 a3 a4 a5 a6 a7 b3 h2
    generalize s2.g = G at *
    go_wp2_with fail
    refine G3.out.mono ?_
    rintro e w4 ⟨rfl, rfl⟩
    clear G3
    by_cases cG : 281474976710647 < G
    · go_wp2
      go_ret
      exact ⟨rfl, BE.out⟩
    · go_wp2
      go_loopw [9, 60] (fun v iv wr => ∃ i : Nat, i ≤ k ∧ iv = .int .i64 (i : Int) ∧ ∃ F d s, Ss w wr S D s d F ∧ On d s N ∧ s.i = 0 ∧ d.k = 1 ∧ d.ask = none ∧ Rw w wr (Fs F S) v s.L ∧ s.L.length ≤ 200000 + i ∧ s.g = G) (fun _ iv _ => k - (intOf iv).toNat)
      case atStart => exact ⟨0, Nat.zero_le _, rfl, ST.out⟩
      case round =>
        clear ST BE
        obtain ⟨i, hi, rfl, F, d, s, a1, a2, a3, a4, a5, a6, a7, a8⟩ := hrel
        by_cases hlt : i < k
        · rcases HL.out with h | ⟨bb, off, ha, hb, hcell⟩
          · exfalso; omega
          · have hci : wr.cell? ⟨bb, off + i, none⟩ = some (.string (y i)) := by rw [← hcell i (by omega)]; exact a1.o.bel.cell (by exact hb)
            have AP := hid (APP.out wr S D F d s (y i) (HY.out i) a1 a2 a3 a4)
            subst ha
            clear hcell
            have HS := hid (And.intro a1 (And.intro a2 (And.intro a3 (And.intro a4 (And.intro a5 (And.intro a6 (And.intro a7 a8)))))))
            clear a1 a2 a3 a4 a5 a6 a7 a8
            generalize y i = Y at *
            go_wp2_with fail
            refine AP.out.mono ?_
            clear AP
            rintro e w5 ⟨hkp, ⟨q0, rfl, q2⟩ | ⟨q0, rfl, d5, q3, q4, q5, q6, q7⟩ | ⟨_, _, q, _⟩⟩
            · obtain ⟨a1, a2, a3, a4, a5, a6, a7, a8⟩ := HS.out
              have G5 := hid (show ∃ F d s, Ss w w5 S D s d F ∧ On d s N ∧ s.i = 0 ∧ d.k = 1 ∧ d.ask = none ∧ Rw w w5 (Fs F S) u9 s.L ∧ s.L.length ≤ 200000 + (i + 1) ∧ s.g = G from ⟨_, _, _, q2, a2, a3, a4, a5, a6.kept hkp fs_gr, by omega, a8⟩)
              have cb : (s.apE Y == 0) = false := by simpa using q0
              clear a1 a2 a3 a4 a5 a6 a7 a8 HS hkp q0 q2
              generalize s.apE Y = E at *
              go_wp2
              go_roundw
              case rel => exact ⟨i + 1, by omega, by go_num, G5.out⟩
              case measure => simp [intOf] <;> omega
            · obtain ⟨a1, a2, a3, a4, a5, a6, a7, a8⟩ := HS.out
              have R5 := a6.kept hkp (fs_gr (w' := w5))
              have hown1 := R5.own
              have hbase := q3.o.bel.size
              have R5 := hid R5
              have Q3 := hid (And.intro q3 (And.intro q4 (And.intro q6 (And.intro (q7 a5) (And.intro a3 (And.intro a8 a4))))))
              have hl5 : s.L.length ≤ 200000 + i := a7
              obtain ⟨l, hll⟩ : ∃ l, s.L.length = l := ⟨_, rfl⟩
              have HLL := hid hll
              rw [hll] at hown1 hl5
              clear hll
              clear a1 a2 a3 a4 a5 a6 a7 a8 HS hkp q0 q3 q4 q5 q6 q7
              go_wp2_with (at_builtin; refine wpList_append_lies _ rfl _ _ 24 rfl w.heap.size 9 i0 (.string ⟨#[]⟩) 1 16 Try.underlying24 hi0 hz0 hz1 hz2 rfl (by decide) _ _ _ rfl (hown1.alloc _) ⟨w5.heap.size, 0, none⟩ 1 1 [.string Y] rfl rfl ?c1 ?c2 ?c6 ?c3 ?c4 ?c5 (w5.heap.size + 1) ?c7 ?_)
              case c1 =>
                intro j u hj
                match j, hj with
                | 0, hj => simp at hj; subst hj; simp [Addr.add]
              case c2 => intro u hu; simp at hu; subst hu; rfl
              case c3 => unfold maxLen; omega
              case c4 => omega
              case c5 => simp; omega
              case c6 => omega
              case c7 => simp
              · intro g cap2 w6 own6 gr6 hg6 _
                obtain ⟨r1, r2, r3⟩ := R5.out.grown Q3.out.1.flt (by rw [HLL.out]; exact own6) gr6 hg6
                have S6 := Q3.out.1.grown R5.out gr6 r2 r3
                have G6 := hid (show ∃ F d s, Ss w w6 S D s d F ∧ On d s N ∧ s.i = 0 ∧ d.k = 1 ∧ d.ask = none ∧ Rw w w6 (Fs F S) (.slice (some ⟨g, 0, none⟩) (l + 1) cap2) s.L ∧ s.L.length ≤ 200000 + (i + 1) ∧ s.g = G from ⟨_, _, _, S6, Q3.out.2.1, Q3.out.2.2.2.2.1, Q3.out.2.2.1.trans Q3.out.2.2.2.2.2.2, Q3.out.2.2.2.1, by rw [← HLL.out]; exact r1, by show (s.L ++ [Y]).length ≤ _; rw [list_len, HLL.out]; omega, Q3.out.2.2.2.2.2.1⟩)
                clear own6 gr6 hg6 r1 r2 r3 S6 hown1
                go_wp2
                go_roundw
                case rel => exact ⟨i + 1, by omega, by go_num, G6.out⟩
                case measure => simp [intOf] <;> omega
            · obtain ⟨a1, a2, a3, a4, a5, a6, a7, a8⟩ := HS.out
              exact absurd a5 q
        · obtain ⟨a, cap1, rfl, _, _, _⟩ := a6.lies
          have r1 := a2.rest
          rw [a3] at r1
          have ST2 := hid (show ∃ F d g, One w wr D d F ∧ M.Rest d 0 N s.L g ∧ d.ask = none ∧ d.k = 1 ∧ g ≤ G + ((0 : Nat) : Int) ∧ Rw w wr F (.slice a s.L.length cap1) s.L from ⟨_, _, _, a1.o, r1, a5, a4, by omega, a6.mono fun _ hb => .inl hb⟩)
          have hll : s.L.length ≤ 210000 := by omega
          clear a1 a2 a3 a4 a5 a6 a7 a8 r1 HL HY APP
          generalize s.L = L at *
          go_wp2
          go_loopw [73] (fun jv wr => ∃ j : Nat, j ≤ 2 ∧ jv = .int .i64 (j : Int) ∧ ∃ F d g, One w wr D d F ∧ M.Rest d 0 N L g ∧ d.ask = none ∧ d.k = 1 ∧ g ≤ G + (j : Int) ∧ Rw w wr F (.slice a L.length cap1) L) (fun jv _ => 2 - (intOf jv).toNat)
          case atStart => exact ⟨0, Nat.zero_le _, rfl, ST2.out⟩
          case round =>
            clear ST2
            obtain ⟨j, hj, rfl, F, d, g, o, r, ha, hk1, hg, R⟩ := hrel
            by_cases hjt : j < 2
            · have CR := hid (crash_none o (rest_q r (k1 hk1 rfl)))
              have rc := r.crash []
              have KK := hid (show (d.crash []).k = 1 from hk1)
              have RR := hid (And.intro R (And.intro rc.1 rc.2))
              clear o r R rc ha hk1
              go_wp2_with fail
              refine CR.out.mono ?_
              rintro e w5 ⟨rfl, o5, k5⟩
              have OC := hid (open_cr o5 RR.out.2.1 (by omega) RR.out.2.2 KK.out)
              have R5 := hid (RR.out.1.kept k5 (gr_old (w' := w5)))
              clear o5 k5 RR KK CR
              go_wp2_with fail
              refine OC.out.mono ?_
              rintro e w6 ⟨S6, a6, cap6, F6, d6, rfl, h6⟩
              obtain ⟨b1, b2, b3, b4, b5, b6, b7⟩ := h6.out
              have R6 := R5.out.kept b5 b6
              have EQ := hid (equal_ L L a a6 cap1 cap6 w6 R6.at_ b7 (by omega))
              rw [decide_eq_true rfl] at EQ
              have FIN := hid (show ∀ W, Below w6.heap.size w6 W → ∃ F d g, One w W D d F ∧ M.Rest d 0 N L g ∧ d.ask = none ∧ d.k = 1 ∧ g ≤ G + ((j + 1 : Nat) : Int) ∧ Rw w W F (.slice a L.length cap1) L from fun W hW => ⟨_, _, _, b1.below hW, b2, b3, b4, by omega, R6.below hW⟩)
              clear b1 b2 b3 b4 b5 b6 b7 R6 h6 R5 OC
              go_wp2_with fail
              refine EQ.out.mono ?_
              rintro e w7 ⟨rfl, b7⟩
              have F7 := hid (FIN.out w7 b7)
              clear FIN b7 EQ
              go_wp2
              go_roundw
              case rel => exact ⟨j + 1, by omega, by go_num, F7.out⟩
              case measure => simp [intOf] <;> omega
            · have BE := hid o.bel
              clear o r ha hk1 R
              go_wp2
              go_ret
              exact ⟨rfl, BE.out⟩

end Go.Proofs.Ytcnonioiggniiaa.Wst
