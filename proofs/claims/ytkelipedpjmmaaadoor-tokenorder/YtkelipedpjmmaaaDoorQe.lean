/-
  Several texts in one. The walk of token.Mint: the token that 'mint' says; nothing that was in memory has turned. Conditions: keys of at most 2^47 bytes, numbers of 64 bits; the table of the rounds' numbers holds what it was laid with. The walk of the laws' wakes: it returns true; nothing that was in memory has turned. Conditions: the table of the rounds' numbers holds what it was laid with.
-/
import Derived.Test.YtkelipedpjmmaaaDoorRows
import Derived.Test.YtkelipedpjmmaaaDoorQc
import Derived.Test.YtkelipedpjmmaaaDoorMMask
import Derived.Test.YtkelipedpjmmaaaDoorMade
import Derived.Test.YtkelipedpjmmaaaDoorPutV
import Derived.Test.YtkelipedpjmmaaaDoorRead
import Derived.Test.YtkelipedpjmmaaaDoorQd
import Derived.Laws.IdiomStrings
namespace Go.Proofs.YtkelipedpjmmaaaDoor.Wtk
open Go.ChangeShapes Go.WideShapes Go.ChangeAt Go.RowKit Go.Proofs.YtkelipedpjmmaaaDoor.M Go.Proofs.YtkelipedpjmmaaaDoor.Wh

theorem put_claims {a b c d : Int} (ha : I6 a) (hb : I6 b) (hc : I6 c) (hd : I6 d) (W : World) (A : Nat → Prop) (pa : Option Addr) (ca : Nat) (hR : Rd W A (.slice pa 4 ca) (cF a b c d)) :
    Calls Tryd.prog 22 #[.agg #[.int .i64 2, .int .i64 0, .string ⟨#[]⟩, .slice pa 4 ca]] W fun e w' => e = .returned (.tuple #[.string (cB a b c d), .int .i64 0]) ∧ Below W.heap.size W w' := by
  have h := Wu.put 2 0 ⟨#[]⟩ (cF a b c d) pa ca A W (cV_ok ha hb hc hd) hR (Nat.le_trans (cF_wt ha hb hc hd) (by decide))
  obtain ⟨l, hl⟩ := cE a b c d
  have e : cB a b c d = Wu.bytesB (.ok l) := by unfold cB; rw [hl]
  rw [hl] at h
  rw [e]
  exact h

/-- The claims' own cell, and what was there. -/
def Mw (w : World) (a b c d : Int) (W : World) : Prop := W.heap[w.heap.size]? = some (.cells #[.int .i64 a, .int .i64 b, .int .i64 c, .int .i64 d] 23 (0, 0)) ∧ Below w.heap.size w W
def Ms (w : World) (a b c d : Int) (w' : World) : Prop := w'.cell? ⟨w.heap.size, 0, none⟩ = some (.int .i64 a) ∧ w'.cell? ⟨w.heap.size, 1, none⟩ = some (.int .i64 b) ∧ w'.cell? ⟨w.heap.size, 2, none⟩ = some (.int .i64 c) ∧ w'.cell? ⟨w.heap.size, 3, none⟩ = some (.int .i64 d)
theorem Mw.cells {w W : World} {a b c d : Int} (h : Mw w a b c d W) : Ms w a b c d W := by
  obtain ⟨h, _⟩ := h
  exact ⟨by simp [World.cell?, h], by simp [World.cell?, h], by simp [World.cell?, h], by simp [World.cell?, h]⟩
theorem Mw.below {w W W' : World} {a b c d : Int} (h : Mw w a b c d W) (k : Below W.heap.size W W') : Mw w a b c d W' := ⟨(k.block _ (lt_of_heap h.1)).trans h.1, h.2.trans (k.mono h.2.size)⟩
theorem mw_start (w : World) (a b c d : Int) : Mw w a b c d (w.alloc (.cells #[.int .i64 a, .int .i64 b, .int .i64 c, .int .i64 d] 23)) := ⟨heap_alloc_new w _, (Below.refl w.heap.size w).alloc (Nat.le_refl _) _⟩

set_option maxRecDepth 100000 in
set_option maxHeartbeats 1000000 in
theorem mint_ (K : ByteArray) (a b c d : Int) (w : World) (hK : K.size ≤ 140737488355328) (ha : I6 a) (hb : I6 b) (hc : I6 c) (hd : I6 d) (hT : Tab w) :
    Calls Tryd.prog 13 #[.string K, .agg #[.int .i64 a, .int .i64 b, .int .i64 c, .int .i64 d]] w fun e w' => e = .returned (.string (mint K a b c d)) ∧ Below w.heap.size w w' := by
  have CP : Hid _ := put_claims ha hb hc hd
  have OK : Hid (cF a b c d).ok := cF_ok ha hb hc hd
  have HT : Hid (Tab w) := hT
  have hz := cB_size ha hb hc hd
  have hts := tag_size K (cB a b c d)
  have CT : Hid (∀ w, Tab w → Calls Tryd.prog 20 #[.string K, .string (cB a b c d)] w fun e w' => e = .returned (.string (tag K (cB a b c d))) ∧ Below w.heap.size w w') := fun w h => Wm.tag_ _ _ w (by omega) (by omega) h
  have HM : Hid (mint K a b c d = cB a b c d ++ tag K (cB a b c d)) := rfl
  rw [HM.out]
  generalize tag K (cB a b c d) = TG at *
  generalize cB a b c d = CB at *
  have CN : Hid (∀ (n : Int) (W : World), Hid (Mw w a b c d W) → Calls Tryd.prog 24 #[.int .i64 n] W fun e w' => e = .returned (.agg #[.int .i64 0, .int .i64 n, .string ⟨#[]⟩, .slice none 0 0]) ∧ Hid (Mw w a b c d w') ∧ (w'.cell? ⟨w.heap.size, 0, none⟩ = some (.int .i64 a) ∧ w'.cell? ⟨w.heap.size, 1, none⟩ = some (.int .i64 b) ∧ w'.cell? ⟨w.heap.size, 2, none⟩ = some (.int .i64 c) ∧ w'.cell? ⟨w.heap.size, 3, none⟩ = some (.int .i64 d))) :=
    fun n W h => (Wy.num n W).mono fun e w' ⟨h1, h2⟩ => ⟨h1, h.out.below h2, (h.out.below h2).cells⟩
  have CA : Hid (∀ (W : World), Hid (Mw w a b c d W) → Calls Tryd.prog 23 #[.slice (some ⟨W.heap.size, 0, none⟩) 4 4] (W.alloc (.cells #[.int .i64 0, .int .i64 a, .string ⟨#[]⟩, .slice none 0 0, .int .i64 0, .int .i64 b, .string ⟨#[]⟩, .slice none 0 0, .int .i64 0, .int .i64 c, .string ⟨#[]⟩, .slice none 0 0, .int .i64 0, .int .i64 d, .string ⟨#[]⟩, .slice none 0 0] 50)) fun e w' => ∃ pa ca, e = .returned (.agg #[.int .i64 2, .int .i64 0, .string ⟨#[]⟩, .slice pa 4 ca]) ∧ Hid (Rd w' (fun g => w.heap.size ≤ g) (.slice pa 4 ca) (cF a b c d)) ∧ Hid (Mw w a b c d w') ∧ (w'.cell? ⟨w.heap.size, 0, none⟩ = some (.int .i64 a) ∧ w'.cell? ⟨w.heap.size, 1, none⟩ = some (.int .i64 b) ∧ w'.cell? ⟨w.heap.size, 2, none⟩ = some (.int .i64 c) ∧ w'.cell? ⟨w.heap.size, 3, none⟩ = some (.int .i64 d))) := fun W h => by
    obtain ⟨X, hX⟩ : ∃ X, X = W.alloc (.cells #[.int .i64 0, .int .i64 a, .string ⟨#[]⟩, .slice none 0 0, .int .i64 0, .int .i64 b, .string ⟨#[]⟩, .slice none 0 0, .int .i64 0, .int .i64 c, .string ⟨#[]⟩, .slice none 0 0, .int .i64 0, .int .i64 d, .string ⟨#[]⟩, .slice none 0 0] 50) := ⟨_, rfl⟩
    have hg := heap_alloc_new W (.cells #[.int .i64 0, .int .i64 a, .string ⟨#[]⟩, .slice none 0 0, .int .i64 0, .int .i64 b, .string ⟨#[]⟩, .slice none 0 0, .int .i64 0, .int .i64 c, .string ⟨#[]⟩, .slice none 0 0, .int .i64 0, .int .i64 d, .string ⟨#[]⟩, .slice none 0 0] 50)
    have hb : Below W.heap.size W X := by rw [hX]; exact (Below.refl _ _).alloc (Nat.le_refl _) _
    rw [← hX] at hg ⊢
    have RV : Rd X (fun _ => True) (.slice (some ⟨W.heap.size, 0, none⟩) (cF a b c d).len 4) (cF a b c d) :=
      rd_row (A := fun _ => True) (f := cF a b c d) hg trivial (fun _ h => h) ⟨_, _, rfl, ⟨_, _, rfl, ⟨_, _, rfl, ⟨_, _, rfl, rfl, rd_nil _ _⟩, rd_nil _ _⟩, rd_nil _ _⟩, rd_nil _ _⟩ (Nat.le_refl _) (by decide)
    refine (Wy.all (cF a b c d) _ _ _ (show (4 : Nat) ≤ 1000000 by decide) OK.out RV).mono ?_
    rintro e w3 ⟨pa, ca, rfl, ra, b3⟩
    have z := (h.out.below hb).below b3
    have zs := h.out.2.size
    have zz := hb.size
    exact ⟨pa, ca, rfl, rd_of (fun g (hg : X.heap.size ≤ g) => by show w.heap.size ≤ g; omega) (fun _ _ _ h => h) ra, z, z.cells⟩
  have CQ : Hid (∀ (W : World) (pa : Option Addr) (ca : Nat), Hid (Rd W (fun g => w.heap.size ≤ g) (.slice pa 4 ca) (cF a b c d)) → Hid (Mw w a b c d W) → Calls Tryd.prog 22 #[.agg #[.int .i64 2, .int .i64 0, .string ⟨#[]⟩, .slice pa 4 ca]] W fun e w' => e = .returned (.tuple #[.string CB, .int .i64 0]) ∧ Hid (Mw w a b c d w') ∧ (w'.cell? ⟨w.heap.size, 0, none⟩ = some (.int .i64 a) ∧ w'.cell? ⟨w.heap.size, 1, none⟩ = some (.int .i64 b) ∧ w'.cell? ⟨w.heap.size, 2, none⟩ = some (.int .i64 c) ∧ w'.cell? ⟨w.heap.size, 3, none⟩ = some (.int .i64 d))) :=
    fun W pa ca hR h => (CP.out W _ pa ca hR.out).mono fun e w' ⟨h1, h2⟩ => ⟨h1, h.out.below h2, (h.out.below h2).cells⟩
  have BB : Hid (Mw w a b c d (w.alloc (.cells #[.int .i64 a, .int .i64 b, .int .i64 c, .int .i64 d] 23)).drew) := (mw_start w a b c d).below (Below.refl _ _).drew
  have hS := (mw_start w a b c d).cells
  unfold Ms at hS
  clear hT HM CP OK ha hb hc hd
  go_enter Tryd.func13, Tryd.ntmps13
  go_wp2_with fail
  go_region_held3 (fun w' => w'.cell? ⟨w.heap.size, 0, none⟩ = some (.int .i64 a) ∧ w'.cell? ⟨w.heap.size, 1, none⟩ = some (.int .i64 b) ∧ w'.cell? ⟨w.heap.size, 2, none⟩ = some (.int .i64 c) ∧ w'.cell? ⟨w.heap.size, 3, none⟩ = some (.int .i64 d))
    (first | exact hS | go_keep)
    (first | (go_at_call 24; refine (CN.out _ _ BB).mono ?_; clear BB hS; rintro e w1 ⟨rfl, BB, hS⟩) | (go_at_call 23; refine (CA.out _ BB).mono ?_; clear BB hS; rintro e w5 ⟨pa, ca, rfl, RR, BB, hS⟩) | (go_at_call 22; refine (CQ.out _ _ _ RR BB).mono ?_; clear BB hS RR; rintro e w6 ⟨rfl, BB, hS⟩))
  have c6 := Wr.hid BB.out.2
  have h6 : Hid (Tab w6) := HT.out.below BB.out.2 HT.out.pos
  clear BB hS CN CA CQ
  go_wp2_with fail
  refine (CT.out _ h6.out).mono ?_
  rintro e w7 ⟨rfl, b7⟩
  go_wp2
  go_ret
  exact ⟨rfl, c6.out.trans (b7.mono c6.out.size)⟩

end Go.Proofs.YtkelipedpjmmaaaDoor.Wtk

namespace Go.Proofs.YtkelipedpjmmaaaDoor.Wtk
open Go.ChangeShapes Go.WideShapes Go.ChangeAt Go.RowKit Go.Proofs.YtkelipedpjmmaaaDoor.M Go.Proofs.YtkelipedpjmmaaaDoor.Wh

theorem mt_zero : Mt 0 0 0 0 := ⟨⟨by decide, by decide⟩, ⟨by decide, by decide⟩, ⟨by decide, by decide⟩, ⟨by decide, by decide⟩⟩
theorem i6_zero : I6 0 := ⟨by decide, by decide⟩

set_option maxRecDepth 100000 in
set_option maxHeartbeats 1000000 in
theorem wakes (w : World) (hT : Tab w) : Calls Tryd.prog 10 #[] w fun e w' => e = .returned (.bool true) ∧ Below w.heap.size w w' := by
  obtain ⟨k0, k1, n0, n1, n2, n3⟩ := tk_mint (K := ⟨#[107]⟩) mt_zero
  have CM : Hid (∀ w, Tab w → Calls Tryd.prog 13 #[.string ⟨#[107]⟩, .agg #[.int .i64 0, .int .i64 0, .int .i64 0, .int .i64 0]] w fun e w' => e = .returned (.string (mint ⟨#[107]⟩ 0 0 0 0)) ∧ Below w.heap.size w w') := fun w h => mint_ ⟨#[107]⟩ 0 0 0 0 w (by decide) i6_zero i6_zero i6_zero i6_zero h
  have hz : (mint ⟨#[107]⟩ 0 0 0 0).size = 43 := by rw [mint_size, cB_zero]; rfl
  have h11 : (mint ⟨#[107]⟩ 0 0 0 0).extract 0 11 = ⟨#[3, 0, 4, 1, 0, 1, 0, 1, 0, 1, 0]⟩ := by
    have e := hd32_mint ⟨#[107]⟩ 0 0 0 0
    unfold hd32 at e
    rw [hz, cB_zero] at e
    exact e
  have hrest : (mint ⟨#[107]⟩ 0 0 0 0).extract 11 43 = tag ⟨#[107]⟩ (cB 0 0 0 0) := by
    have e := tl32_mint ⟨#[107]⟩ 0 0 0 0
    unfold tl32 at e
    rw [hz] at e
    exact e
  have CP : Hid (∀ w, Calls Tryd.prog 8 #[.string (mint ⟨#[107]⟩ 0 0 0 0)] w fun e w' => e = .returned (.tuple #[.agg #[.int .i64 0, .int .i64 0, .int .i64 0, .int .i64 0], .string (tag ⟨#[107]⟩ (cB 0 0 0 0)), .int .i64 0]) ∧ Below w.heap.size w w') := fun w => by
    have h := parse (mint ⟨#[107]⟩ 0 0 0 0) w (by rw [hz]; decide)
    rw [k0, k1, n0, n1, n2, n3] at h
    exact h
  have HT : Hid (Tab w) := hT
  generalize mint ⟨#[107]⟩ 0 0 0 0 = M at *
  generalize tag ⟨#[107]⟩ (cB 0 0 0 0) = G at *
  clear hT k0 k1 n0 n1 n2 n3
  go_enter Tryd.func10, Tryd.ntmps10
  go_wp2_with fail
  refine (CM.out _ HT.out).mono ?_
  rintro e w1 ⟨rfl, b1⟩
  go_wp2_with fail
  refine (CP.out _).mono ?_
  rintro e w2 ⟨rfl, b2⟩
  go_wp2_with fail
  go_ret
  have c1 : Below w.heap.size w w2 := b1.trans (b2.mono b1.size)
  exact ⟨rfl, c1.alloc c1.size _⟩

end Go.Proofs.YtkelipedpjmmaaaDoor.Wtk
