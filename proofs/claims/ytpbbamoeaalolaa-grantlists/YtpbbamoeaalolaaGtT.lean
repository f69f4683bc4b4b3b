/-
  The contract of a table's List: its grants, in order, in a row of the call's own. Nothing is asked but what each fact names.
-/
import Derived.Test.YtpbbamoeaalolaaGtP
import Derived.Test.YtpbbamoeaalolaaGtS
import Derived.Sort.KeysCollected
import Derived.Sort.OwnSorted
import Derived.Laws.OwnMore
namespace Go.Proofs.Ytpbbamoeaalolaa.Wg
open Go.ChangeShapes Go.WideShapes Go.ChangeAt Go.RowKit Go.Proofs.Ytpbbamoeaalolaa.M Go.Maps Go.Sort

theorem infoG : (Try.prog.info? 38).map (fun i => (i.zero, i.size, i.bytes)) = some (some (.agg #[.int .i64 0, .string ⟨#[]⟩]), 2, 24) := by kernel_rfl
theorem two_new (w : World) (a b : Value) (T : Nat) : ∀ (j : Nat) (u : Value), [a, b][j]? = some u → (w.alloc (.cells #[a, b] T)).cell? ((⟨w.heap.size, 0, none⟩ : Addr).add j) = some u := by
  intro j u hu
  rw [add_none, Nat.zero_add]
  exact blk_cell (l := [a, b]) (heap_alloc_new w _) hu
theorem grown_of {w w' : World} (b : Below w.heap.size w w') : w.grownBy w' none := ⟨b.os, b.tape, b.output, b.size, fun k hk _ => b.block k hk⟩
theorem own_below {w w' : World} {base e size n : Nat} {v : Value} {xs : List Value} (h : w.ownsRow base e size v n xs) (b : Below w.heap.size w w') : w'.ownsRow base e size v n xs :=
  h.kept (row := none) (grown_of b) (by cases v.ownBlock <;> simp)

/-- Grants that lie in memory, from some block on. -/
def Lst (w : World) (base : Nat) (a : Option Addr) (L : List Ky) : Prop := L = [] ∨ ∃ g, a = some ⟨g, 0, none⟩ ∧ base ≤ g ∧ g < w.heap.size ∧ Rd kC w g 0 L

set_option maxRecDepth 100000 in
set_option maxHeartbeats 1600000 in
theorem list {w : World} {s : Nat} {F : Nat → Prop} {L : List Ky} (h : TbL w s F L) :
    Calls Try.prog 20 #[.pointer (some ⟨s, 0, none⟩)] w fun e w' => ∃ a cap, e = .returned (.slice a L.length cap) ∧ L.length ≤ cap ∧ cap ≤ maxLen ∧ Lst w' w.heap.size a L ∧ Below w.heap.size w w' := by
  have hs := h.lt
  rcases h.rep with ⟨h1, rfl⟩ | ⟨b, D, h1, h2, h3, h4⟩
  · have c0 := blk_cell (l := [.map none]) h1 (i := 0) rfl
    have hrg := run_range_nilMap (P := Try.prog) w 62 38 65 Try.underlying62
    have hnx : ∀ ty, (Instr.next (.pointer (some ⟨w.heap.size, 0, none⟩)) false ty).run Try.prog (w.alloc (.mapIter none 0 #[] 0)) = _ := fun ty => run_next_nilMap _ ty 0 0 #[]
    go_enter Try.func20, Try.ntmps20
    go_wp2
    refine wp_loop_rounds 1 ?_
    rw [rounds_succ]
    go_wp2_with (go_at_call 25; refine (sortNone _ _ _ _).mono ?_; rintro e w' ⟨rfl, rfl⟩)
    go_ret
    exact ⟨none, 0, rfl, Nat.le_refl _, Nat.zero_le _, .inl rfl, (Below.refl _ _).alloc (Nat.le_refl _) _⟩
  · have c0 := blk_cell (l := [.map (some b)]) h1 (i := 0) rfl
    have ht := h.t
    have hb := h3.lt
    obtain ⟨i0, hi, hz0, hz1, hz2⟩ := info_parts infoG
    clear h
    go_enter Try.func20, Try.ntmps20
    go_wp2_with (first | (at_range; refine wpList_range_own _ rfl _ 62 rfl 38 65 lawG Try.underlying62 _ b L.length D rfl h3 ?_; intro w0 hrg0 hg0 hs0) | go_in)
    go_frame
    go_loopw [3] (fun v wr => ∃ (left : Lit → Bool) (cnt : Nat) (l : List Ky), wr.ranges (H := Unit) Try.prog 38 unitElem b w.heap.size L.length D left cnt ∧ Hid (l.length + cnt ≤ L.length ∧ l.Nodup ∧ (∀ k, k ∈ l ↔ k ∈ L ∧ left (kL k) = false)) ∧ wr.ownsRow w.heap.size 38 2 v l.length (l.flatMap kC) ∧ Below w.heap.size w wr)
      (fun _ wr => wr.rangeLeft b w.heap.size)
    case atStart =>
      refine ⟨_, _, [], hrg0, ⟨by rw [h4.size]; simp, List.nodup_nil, fun k => ?_⟩, World.ownsRow_nil _ _ _ _, (Below.refl _ _).grown hg0 (Nat.le_refl _) (fun j hj => by cases hj)⟩
      constructor
      · intro hk; simp at hk
      · rintro ⟨hk, hl⟩
        rw [h4.has k (Tbl.ok ht hk), decide_eq_true hk] at hl
        cases hl
    case round =>
      obtain ⟨left, cnt, l, hrg, hH, hrow, hnx⟩ := hrel
      go_wp2_with (first | (at_next; refine wpList_next_ranges _ rfl _ rfl 38 lawG unitElem kV (fun _ : Unit => Value.agg #[]) (fun key kl hk => by obtain ⟨x, hx, _⟩ := keyOf_inv hk; exact ⟨x, hx⟩) (fun v y hv => by obtain ⟨rfl, _⟩ := unitElem_inv hv; exact ⟨(), rfl⟩) b w.heap.size L.length _ _ _ rfl hrg ?_ ?_) | go_in)
      · intro hc0 hl0
        obtain ⟨g1, g2, g3⟩ := hH.out
        have hm : ∀ x, x ∈ l ↔ x ∈ L := fun x => by rw [g3 x, hl0]; simp
        rcases hrow.2 with ⟨rfl, hnil⟩ | ⟨g, cap, cur, rfl, hbase, hb', q1, q2, q3, q4⟩
        · have hLn : L = [] := by
            rw [List.length_eq_zero_iff] at hnil
            subst hnil
            exact List.eq_nil_iff_forall_not_mem.2 fun x hx => by have := (hm x).2 hx; simp at this
          have hll : l.length = 0 := hnil
          go_wp2_with (go_at_call 25; refine (sortNone _ _ _ _).mono ?_; rintro e w' ⟨rfl, rfl⟩)
          go_ret
          exact ⟨none, 0, by rw [hLn]; rfl, by rw [hLn]; exact Nat.le_refl _, Nat.zero_le _, .inl hLn, hnx⟩
        · have SK := hid (sortKeys hrow g2 ht.rsg hm (by have := ht.len; omega))
          go_wp2_with (go_at_call 25; refine SK.out.mono ?_; rintro e w' ⟨rfl, r1, r2, r3⟩)
          go_ret
          refine ⟨_, cap, by rw [← r3]; rfl, by rw [← r3]; exact q1, q2, .inr ⟨g, rfl, hbase, Nat.lt_of_lt_of_le (Array.getElem?_eq_some_iff.1 hb').1 r1.size, r2⟩, hnx.grown r1 hnx.size (fun j hj => by cases hj; exact hbase)⟩
      · intro xc xf kl yd yp w2 cnt2 hkey0 hlk hv hat hrg2 hlt hg2 hs2 hen0
        obtain ⟨x, hxc, hxf⟩ : ∃ x : Ky, xc = x.1 ∧ xf = x.2 := ⟨(xc, xf), rfl, rfl⟩
        subst hxc hxf
        have hkey : keyOf Try.prog 38 (kV x) = some kl := hkey0
        have hen : (Instr.entry (.pointer (some ⟨w.heap.size, 0, none⟩))).run Try.prog w2 = .ok (.tuple #[.agg #[.int .i64 x.1, .string x.2], .agg #[]]) w2 := hen0
        clear hkey0 hen0
        obtain ⟨k, ex, hk, rfl⟩ := keyOf_inv hkey
        have exk : x = k := by
          unfold kV at ex
          injection ex with e
          have e' := congrArg Array.toList e
          simp only [List.cons.injEq, Value.int.injEq, Value.string.injEq, true_and, and_true] at e'
          exact Prod.ext e'.1 e'.2
        subst exk
        obtain ⟨g1, g2, g3⟩ := hH.out
        have hxL : x ∈ L := by
          have h0 := has_true_of_atKey hat
          rw [h4.has x hk] at h0
          exact of_decide_eq_true h0
        have hxl : x ∉ l := fun hx => by have := ((g3 x).1 hx).2; rw [hlk] at this; cases this
        have hsz : x.2.size ≤ 281474976710656 := by have := (nmd_iff.1 (ht.key x hxL).2).2.1; omega
        have hrow2 := hrow.kept hg2 (Or.inr (row_ne_iter hrow hrg).symm)
        have HH : Hid ((l ++ [x]).length + cnt2 ≤ L.length ∧ (l ++ [x]).Nodup ∧ (∀ k, k ∈ l ++ [x] ↔ k ∈ L ∧ (left (kL k) && !(kL k).sameKey (kL x)) = false)) := by
          refine ⟨by simp; omega, ?_, fun k => ?_⟩
          · rw [List.nodup_append]
            refine ⟨g2, by simp, fun a ha b hb => ?_⟩
            simp at hb
            subst hb
            rintro rfl
            exact hxl ha
          · rw [List.mem_append, g3 k, List.mem_singleton]
            constructor
            · rintro (⟨a1, a2⟩ | rfl)
              · exact ⟨a1, by rw [a2]; rfl⟩
              · exact ⟨hxL, by rw [WideAt.sameKey_self (kL_key _)]; simp⟩
            · rintro ⟨a1, a2⟩
              by_cases e : k = x
              · exact .inr e
              · left
                refine ⟨a1, ?_⟩
                rw [sameKey_ne (fun e' => e (kL_inj (Tbl.ok ht a1) hk e'))] at a2
                simpa using a2
        have hnx2 : Below w.heap.size w w2 := hnx.grown hg2 hnx.size (fun j hj => by cases hj; exact Nat.le_refl _)
        have HC := hid (fun W => clone x W hsz)
        have hx1 := KAt.new w2 x 38
        have hll : l.length ≤ 16 := by have := ht.len; omega
        clear hs2 hkey hlk hv hat g1 g2 g3 hH hxL hxl ex hsz
        unfold kV
        go_wp2_with fail
        refine (HC.out _).mono ?_
        rintro e w3 ⟨rfl, b3⟩
        have hrg3 := (hrg2.alloc (.cells #[.int .i64 x.1, .string x.2] 38)).kept (grown_of b3) (by simp) (by simp)
        have hrow3 := own_below (hrow2.alloc (.cells #[.int .i64 x.1, .string x.2] 38)) b3
        have hnx3 : Below w.heap.size w w3 := (hnx2.alloc hnx2.size _).trans (b3.mono (by have := hnx2.size; simp; omega))
        have hb3 : b < w.heap.size := hb
        clear hrow hrow2 hrg2 hnx2 b3 hx1 HC hg2
        go_wp2_with (first | (at_builtin; refine wpList_append_own _ rfl _ _ 46 rfl w.heap.size 38 i0 (.agg #[.int .i64 0, .string ⟨#[]⟩]) 2 24 Try.underlying46 hi hz0 hz1 hz2 rfl (by decide) _ _ _ rfl (hrow3.alloc _) ⟨w3.heap.size, 0, none⟩ 1 1 (kC x) rfl rfl (two_new _ _ _ _) (fun u hu => by simp [kC] at hu; rcases hu with rfl | rfl <;> rfl) (by unfold maxLen; omega) (by omega) (by have := hnx3.size; simp; omega) ?_; intro v' w4 hown' hg4 hnil4; go_frame) | go_in)
        have hrg4 := (hrg3.alloc _).kept hg4 (fun e => by have := (hrow3.lt b e.symm).1; omega) (row_ne_iter hrow3 hrg3)
        go_roundw
        case rel =>
          refine ⟨_, cnt2, l ++ [x], hrg4, HH, ?_, ?_⟩
          · rw [List.flatMap_append, List.length_append]
            simpa using hown'
          · exact (hnx3.alloc hnx3.size _).grown hg4 (by have := hnx3.size; simp; omega) (fun j hj => (hrow3.lt j hj).1)
        case measure => rw [hrg4.left_eq, hrg.left_eq]; exact hlt

/-- .. of a nil table. -/
theorem listNil (w : World) :
    Calls Try.prog 20 #[.pointer none] w fun e w' => e = .returned (.slice none 0 0) ∧ w = w' := by
  go_enter Try.func20, Try.ntmps20
  go_wp2
  go_ret
  exact ⟨rfl, rfl⟩

end Go.Proofs.Ytpbbamoeaalolaa.Wg
