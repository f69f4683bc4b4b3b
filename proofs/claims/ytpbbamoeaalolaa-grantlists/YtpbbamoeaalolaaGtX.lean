/-
  The sorts of edges and of ints, said of rows that a call has built; the contract of bothWays. Nothing is asked but what each fact names.
-/
import Derived.Test.YtpbbamoeaalolaaGtT
import Derived.Test.YtpbbamoeaalolaaGtM
namespace Go.Proofs.Ytpbbamoeaalolaa.Wg
open Go.ChangeShapes Go.WideShapes Go.ChangeAt Go.RowKit Go.Proofs.Ytpbbamoeaalolaa.M Go.Maps Go.Sort Go.Shelf

theorem byOne (x y : Ed) : ltOf (fun x y : Ed => Lib.compareInt x.1 y.1) x y = decide (x.1 < y.1) := by
  unfold ltOf Lib.compareInt
  by_cases h1 : x.1 < y.1
  · simp [h1]
  · by_cases h2 : y.1 < x.1 <;> simp [h1, h2]
theorem byOne_swo : SWO (ltOf fun x y : Ed => Lib.compareInt x.1 y.1) where
  irrefl x := by rw [byOne]; simp
  trans x y z h1 h2 := by rw [byOne] at *; simp at *; omega
  ntrans x y z h1 h2 := by rw [byOne] at *; simp at *; omega
theorem own_blk {w : World} {base e g n cap : Nat} {xs : List Value} (h : w.ownsRow base e 2 (.slice (some ⟨g, 0, none⟩) n cap) n xs) : g < w.heap.size := by
  rcases h.2 with ⟨h0, _⟩ | ⟨g', cap', cur, hv, hb, hg, _⟩
  · cases h0
  · cases hv; exact (Array.getElem?_eq_some_iff.1 hg).1
/-- A row of edges, sorted by their first numbers. -/
theorem sortEdges {w : World} {base g cap : Nat} {l : List Ed} (h : w.ownsRow base 52 2 (.slice (some ⟨g, 0, none⟩) l.length cap) l.length (l.flatMap eC)) (hsz : l.length < 4611686018427387904) :
    Calls Try.prog 38 #[.slice (some ⟨g, 0, none⟩) l.length cap, .func (.func 39) #[] #[]] w fun e w' => e = .returned (.tuple #[]) ∧ w.grownBy w' (some g) ∧ ∃ L, L.Perm l ∧ L.Pairwise (fun a b => a.1 ≤ b.1) ∧ Rd eC w' g 0 L := by
  have hg := own_blk h
  have hH := holds_of_own eC_len h
  have eg : ∀ args w, (callFunc 39 args).run Try.prog w = .ok (.enter 39 args) w := enters_of Try.func39 (by kernel_rfl) rfl
  have hcmp : CmpLays Try.prog 39 #[] eC 2 (fun x y => Lib.compareInt x.1 y.1) g 0 l.toArray.size w := fun _ _ _ _ x y => byFirst x y _
  have con := AnyQ.slices_SortFunc Try.sortE 2 Try.isAgg52 Try.sizeOf52 eC eC_len (fun x v hv => by simp [eC] at hv; rcases hv with rfl | rfl <;> rfl) (fun x y => Lib.compareInt x.1 y.1) byOne_swo 39 #[] g 0 cap l.toArray w eg hcmp hH hg (by simpa using hsz)
  change Calls Try.prog 38 _ _ _ at con
  have e0 : l.toArray.size = l.length := by simp
  rw [e0] at con
  refine con.mono ?_
  rintro e w' ⟨rfl, d', n, os, hp, hs, rfl⟩
  have hp' := perm_of (d := l.toArray) (by rw [e0]; exact hp)
  have hds : d'.size = l.toArray.size := by have := hp.1; simpa using this
  have hpr := pairs_of (n := l.length) (by rw [hds, e0]) hs
  have hh := holdsK_sortWorldK_c eC 2 w g 0 l.toArray d' n os hH hg hds
  refine ⟨rfl, grown_sorted d', d'.toList, by simpa using hp', hpr.imp ?_, rd_of_holds eC_len hh⟩
  intro a b hab
  rw [byOne] at hab
  have := of_decide_eq_false hab
  omega

/-- Numbers that lie in memory. -/
def RdI (w : World) (g : Nat) (l : List Int) : Prop := ∀ i x, l[i]? = some x → w.cell? ⟨g, i, none⟩ = some (.int .i64 x)
theorem length_sort (l : List Int) : (l.mergeSort fun x y => decide (x ≤ y)).length = l.length := (List.mergeSort_perm _ _).length_eq
/-- A row of numbers, each once, sorted. -/
theorem sortInts {w : World} {base g cap : Nat} {l R : List Int} (h : w.ownsRow base 3 1 (.slice (some ⟨g, 0, none⟩) l.length cap) l.length (l.map (Value.int .i64))) (hn : l.Nodup) (hR : R.Pairwise (· < ·)) (hm : ∀ x, x ∈ l ↔ x ∈ R) (hsz : l.length < 4611686018427387904) :
    Calls Try.prog 29 #[.slice (some ⟨g, 0, none⟩) l.length cap] w fun e w' => e = .returned (.tuple #[]) ∧ w.grownBy w' (some g) ∧ RdI w' g R ∧ l.length = R.length := by
  rcases h.2 with ⟨h0, _⟩ | ⟨g', cap', cur, hv, hb, hg, hnc, hc, hs, ht⟩
  · cases h0
  cases hv
  have hgl : g < w.heap.size := (Array.getElem?_eq_some_iff.1 hg).1
  have hH : Holds (Value.int .i64) w g 0 l.toArray := by
    intro j hj
    have hj' : j < l.length := by simpa using hj
    refine ⟨?_, by simp [World.frozen?, hg]⟩
    rw [Nat.zero_add, h.cellAt j (by omega), List.getElem?_map, List.getElem?_eq_getElem hj', getElem!_pos l.toArray j hj]
    simp
  have con := Any.slices_Sort_int Try.sortI g 0 cap l w hH hgl hsz
  change Calls Try.prog 29 _ _ _ at con
  refine con.mono ?_
  rintro e w' ⟨rfl, n, os, rfl⟩
  have hp := List.mergeSort_perm l fun x y : Int => decide (x ≤ y)
  have hpw : (l.mergeSort fun x y => decide (x ≤ y)).Pairwise fun a b => decide (a ≤ b) = true := List.pairwise_mergeSort (fun a b c h1 h2 => by simp at *; omega) (fun a b => by simp; omega) l
  have hlt : (l.mergeSort fun x y => decide (x ≤ y)).Pairwise (· < ·) := by
    refine (List.Pairwise.and hpw (hp.symm.nodup hn)).imp ?_
    rintro a b ⟨h1, h2⟩
    have := of_decide_eq_true h1
    omega
  have hRe : (l.mergeSort fun x y => decide (x ≤ y)) = R := rise_ext hlt hR fun x => (hp.mem_iff).trans (hm x)
  have hh : Holds (Value.int .i64) (grow (putRow (Value.int .i64) (Sort.ahead w n) g 0 R.toArray) os) g 0 R.toArray := by
    refine holds_grow _ _ os g 0 _ (by simpa using hgl) (holds_putRow _ _ g 0 l.toArray _ hH ?_)
    rw [← hRe]
    simp
  rw [hRe]
  refine ⟨rfl, ⟨rfl, rfl, rfl, by simp, fun k hk hne => ?_⟩, fun i x hx => ?_, by rw [← hRe, length_sort]⟩
  · rw [heap_grow_old _ _ (by simpa using hk)]
    have : g ≠ k := fun e => hne (by rw [e])
    simp [putRow, mapBlock, Sort.ahead, Array.getElem?_modify, this]
  · have hi : i < R.length := (List.getElem?_eq_some_iff.1 hx).1
    have := (hh i (by simpa using hi)).1
    rw [Nat.zero_add, getElem!_pos R.toArray i (by simpa using hi)] at this
    rw [List.getElem?_eq_getElem hi] at hx
    simp at hx this
    rw [hx] at this
    exact this

end Go.Proofs.Ytpbbamoeaalolaa.Wg
