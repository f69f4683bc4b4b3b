/-
  The walks of the document's read and Get (layer 2), whole: what 'valR', 'allR' say. Conditions: the place is within the text, whose length is an int.
-/
import Derived.Test.YtkelipedpjmmaaaDoorRefList
namespace Go.Proofs.YtkelipedpjmmaaaDoor.Wr
open Go.ChangeShapes Go.WideShapes Go.ChangeAt Go.RowKit Go.Proofs.YtkelipedpjmmaaaDoor.M Go.Proofs.YtkelipedpjmmaaaDoor.Wf

theorem readAll (m : Nat) : ∀ (d : Nat) (s : ByteArray) (a : Int) (w : World), m + d = 8 → s.size ≤ maxLen → 0 ≤ a ∧ a ≤ (s.size : Int) →
    Calls Tryd.prog 30 #[.string s, .int .i64 a, .int .i64 (d : Int)] w fun e w' => Told (valR s m a) w.heap.size e w' ∧ Below w.heap.size w w' := by
  induction m with
  | zero =>
    intro d s a w hd hs h0
    by_cases c1 : gE s a 1 = 0
    · by_cases k1 : gN s a 1 = 1
      · exact readNum 0 d s a w hs h0 c1 k1
      by_cases k2 : gN s a 1 = 2
      · exact readText 0 d s a w hs h0 c1 k2
      by_cases k3 : gN s a 1 = 3
      · exact readDeep 0 d s a w hs h0 c1 k3 rfl (by omega)
      exact readNone 0 d s a w hs h0 c1 k1 k2 k3
    · exact readErr 0 d s a w hs h0 c1
  | succ m ih =>
    intro d s a w hd hs h0
    by_cases c1 : gE s a 1 = 0
    · by_cases k1 : gN s a 1 = 1
      · exact readNum (m + 1) d s a w hs h0 c1 k1
      by_cases k2 : gN s a 1 = 2
      · exact readText (m + 1) d s a w hs h0 c1 k2
      by_cases k3 : gN s a 1 = 3
      · exact readList m d s a w hs h0 c1 k3 hd (fun a' W ha => by
          have := ih (d + 1) s a' W (by omega) hs ha
          have e : (((d + 1 : Nat)) : Int) = (d : Int) + 1 := by omega
          rw [e] at this
          exact this)
      exact readNone (m + 1) d s a w hs h0 c1 k1 k2 k3
    · exact readErr (m + 1) d s a w hs h0 c1

set_option maxHeartbeats 400000 in
theorem getRef (s : ByteArray) (w : World) (hs : s.size ≤ maxLen) :
    Calls Tryd.prog 18 #[.string s] w fun e w' => ∃ p cap, e = .returned (.tuple #[.agg #[.int .i64 (valOf (allR s)).k, .int .i64 (valOf (allR s)).n, .string (valOf (allR s)).s, .slice p (valOf (allR s)).l.len cap], .int .i64 (codeOf (allR s))]) ∧ Hid (Rd w' (fun g => w.heap.size ≤ g) (.slice p (valOf (allR s)).l.len cap) (valOf (allR s)).l) ∧ Below w.heap.size w w' := by
  rw [all_end]
  obtain ⟨q, hq⟩ : ∃ q, Hid (q = valR s 8 0) := ⟨_, rfl⟩
  rw [← hq.out]
  have CV : Hid (∀ W, Calls Tryd.prog 30 #[.string s, .int .i64 0, .int .i64 0] W fun e w' => Told q W.heap.size e w' ∧ Below W.heap.size W w') := fun W => by
    have := readAll 8 0 s 0 W rfl hs (by omega); rw [← hq.out] at this; exact this
  have HV : Hid (∀ x, q = .ok x → 0 ≤ x.2 ∧ x.2 ≤ (s.size : Int)) := fun x h => valR_at (hq.out ▸ h)
  have HE : Hid (∀ c, q = .error c → c ≠ 0) := fun c h => valR_code (hq.out ▸ h)
  unfold maxLen at hs
  go_enter Tryd.func18, Tryd.ntmps18
  go_wp2_with fail
  refine (CV.out _).mono ?_
  rintro e w2 ⟨h2, b2⟩
  have hbox : w2.heap[w.heap.size]? = some (.cells #[.int .i64 0, .int .i64 0, .string ⟨#[]⟩, .slice none 0 0] 58 (0, 0)) := (b2.block _ (by simp)).trans (heap_alloc_new w _)
  have hB := hid (((Below.refl w.heap.size w).alloc (Nat.le_refl _) _).trans (b2.mono (by simp)))
  have v0 : w2.cell? ⟨w.heap.size, 0, none⟩ = some (.int .i64 0) := by simp [World.cell?, hbox]
  have v1 : w2.cell? ⟨w.heap.size, 1, none⟩ = some (.int .i64 0) := by simp [World.cell?, hbox]
  have v2 : w2.cell? ⟨w.heap.size, 2, none⟩ = some (.string ⟨#[]⟩) := by simp [World.cell?, hbox]
  have v3 : w2.cell? ⟨w.heap.size, 3, none⟩ = some (.slice none 0 0) := by simp [World.cell?, hbox]
  have vf := fun j => frozen_there hbox j
  have vl : w.heap.size < w2.heap.size := lt_of_heap hbox
  have s2 : w.heap.size + 1 ≤ w2.heap.size := vl
  clear b2 hbox
  cases q with
  | error c =>
    have h2' : e = .returned (.tuple #[.agg #[.int .i64 0, .int .i64 0, .string ⟨#[]⟩, .slice none 0 0], .int .i64 0, .int .i64 c]) := h2
    clear h2
    subst h2'
    have hc : (c != 0) = true := by simpa using HE.out c rfl
    go_wp2_with fail
    have hZ : Below w.heap.size w ((put4 w2 w.heap.size 0 (.int .i64 0) (.int .i64 0) (.string ⟨#[]⟩) (.slice none 0 0)).alloc (.cells #[.int .i64 0, .int .i64 0, .string ⟨#[]⟩, .slice none 0 0] 58)) := (put4_below hB.out (Nat.le_refl _) _ _ _ _).alloc (by rw [put4_size]; omega) _
    exact bodyPost_ret (v := .tuple #[.agg #[.int .i64 0, .int .i64 0, .string ⟨#[]⟩, .slice none 0 0], .int .i64 c]) (by simp [results, Tryd.results18, go_sem, v0, v1, v2, v3, vl]) rfl ⟨none, 0, rfl, rd_nil _ _, hZ⟩
  | ok x =>
    obtain ⟨p, cap, h3, h4⟩ := h2
    subst h3
    have L2 := hid h4
    have hv := HV.out x rfl
    clear h4
    by_cases c : x.2 = (s.size : Int)
    · have E1 := hid (show endR s (.ok x) = .ok x.1 from by simp only [endR]; rw [if_pos c])
      rw [c]
      clear c hv
      go_wp2_with fail
      have hR : Hid (Rd ((put4 w2 w.heap.size 0 (.int .i64 x.1.k) (.int .i64 x.1.n) (.string x.1.s) (.slice p x.1.l.len cap)).alloc (.cells #[.int .i64 x.1.k, .int .i64 x.1.n, .string x.1.s, .slice p x.1.l.len cap] 58)) (fun g => w.heap.size ≤ g) (.slice p x.1.l.len cap) x.1.l) :=
        rd_below (rd_of (fun g hg => by have := hg; simp at this; omega) (fun g hg o ho => (put4_other (by have := hg; simp at this; omega)).trans ho) L2.out) ((Below.refl _ _).alloc (Nat.le_refl _) _)
      have hZ : Below w.heap.size w ((put4 w2 w.heap.size 0 (.int .i64 x.1.k) (.int .i64 x.1.n) (.string x.1.s) (.slice p x.1.l.len cap)).alloc (.cells #[.int .i64 x.1.k, .int .i64 x.1.n, .string x.1.s, .slice p x.1.l.len cap] 58)) := (put4_below hB.out (Nat.le_refl _) _ _ _ _).alloc (by rw [put4_size]; omega) _
      exact bodyPost_ret (v := .tuple #[.agg #[.int .i64 x.1.k, .int .i64 x.1.n, .string x.1.s, .slice p x.1.l.len cap], .int .i64 0]) (by simp [results, Tryd.results18, go_sem, v0, v1, v2, v3, vl]) rfl ⟨p, cap, by rw [E1.out]; rfl, by rw [E1.out]; exact hR, hZ⟩
    · have E1 := hid (show endR s (.ok x) = .error 4 from by simp only [endR]; rw [if_neg c])
      have c' : x.2 < (s.size : Int) := by omega
      clear c
      go_wp2_with fail
      have hZ : Below w.heap.size w ((put4 w2 w.heap.size 0 (.int .i64 0) (.int .i64 0) (.string ⟨#[]⟩) (.slice none 0 0)).alloc (.cells #[.int .i64 x.1.k, .int .i64 x.1.n, .string x.1.s, .slice p x.1.l.len cap] 58)) := (put4_below hB.out (Nat.le_refl _) _ _ _ _).alloc (by rw [put4_size]; omega) _
      exact bodyPost_ret (v := .tuple #[.agg #[.int .i64 0, .int .i64 0, .string ⟨#[]⟩, .slice none 0 0], .int .i64 4]) (by simp [results, Tryd.results18, go_sem, v0, v1, v2, v3, vl]) rfl ⟨none, 0, by rw [E1.out]; rfl, by rw [E1.out]; exact rd_nil _ _, hZ⟩

end Go.Proofs.YtkelipedpjmmaaaDoor.Wr
