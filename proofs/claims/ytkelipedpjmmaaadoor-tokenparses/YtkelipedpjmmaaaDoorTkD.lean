/-
  The walk of token.Parse: the claims, the tag and the error that 'tkN', 'tkT' and 'tkE' say; nothing that was in memory has turned. Conditions: texts of at most 2^47 bytes.
-/
import Derived.Test.YtkelipedpjmmaaaDoorRows
import Derived.Test.YtkelipedpjmmaaaDoorTkC
import Derived.Test.YtkelipedpjmmaaaDoorMathJ
import Derived.Test.YtkelipedpjmmaaaDoorClone
namespace Go.Proofs.YtkelipedpjmmaaaDoor.Wtk
open Go.ChangeShapes Go.WideShapes Go.ChangeAt Go.RowKit Go.Proofs.YtkelipedpjmmaaaDoor.M Go.Proofs.YtkelipedpjmmaaaDoor.Wf Go.Proofs.YtkelipedpjmmaaaDoor.Wr

theorem nb_range : ∀ {f : F} (i : Nat), f.ok → I6 (f.nb i)
  | .nil, _, _ => by constructor <;> simp [F.nb]
  | .cons _ _ _ _ _, 0, h => h.2.1
  | .cons _ _ _ _ r, i + 1, h => nb_range i h.2.2.2.2

theorem claimsYes {v : V} {p : Option Addr} {cap : Nat} {A : Nat → Prop} {w : World} (hR : Rd w A (.slice p v.l.len cap) v.l) (ho : v.l.ok) (h : okV v) :
    Calls Tryd.prog 16 #[.agg #[.int .i64 v.k, .int .i64 v.n, .string v.s, .slice p v.l.len cap]] w fun e w' => e = .returned (.tuple #[.agg #[.int .i64 (v.l.nb 0), .int .i64 (v.l.nb 1), .int .i64 (v.l.nb 2), .int .i64 (v.l.nb 3)], .bool true]) ∧ Below w.heap.size w w' := by
  obtain ⟨hk, hl, h1, h2, h3, h4⟩ := h
  obtain ⟨g, rfl, _, hc, _, hA⟩ := rd_at hR (by omega)
  rw [hk, hl]
  rw [hl] at hc hA
  exact (claimsFour v.n v.s g cap v.l w hc hA true (by exact (decide_eq_true ⟨h1, h2, h3, h4⟩).symm) (nb_range 2 ho) (nb_range 3 ho)).mono fun e w' h => ⟨h.1 rfl, h.2.2⟩
theorem claimsNot {v : V} {p : Option Addr} {cap : Nat} {A : Nat → Prop} {w : World} (hR : Rd w A (.slice p v.l.len cap) v.l) (ho : v.l.ok) (h : ¬ okV v) :
    Calls Tryd.prog 16 #[.agg #[.int .i64 v.k, .int .i64 v.n, .string v.s, .slice p v.l.len cap]] w fun e w' => e = .returned (.tuple #[.agg #[.int .i64 0, .int .i64 0, .int .i64 0, .int .i64 0], .bool false]) ∧ Below w.heap.size w w' := by
  obtain ⟨_, cap', _, e, hc, hm, _⟩ := rd_form hR
  obtain ⟨_, rfl⟩ : _ ∧ cap = cap' := by simpa using e
  have hmx : v.l.len ≤ 9223372036854775807 := by unfold maxLen at hm; omega
  by_cases hk : v.k = 2
  · by_cases hl : v.l.len = 4
    · obtain ⟨g, rfl, _, hc, _, hA⟩ := rd_at hR (by omega)
      rw [hk, hl]
      rw [hl] at hc hA
      exact (claimsFour v.n v.s g cap v.l w hc hA false (by exact (decide_eq_false (fun c => h ⟨hk, hl, c⟩)).symm) (nb_range 2 ho) (nb_range 3 ho)).mono fun e w' h => ⟨h.2.1 rfl, h.2.2⟩
    · exact claimsNo _ _ _ _ _ _ w (.inr hl) hmx
  · exact claimsNo _ _ _ _ _ _ w (.inl hk) hmx

/-- The result's cell. -/
def Rz (T : TypeId) (w W : World) : Prop := W.heap[w.heap.size]? = some (.cells #[.int .i64 0, .int .i64 0, .int .i64 0, .int .i64 0] T (0, 0)) ∧ Below w.heap.size w W
theorem rz_start (T : TypeId) (w : World) : Rz T w (w.alloc (.cells #[.int .i64 0, .int .i64 0, .int .i64 0, .int .i64 0] T)) := ⟨heap_alloc_new w _, (Below.refl w.heap.size w).alloc (Nat.le_refl _) _⟩
theorem Rz.below {T : TypeId} {w W W' : World} (h : Rz T w W) (b : Below W.heap.size W W') : Rz T w W' := ⟨(b.block _ (lt_of_heap h.1)).trans h.1, h.2.trans (b.mono h.2.size)⟩
theorem Rz.alloc {T : TypeId} {w W : World} (h : Rz T w W) (o : Obj) : Rz T w (W.alloc o) := h.below ((Below.refl _ _).alloc (Nat.le_refl _) _)
theorem Rz.cells {T : TypeId} {w W : World} (h : Rz T w W) : W.cell? ⟨w.heap.size, 0, none⟩ = some (.int .i64 0) ∧ W.cell? ⟨w.heap.size, 1, none⟩ = some (.int .i64 0) ∧ W.cell? ⟨w.heap.size, 2, none⟩ = some (.int .i64 0) ∧ W.cell? ⟨w.heap.size, 3, none⟩ = some (.int .i64 0) ∧ (∀ j, W.frozen? ⟨w.heap.size, j, none⟩ = false) ∧ w.heap.size < W.heap.size := by
  obtain ⟨h, _⟩ := h
  exact ⟨by simp [World.cell?, h], by simp [World.cell?, h], by simp [World.cell?, h], by simp [World.cell?, h], frozen_there h, lt_of_heap h⟩
theorem Rz.put {T : TypeId} {w W : World} (h : Rz T w W) (a b c d : Value) : Below w.heap.size w (put4 W w.heap.size 0 a b c d) := put4_below h.2 (Nat.le_refl _) _ _ _ _

theorem four_c {w : World} {b : Nat} {x0 x1 x2 x3 : Value} {T : TypeId} (h : w.heap[b]? = some (.cells #[x0, x1, x2, x3] T (0, 0))) : w.cell? ⟨b, 0, none⟩ = some x0 ∧ w.cell? ⟨b, 1, none⟩ = some x1 ∧ w.cell? ⟨b, 2, none⟩ = some x2 ∧ w.cell? ⟨b, 3, none⟩ = some x3 := by
  simp [World.cell?, h]
theorem cell_off {w : World} {a b i j : Nat} {v : Value} (h : a ≠ b) : (w.setCell ⟨a, i, none⟩ v).cell? ⟨b, j, none⟩ = w.cell? ⟨b, j, none⟩ := by
  have e := Below.heap_setCell w ⟨a, i, none⟩ v b (fun c => h c.symm)
  simp only [World.cell?, e]

set_option maxRecDepth 100000 in
set_option maxHeartbeats 1000000 in
theorem parse (s : ByteArray) (w : World) (hs : s.size ≤ 140737488355328) :
    Calls Tryd.prog 8 #[.string s] w fun e w' => e = .returned (.tuple #[.agg #[.int .i64 (tkN s 0), .int .i64 (tkN s 1), .int .i64 (tkN s 2), .int .i64 (tkN s 3)], .string (tkT s), .int .i64 (tkE s)]) ∧ Below w.heap.size w w' := by
  by_cases c : s.size < 32
  · have e3 := tk_short c
    obtain ⟨t0, n0⟩ := tk_none (s := s) (by rw [e3]; decide)
    rw [e3, t0, n0, n0, n0, n0]
    clear e3 t0 n0
    go_enter Tryd.func8, Tryd.ntmps8
    go_wp2_with fail
    exact bodyPost_ret (v := .tuple #[.agg #[.int .i64 0, .int .i64 0, .int .i64 0, .int .i64 0], .string ⟨#[]⟩, .int .i64 3]) (by simp [results, Tryd.results8, go_sem]) rfl ⟨rfl, (Below.refl w.heap.size w).alloc (Nat.le_refl _) _⟩
  · have hs' : s.size ≤ maxLen := by unfold maxLen; omega
    have CP := hid (fun W => parts s W hs' c)
    have CG := hid (fun W => Wr.get (hd32 s) W (by rw [hd32_size]; omega))
    have CC := hid (fun W => Wc.clone (tl32 s) W (by rw [tl32_size c]; decide))
    have HE := hid (fun e => tk_err (s := s) (e := e) c)
    have HF := hid (fun v => tk_form (s := s) (v := v) c)
    have HO := hid (fun v => tk_ok (s := s) (v := v) c)
    have c' : ¬ (s.size : Int) < 32 := by omega
    generalize hr : allR (hd32 s) = r at *
    have hsz := tl32_size c
    generalize hd32 s = H at *
    generalize tl32 s = T at *
    cases r with
    | error e0 =>
      have e3 := HE.out e0 rfl
      have ne := allR_code hr
      obtain ⟨t0, n0⟩ := tk_none (s := s) (by rw [e3]; exact ne)
      rw [e3, t0, n0, n0, n0, n0]
      have ne' : (e0 != 0) = true := by simpa using ne
      have CG2 : Hid (∀ W, Calls Tryd.prog 15 #[.string H] W fun e w' => ∃ p cap, e = .returned (.tuple #[.agg #[.int .i64 0, .int .i64 0, .string ⟨#[]⟩, .slice p 0 cap], .int .i64 e0]) ∧ Hid (Rd w' (fun g => W.heap.size ≤ g) (.slice p 0 cap) .nil) ∧ Below W.heap.size W w') := CG
      clear e3 t0 n0 HE HF HO CG hr ne
      go_enter Tryd.func8, Tryd.ntmps8
      go_wp2_with fail
      refine (CP.out _).mono ?_
      rintro e w1 ⟨rfl, b1⟩
      go_wp2_with fail
      refine (CG2.out _).mono ?_
      rintro e w2 ⟨p, cap, rfl, _, b2⟩
      have Z := (((rz_start 23 w).below b1).below b2)
      obtain ⟨v0, v1, v2, v3, vf, vl⟩ := Z.cells
      have HZ := hid Z
      clear Z b1 b2
      go_wp2_with fail
      exact bodyPost_ret (v := .tuple #[.agg #[.int .i64 0, .int .i64 0, .int .i64 0, .int .i64 0], .string ⟨#[]⟩, .int .i64 e0]) (by simp [results, Tryd.results8, go_sem, v0, v1, v2, v3, vl]) rfl ⟨rfl, (HZ.out.put _ _ _ _).alloc (by rw [put4_size]; exact HZ.out.2.size) _⟩
    | ok v =>
      have OK := hid (all_back hr).2
      have CG2 : Hid (∀ W, Calls Tryd.prog 15 #[.string H] W fun e w' => ∃ p cap, e = .returned (.tuple #[.agg #[.int .i64 v.k, .int .i64 v.n, .string v.s, .slice p v.l.len cap], .int .i64 0]) ∧ Hid (Rd w' (fun g => W.heap.size ≤ g) (.slice p v.l.len cap) v.l) ∧ Below W.heap.size W w') := CG
      by_cases hv : okV v
      · obtain ⟨e3, t0, n0⟩ := HO.out v rfl hv
        rw [e3, t0, n0, n0, n0, n0]
        have OV := hid hv
        clear e3 t0 n0 HE HF HO CG hr hv
        go_enter Tryd.func8, Tryd.ntmps8
        go_wp2_with fail
        refine (CP.out _).mono ?_
        rintro e w1 ⟨rfl, b1⟩
        go_wp2_with fail
        refine (CG2.out _).mono ?_
        rintro e w2 ⟨p, cap, rfl, R2, b2⟩
        have Z := hid (((rz_start 23 w).below b1).below b2)
        have R3 := hid (fun o => rd_below (w' := w2.alloc o) R2.out ((Below.refl _ _).alloc (Nat.le_refl _) _))
        clear b1 b2
        go_wp2_with fail
        refine (claimsYes (R3.out _) OK.out.2.2.2.1 OV.out).mono ?_
        rintro e w3 ⟨rfl, b3⟩
        have Z3 := (Z.out.alloc _).below b3
        obtain ⟨v0, v1, v2, v3, vf, vl⟩ := Z3.cells
        have HZ := hid Z3
        clear Z Z3 b3 R3 R2 OK OV
        have m := heap_alloc_new w3 (.cells #[.int .i64 (v.l.nb 0), .int .i64 (v.l.nb 1), .int .i64 (v.l.nb 2), .int .i64 (v.l.nb 3)] 23)
        have kk := four_c m
        have TA : Hid (Calls Tryd.prog 17 #[.string T] (w3.alloc (.cells #[.int .i64 (v.l.nb 0), .int .i64 (v.l.nb 1), .int .i64 (v.l.nb 2), .int .i64 (v.l.nb 3)] 23)).drew fun e w' => e = .returned (.string T) ∧ Hid (Rz 23 w w') ∧ (w'.cell? ⟨w.heap.size, 0, none⟩ = some (.int .i64 0) ∧ w'.cell? ⟨w.heap.size, 1, none⟩ = some (.int .i64 0) ∧ w'.cell? ⟨w.heap.size, 2, none⟩ = some (.int .i64 0) ∧ w'.cell? ⟨w.heap.size, 3, none⟩ = some (.int .i64 0) ∧ (∀ j, w'.frozen? ⟨w.heap.size, j, none⟩ = false) ∧ w.heap.size < w'.heap.size) ∧ (w'.cell? ⟨w3.heap.size, 0, none⟩ = some (.int .i64 (v.l.nb 0)) ∧ w'.cell? ⟨w3.heap.size, 1, none⟩ = some (.int .i64 (v.l.nb 1)) ∧ w'.cell? ⟨w3.heap.size, 2, none⟩ = some (.int .i64 (v.l.nb 2)) ∧ w'.cell? ⟨w3.heap.size, 3, none⟩ = some (.int .i64 (v.l.nb 3)))) := by
          refine (CC.out _).mono fun e w' ⟨q1, q2⟩ => ?_
          have q : Below (w3.alloc (.cells #[.int .i64 (v.l.nb 0), .int .i64 (v.l.nb 1), .int .i64 (v.l.nb 2), .int .i64 (v.l.nb 3)] 23)).heap.size (w3.alloc (.cells #[.int .i64 (v.l.nb 0), .int .i64 (v.l.nb 1), .int .i64 (v.l.nb 2), .int .i64 (v.l.nb 3)] 23)) w' := (Below.refl _ _).drew.trans q2
          have Z := (HZ.out.alloc _).below q
          exact ⟨q1, Z, Z.cells, four_c ((q.block _ (by simp)).trans m)⟩
        have hne : w.heap.size ≠ w3.heap.size := by omega
        clear v0 v1 v2 v3 vf m CC CP CG2 hsz
        go_wp2_with fail
        go_region_held3 (fun w' => w'.cell? ⟨w3.heap.size, 0, none⟩ = some (.int .i64 (v.l.nb 0)) ∧ w'.cell? ⟨w3.heap.size, 1, none⟩ = some (.int .i64 (v.l.nb 1)) ∧ w'.cell? ⟨w3.heap.size, 2, none⟩ = some (.int .i64 (v.l.nb 2)) ∧ w'.cell? ⟨w3.heap.size, 3, none⟩ = some (.int .i64 (v.l.nb 3)))
          (first | exact kk | (simp only [cell_off hne]; exact kk) | go_keep)
          ((go_at_call 17; refine TA.out.mono ?_; rintro e w7 ⟨rfl, HZ7, ⟨v0, v1, v2, v3, vf, vl⟩, kk⟩))
        go_wp2_with fail
        exact bodyPost_ret (v := .tuple #[.agg #[.int .i64 (v.l.nb 0), .int .i64 (v.l.nb 1), .int .i64 (v.l.nb 2), .int .i64 (v.l.nb 3)], .string T, .int .i64 0]) (by simp [results, Tryd.results8, go_sem, v0, v1, v2, v3]) rfl ⟨rfl, HZ7.out.put _ _ _ _⟩
      · have e3 := HF.out v rfl hv
        obtain ⟨t0, n0⟩ := tk_none (s := s) (by rw [e3]; decide)
        rw [e3, t0, n0, n0, n0, n0]
        have OV := hid hv
        clear e3 t0 n0 HE HF HO CG hr hv
        go_enter Tryd.func8, Tryd.ntmps8
        go_wp2_with fail
        refine (CP.out _).mono ?_
        rintro e w1 ⟨rfl, b1⟩
        go_wp2_with fail
        refine (CG2.out _).mono ?_
        rintro e w2 ⟨p, cap, rfl, R2, b2⟩
        have Z := hid (((rz_start 23 w).below b1).below b2)
        have R3 := hid (fun o => rd_below (w' := w2.alloc o) R2.out ((Below.refl _ _).alloc (Nat.le_refl _) _))
        clear b1 b2
        go_wp2_with fail
        refine (claimsNot (R3.out _) OK.out.2.2.2.1 OV.out).mono ?_
        rintro e w3 ⟨rfl, b3⟩
        have Z3 := (Z.out.alloc _).below b3
        obtain ⟨v0, v1, v2, v3, vf, vl⟩ := Z3.cells
        have HZ := hid Z3
        clear Z Z3 b3 R3 R2 OK OV
        go_wp2_with fail
        exact bodyPost_ret (v := .tuple #[.agg #[.int .i64 0, .int .i64 0, .int .i64 0, .int .i64 0], .string ⟨#[]⟩, .int .i64 4]) (by simp [results, Tryd.results8, go_sem, v0, v1, v2, v3, vl]) rfl ⟨rfl, (HZ.out.put _ _ _ _).alloc (by rw [put4_size]; exact HZ.out.2.size) _⟩

end Go.Proofs.YtkelipedpjmmaaaDoor.Wtk
