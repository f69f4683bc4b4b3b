/-
  The contracts of checkNode and soundKind, and of the document's one. Conditions: the nodes lie in memory, their numbers fit a machine.
-/
import Derived.Test.YtainajjklakaeaaGpM
import Derived.Laws.Closers25
namespace Go.Proofs.Ytainajjklakaeaa.Wgp
open Go.ChangeShapes Go.WideShapes Go.ChangeAt Go.RowKit Go.Proofs.Ytainajjklakaeaa.M Go.Proofs.Ytainajjklakaeaa.Wg

theorem full_of {b : ByteArray} (h : ¬ b.size = 0) : b.toList.isEmpty = false := by
  have e := decide_eq_emptyBytes b
  rw [← e]
  exact decide_eq_false fun h2 => h (by rw [h2]; rfl)
theorem none_of {b : ByteArray} (h : b.size = 0) : b = ⟨#[]⟩ := by
  obtain ⟨⟨l⟩⟩ := b
  cases l with
  | nil => rfl
  | cons a l => cases h
/-- What a node must have as a task, or as a call. -/
def kd (t n : Int) (fl : ByteArray) : Bool := if n = -1 then decide (fl.size = 0) else (nmd fl && decide (t = 1))
theorem one_name {x : Nd} {d : Bool} (h : nmd x.name = false) : one x d = 30 := by unfold one; rw [if_pos (.inl h)]
theorem one_dup {x : Nd} {d : Bool} (h : d = true) : one x d = 30 := by unfold one; rw [if_pos (.inr h)]
theorem one_num {x : Nd} {d : Bool} (h : nmd x.name = true) (hd : d = false) (hn : x.tries < 1 ∨ 4 < x.tries ∨ x.lease < 1 ∨ 1048576 < x.lease ∨ x.tenant < -1 ∨ 7 < x.tenant ∨ 12 < x.deps.length) : one x d = 31 := by
  unfold one
  rw [h, hd, if_neg (by decide), if_pos hn]
theorem one_kind {x : Nd} {d : Bool} (h : nmd x.name = true) (hd : d = false) (h1 : ¬ x.tries < 1) (h2 : ¬ 4 < x.tries) (h3 : ¬ x.lease < 1) (h4 : ¬ 1048576 < x.lease) (h5 : ¬ x.tenant < -1) (h6 : ¬ 7 < x.tenant) (h7 : ¬ 12 < x.deps.length) : one x d = if kd x.tries x.tenant x.flow = true then 0 else 31 := by
  unfold one kd
  rw [h, hd, if_neg (by decide), if_neg (by omega)]
  by_cases c : x.tenant = -1
  · simp [c]
  · simp [c]
    by_cases d : nmd x.flow = true
    · simp [d]
    · simp at d
      simp [d]
theorem box6 (w : World) (T : TypeId) (x : Nd) (da : Option Addr) (dc : Nat) : N6 (w.alloc (.cells #[.string x.name, .slice da x.deps.length dc, .int .i64 x.tries, .int .i64 x.lease, .int .i64 x.tenant, .string x.flow] T)) w.heap.size 0 x da dc := by
  refine ⟨?_, ?_, ?_, ?_, ?_, ?_⟩ <;> simp [go_sem]

/-- A workflow's two cells. -/
def F2 (w : World) (P : Nat) (nm : ByteArray) (v : Value) : Prop := w.cell? ⟨P, 0, none⟩ = some (.string nm) ∧ w.cell? ⟨P, 1, none⟩ = some v
theorem F2.below {w w' : World} {P : Nat} {nm : ByteArray} {v : Value} (h : F2 w P nm v) (hg : P < w.heap.size) (b : Below w.heap.size w w') : F2 w' P nm v :=
  ⟨(b.cell (p := ⟨P, 0, none⟩) hg).trans h.1, (b.cell (p := ⟨P, 1, none⟩) hg).trans h.2⟩
theorem box2 (w : World) (T : TypeId) (nm : ByteArray) (a : Option Addr) (n c : Nat) : F2 (w.alloc (.cells #[.string nm, .slice a n c] T)) w.heap.size nm (.slice a n c) := by
  refine ⟨?_, ?_⟩ <;> simp [go_sem]
theorem al (w : World) (o : Obj) : Below w.heap.size w (w.alloc o) := (Below.refl _ _).alloc (Nat.le_refl _) _
theorem al2 (w : World) (o o' : Obj) : Below w.heap.size w ((w.alloc o).alloc o') := (al w o).alloc (by simp) _

set_option maxRecDepth 100000 in
theorem soundKind (x : Nd) (da : Option Addr) (dc : Nat) (w : World) (hx : NdOk x) :
    Calls Try.prog 37 #[.agg #[.string x.name, .slice da x.deps.length dc, .int .i64 x.tries, .int .i64 x.lease, .int .i64 x.tenant, .string x.flow]] w fun e w' => e = .returned (.bool (kd x.tries x.tenant x.flow)) ∧ Below w.heap.size w w' := by
  obtain ⟨_, hf, _, _, ht, _, hn⟩ := hx
  obtain ⟨nm, ds, t, l, n, fl⟩ := x
  simp only at hf ht hn ⊢
  unfold kd
  by_cases c : n = -1
  · rw [if_pos c]
    subst c
    by_cases e : fl.size = 0
    · rw [decide_eq_true e]
      have e' := none_of e
      subst e'
      clear e
      go_enter Try.func37, Try.ntmps37
      go_wp2_with fail
      go_ret
      exact ⟨rfl, (Below.refl _ _).alloc (Nat.le_refl _) _⟩
    · rw [decide_eq_false e]
      have e1 := full_of e
      clear e
      go_enter Try.func37, Try.ntmps37
      go_wp2_with fail
      go_ret
      exact ⟨rfl, (Below.refl _ _).alloc (Nat.le_refl _) _⟩
  · rw [if_neg c]
    have C := hid fun W => named fl W (by omega)
    have c1 : (n == -1) = false := by simpa using c
    obtain ⟨r, hr⟩ : ∃ r, Hid ((nmd fl && decide (t = 1)) = r) := ⟨_, rfl⟩
    rw [hr.out]
    generalize nmd fl = k at C hr
    have T : Hid (k = false → r = false) := fun e => by have := hr.out; rw [e] at this; exact this.symm
    have T1 : Hid (k = true → t = 1 → r = true) := fun e f => by have := hr.out; rw [e, decide_eq_true f] at this; exact this.symm
    have T2 : Hid (k = true → t ≠ 1 → r = false) := fun e f => by have := hr.out; rw [e, decide_eq_false f] at this; exact this.symm
    clear hr
    go_enter Try.func37, Try.ntmps37
    go_wp2_with fail
    refine (C.out _).mono ?_
    rintro e w1 ⟨rfl, b1⟩
    obtain ⟨hcc, _⟩ := bcell b1
    clear C
    have B : Hid (Below w.heap.size w w1) := ((Below.refl _ _).alloc (Nat.le_refl _) _).trans (b1.mono (by simp))
    clear b1
    cases k
    · have E := T.out rfl
      subst E
      go_wp2_with fail
      go_ret
      exact ⟨rfl, B.out⟩
    · by_cases e : t = 1
      · have E := T1.out rfl e
        subst E
        subst e
        go_wp2_with fail
        go_ret
        exact ⟨rfl, B.out⟩
      · have E := T2.out rfl e
        subst E
        have e1 : (t == 1) = false := by simpa using e
        have e2 : decide (t = 1) = false := decide_eq_false e
        clear e
        go_wp2_with fail
        go_ret
        exact ⟨rfl, B.out⟩

set_option maxRecDepth 100000 in
set_option maxHeartbeats 3200000 in
theorem checkNode {w : World} {a : Option Addr} {L : List Nd} {cap dc : Nat} {da : Option Addr} (x : Nd) (hx : NdOk x) (h : Ns w a L) (hl : L.length ≤ 4194304) :
    Calls Try.prog 30 #[.agg #[.string x.name, .slice da x.deps.length dc, .int .i64 x.tries, .int .i64 x.lease, .int .i64 x.tenant, .string x.flow], .slice a L.length cap] w fun e w' => e = .returned (.int .i64 (one x (decide (0 ≤ fnd L x.name)))) ∧ Below w.heap.size w w' := by
  have HX := hid hx
  obtain ⟨hn, _, _, hd4, ht, hle, hte⟩ := hx
  have C := hid fun W => named x.name W (by omega)
  have CF := hid fun (W : World) (b : Below w.heap.size w W) => find (cap := cap) x.name (h.below b) hl
  have CS := hid fun W => soundKind x da dc W HX.out
  have B0 := hid (box6 w 56 x da dc)
  obtain ⟨r, hr⟩ : ∃ r, Hid (one x (decide (0 ≤ fnd L x.name)) = r) := ⟨_, rfl⟩
  rw [hr.out]
  clear h HX
  go_enter Try.func30, Try.ntmps30
  go_wp2_with fail
  refine (C.out _).mono ?_
  rintro e w1 ⟨rfl, b1⟩
  have z1 : w.heap.size < w1.heap.size := by have := b1.size; simp at this; omega
  have B1 := hid (B0.out.below (by simp) b1)
  have A1 : Hid (Below w.heap.size w w1) := ((Below.refl _ _).alloc (Nat.le_refl _) _).trans (b1.mono (by simp))
  clear C b1 B0
  rcases e1 : nmd x.name with _ | _
  · have R := hid (hr.out.symm.trans (one_name (d := decide (0 ≤ fnd L x.name)) e1))
    clear e1 CF CS
    go_wp2_with fail
    go_ret
    exact ⟨ret_i R.out.symm, A1.out⟩
  · have E1 := hid e1
    clear e1
    obtain ⟨y0, y1, y2, y3, y4, y5⟩ := B1.out
    go_wp2_with fail
    refine (CF.out _ A1.out).mono ?_
    rintro e w2 ⟨rfl, b2⟩
    have z2 : w.heap.size < w2.heap.size := by have := b2.size; omega
    have B2 := hid (B1.out.below z1 b2)
    have A2 : Hid (Below w.heap.size w w2) := A1.out.trans (b2.mono (by omega))
    clear y0 y1 y2 y3 y4 y5 b2 A1 B1 CF
    obtain ⟨y0, y1, y2, y3, y4, y5⟩ := B2.out
    by_cases e2 : 0 ≤ fnd L x.name
    · have R := hid (hr.out.symm.trans (one_dup (x := x) (decide_eq_true e2)))
      clear CS
      go_wp2_with fail
      go_ret
      exact ⟨ret_i R.out.symm, A2.out⟩
    · have E2 : Hid (one x false = r) := by have := hr.out; rw [decide_eq_false e2] at this; exact this
      by_cases t1 : x.tries < 1
      · have R := hid (E2.out.symm.trans (one_num (d := false) E1.out rfl (.inl t1)))
        go_wp2_with fail
        go_ret
        exact ⟨ret_i R.out.symm, A2.out⟩
      by_cases t2 : 4 < x.tries
      · have R := hid (E2.out.symm.trans (one_num (d := false) E1.out rfl (.inr (.inl t2))))
        go_wp2_with fail
        go_ret
        exact ⟨ret_i R.out.symm, A2.out⟩
      by_cases t3 : x.lease < 1
      · have R := hid (E2.out.symm.trans (one_num (d := false) E1.out rfl (.inr (.inr (.inl t3)))))
        go_wp2_with fail
        go_ret
        exact ⟨ret_i R.out.symm, A2.out⟩
      by_cases t4 : 1048576 < x.lease
      · have R := hid (E2.out.symm.trans (one_num (d := false) E1.out rfl (.inr (.inr (.inr (.inl t4))))))
        go_wp2_with fail
        go_ret
        exact ⟨ret_i R.out.symm, A2.out⟩
      by_cases t5 : x.tenant < -1
      · have R := hid (E2.out.symm.trans (one_num (d := false) E1.out rfl (.inr (.inr (.inr (.inr (.inl t5)))))))
        go_wp2_with fail
        go_ret
        exact ⟨ret_i R.out.symm, A2.out⟩
      by_cases t6 : 7 < x.tenant
      · have R := hid (E2.out.symm.trans (one_num (d := false) E1.out rfl (.inr (.inr (.inr (.inr (.inr (.inl t6))))))))
        go_wp2_with fail
        go_ret
        exact ⟨ret_i R.out.symm, A2.out⟩
      by_cases t7 : 12 < x.deps.length
      · have R := hid (E2.out.symm.trans (one_num (d := false) E1.out rfl (.inr (.inr (.inr (.inr (.inr (.inr t7))))))))
        go_wp2_with fail
        go_ret
        exact ⟨ret_i R.out.symm, A2.out⟩
      have R := hid (E2.out.symm.trans (one_kind (d := false) E1.out rfl t1 t2 t3 t4 t5 t6 t7))
      go_wp2_with fail
      refine (CS.out _).mono ?_
      rintro e w3 ⟨rfl, b3⟩
      have A3 : Hid (Below w.heap.size w w3) := A2.out.trans (b3.mono (by omega))
      clear CS b3 y0 y1 y2 y3 y4 y5 B2 A2
      generalize kd x.tries x.tenant x.flow = k at R
      cases k
      · go_wp2_with fail
        go_ret
        exact ⟨ret_i R.out.symm, A3.out⟩
      · go_wp2_with fail
        go_ret
        exact ⟨ret_i R.out.symm, A3.out⟩

end Go.Proofs.Ytainajjklakaeaa.Wgp
