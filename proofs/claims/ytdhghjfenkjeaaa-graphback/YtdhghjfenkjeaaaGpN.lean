/-
  The contracts of checkNode and soundKind, and of the document's one. Conditions: the nodes lie in memory, their numbers fit a machine.
-/
import Derived.Test.YtdhghjfenkjeaaaGpM
import Derived.Laws.Closers25
namespace Go.Proofs.Ytdhghjfenkjeaaa.Wgp
open Go.ChangeShapes Go.WideShapes Go.ChangeAt Go.RowKit Go.Proofs.Ytdhghjfenkjeaaa.M Go.Proofs.Ytdhghjfenkjeaaa.Wg

theorem full_of {b : ByteArray} (h : ¬ b.size = 0) : b.toList.isEmpty = false := by
  have e := decide_eq_emptyBytes b
  rw [← e]
  exact decide_eq_false fun h2 => h (by rw [h2]; rfl)
theorem none_of {b : ByteArray} (h : b.size = 0) : b = ⟨#[]⟩ := by
  obtain ⟨⟨l⟩⟩ := b
  cases l with
  | nil => rfl
  | cons a l => cases h
/-- What a node must have as a task, or as a call. -/
def kd (t n : Int) (fl : ByteArray) : Bool := if n = -1 then decide (fl.size = 0) else (nmd fl && decide (t = 1))
theorem one_name {x : Nd} {d : Bool} (h : nmd x.name = false) : one x d = 30 := by unfold one; rw [if_pos (.inl h)]
theorem one_dup {x : Nd} {d : Bool} (h : d = true) : one x d = 30 := by unfold one; rw [if_pos (.inr h)]
theorem one_num {x : Nd} {d : Bool} (h : nmd x.name = true) (hd : d = false) (hn : x.tries < 1 ∨ 4 < x.tries ∨ x.lease < 1 ∨ 1048576 < x.lease ∨ x.tenant < -1 ∨ 7 < x.tenant ∨ 12 < x.deps.length) : one x d = 31 := by
  unfold one
  rw [h, hd, if_neg (by decide), if_pos hn]
theorem one_kind {x : Nd} {d : Bool} (h : nmd x.name = true) (hd : d = false) (h1 : ¬ x.tries < 1) (h2 : ¬ 4 < x.tries) (h3 : ¬ x.lease < 1) (h4 : ¬ 1048576 < x.lease) (h5 : ¬ x.tenant < -1) (h6 : ¬ 7 < x.tenant) (h7 : ¬ 12 < x.deps.length) : one x d = if kd x.tries x.tenant x.flow = true then 0 else 31 := by
  unfold one kd
  rw [h, hd, if_neg (by decide), if_neg (by omega)]
  by_cases c : x.tenant = -1
  · simp [c]
  · simp [c]
    by_cases d : nmd x.flow = true
    · simp [d]
    · simp at d
      simp [d]
theorem box6 (w : World) (T : TypeId) (x : Nd) (da : Option Addr) (dc : Nat) : N6 (w.alloc (.cells #[.string x.name, .slice da x.deps.length dc, .int .i64 x.tries, .int .i64 x.lease, .int .i64 x.tenant, .string x.flow] T)) w.heap.size 0 x da dc := by
  refine ⟨?_, ?_, ?_, ?_, ?_, ?_⟩ <;> simp [go_sem]

/-- A workflow's two cells. -/
def F2 (w : World) (P : Nat) (nm : ByteArray) (v : Value) : Prop := w.cell? ⟨P, 0, none⟩ = some (.string nm) ∧ w.cell? ⟨P, 1, none⟩ = some v
theorem F2.below {w w' : World} {P : Nat} {nm : ByteArray} {v : Value} (h : F2 w P nm v) (hg : P < w.heap.size) (b : Below w.heap.size w w') : F2 w' P nm v :=
  ⟨(b.cell (p := ⟨P, 0, none⟩) hg).trans h.1, (b.cell (p := ⟨P, 1, none⟩) hg).trans h.2⟩
theorem box2 (w : World) (T : TypeId) (nm : ByteArray) (a : Option Addr) (n c : Nat) : F2 (w.alloc (.cells #[.string nm, .slice a n c] T)) w.heap.size nm (.slice a n c) := by
  refine ⟨?_, ?_⟩ <;> simp [go_sem]
theorem al (w : World) (o : Obj) : Below w.heap.size w (w.alloc o) := (Below.refl _ _).alloc (Nat.le_refl _) _
theorem al2 (w : World) (o o' : Obj) : Below w.heap.size w ((w.alloc o).alloc o') := (al w o).alloc (by simp) _

set_option maxRecDepth 100000 in
theorem soundKind (x : Nd) (da : Option Addr) (dc : Nat) (w : World) (hx : NdOk x) :
    Calls Try.prog 46 #[.agg #[.string x.name, .slice da x.deps.length dc, .int .i64 x.tries, .int .i64 x.lease, .int .i64 x.tenant, .string x.flow]] w fun e w' => e = .returned (.bool (kd x.tries x.tenant x.flow)) ∧ Below w.heap.size w w' := by
  obtain ⟨_, hf, _, _, ht, _, hn⟩ := hx
  obtain ⟨nm, ds, t, l, n, fl⟩ := x
  simp only at hf ht hn ⊢
  unfold kd
  by_cases c : n = -1
  · rw [if_pos c]
    subst c
    by_cases e : fl.size = 0
    · rw [decide_eq_true e]
      have e' := none_of e
      subst e'
      clear e
      go_enter Try.func46, Try.ntmps46
      go_wp2_with fail
      go_ret
      exact ⟨rfl, (Below.refl _ _).alloc (Nat.le_refl _) _⟩
    · rw [decide_eq_false e]
      have e1 := full_of e
      clear e
      go_enter Try.func46, Try.ntmps46
      go_wp2_with fail
      go_ret
      exact ⟨rfl, (Below.refl _ _).alloc (Nat.le_refl _) _⟩
  · rw [if_neg c]
    have C := hid fun W => named fl W (by omega)
    have c1 : (n == -1) = false := by simpa using c
    obtain ⟨r, hr⟩ : ∃ r, Hid ((nmd fl && decide (t = 1)) = r) := ⟨_, rfl⟩
    rw [hr.out]
    generalize nmd fl = k at C hr
    have T : Hid (k = false → r = false) := fun e => by have := hr.out; rw [e] at this; exact this.symm
    have T1 : Hid (k = true → t = 1 → r = true) := fun e f => by have := hr.out; rw [e, decide_eq_true f] at this; exact this.symm
    have T2 : Hid (k = true → t ≠ 1 → r = false) := fun e f => by have := hr.out; rw [e, decide_eq_false f] at this; exact this.symm
    clear hr
    go_enter Try.func46, Try.ntmps46
    go_wp2_with fail
    refine (C.out _).mono ?_
    rintro e w1 ⟨rfl, b1⟩
    obtain ⟨hcc, _⟩ := bcell b1
    clear C
    have B : Hid (Below w.heap.size w w1) := ((Below.refl _ _).alloc (Nat.le_refl _) _).trans (b1.mono (by simp))
    clear b1
    cases k
    · have E := T.out rfl
      subst E
      go_wp2_with fail
      go_ret
      exact ⟨rfl, B.out⟩
    · by_cases e : t = 1
      · have E := T1.out rfl e
        subst E
        subst e
        go_wp2_with fail
        go_ret
        exact ⟨rfl, B.out⟩
      · have E := T2.out rfl e
        subst E
        have e1 : (t == 1) = false := by simpa using e
        have e2 : decide (t = 1) = false := decide_eq_false e
        clear e
        go_wp2_with fail
        go_ret
        exact ⟨rfl, B.out⟩

set_option maxRecDepth 100000 in
set_option maxHeartbeats 3200000 in
theorem checkNode {w : World} {a : Option Addr} {L : List Nd} {cap dc : Nat} {da : Option Addr} (x : Nd) (hx : NdOk x) (h : Ns w a L) (hl : L.length ≤ 4194304) :
    Calls Try.prog 23 #[.agg #[.string x.name, .slice da x.deps.length dc, .int .i64 x.tries, .int .i64 x.lease, .int .i64 x.tenant, .string x.flow], .slice a L.length cap] w fun e w' => e = .returned (.int .i64 (one x (decide (0 ≤ fnd L x.name)))) ∧ Below w.heap.size w w' := by
  have HX := hid hx
  obtain ⟨hn, _, _, hd4, ht, hle, hte⟩ := hx
  have C := hid fun W => named x.name W (by omega)
  have CF := hid fun (W : World) (b : Below w.heap.size w W) => find (cap := cap) x.name (h.below b) hl
  have CS := hid fun W => soundKind x da dc W HX.out
  have B0 := hid (box6 w 64 x da dc)
  obtain ⟨r, hr⟩ : ∃ r, Hid (one x (decide (0 ≤ fnd L x.name)) = r) := ⟨_, rfl⟩
  rw [hr.out]
  clear h HX
  go_enter Try.func23, Try.ntmps23
  go_wp2_with fail
  refine (C.out _).mono ?_
  rintro e w1 ⟨rfl, b1⟩
  have z1 : w.heap.size < w1.heap.size := by have := b1.size; simp at this; omega
  have B1 := hid (B0.out.below (by simp) b1)
  have A1 : Hid (Below w.heap.size w w1) := ((Below.refl _ _).alloc (Nat.le_refl _) _).trans (b1.mono (by simp))
  clear C b1 B0
  rcases e1 : nmd x.name with _ | _
  · have R := hid (hr.out.symm.trans (one_name (d := decide (0 ≤ fnd L x.name)) e1))
    clear e1 CF CS
    go_wp2_with fail
    go_ret
    exact ⟨ret_i R.out.symm, A1.out⟩
  · have E1 := hid e1
    clear e1
    obtain ⟨y0, y1, y2, y3, y4, y5⟩ := B1.out
    go_wp2_with fail
    refine (CF.out _ A1.out).mono ?_
    rintro e w2 ⟨rfl, b2⟩
    have z2 : w.heap.size < w2.heap.size := by have := b2.size; omega
    have B2 := hid (B1.out.below z1 b2)
    have A2 : Hid (Below w.heap.size w w2) := A1.out.trans (b2.mono (by omega))
    clear y0 y1 y2 y3 y4 y5 b2 A1 B1 CF
    obtain ⟨y0, y1, y2, y3, y4, y5⟩ := B2.out
    by_cases e2 : 0 ≤ fnd L x.name
    · have R := hid (hr.out.symm.trans (one_dup (x := x) (decide_eq_true e2)))
      clear CS
      go_wp2_with fail
      go_ret
      exact ⟨ret_i R.out.symm, A2.out⟩
    · have E2 : Hid (one x false = r) := by have := hr.out; rw [decide_eq_false e2] at this; exact this
      by_cases t1 : x.tries < 1
      · have R := hid (E2.out.symm.trans (one_num (d := false) E1.out rfl (.inl t1)))
        go_wp2_with fail
        go_ret
        exact ⟨ret_i R.out.symm, A2.out⟩
      by_cases t2 : 4 < x.tries
      · have R := hid (E2.out.symm.trans (one_num (d := false) E1.out rfl (.inr (.inl t2))))
        go_wp2_with fail
        go_ret
        exact ⟨ret_i R.out.symm, A2.out⟩
      by_cases t3 : x.lease < 1
      · have R := hid (E2.out.symm.trans (one_num (d := false) E1.out rfl (.inr (.inr (.inl t3)))))
        go_wp2_with fail
        go_ret
        exact ⟨ret_i R.out.symm, A2.out⟩
      by_cases t4 : 1048576 < x.lease
      · have R := hid (E2.out.symm.trans (one_num (d := false) E1.out rfl (.inr (.inr (.inr (.inl t4))))))
        go_wp2_with fail
        go_ret
        exact ⟨ret_i R.out.symm, A2.out⟩
      by_cases t5 : x.tenant < -1
      · have R := hid (E2.out.symm.trans (one_num (d := false) E1.out rfl (.inr (.inr (.inr (.inr (.inl t5)))))))
        go_wp2_with fail
        go_ret
        exact ⟨ret_i R.out.symm, A2.out⟩
      by_cases t6 : 7 < x.tenant
      · have R := hid (E2.out.symm.trans (one_num (d := false) E1.out rfl (.inr (.inr (.inr (.inr (.inr (.inl t6))))))))
        go_wp2_with fail
        go_ret
        exact ⟨ret_i R.out.symm, A2.out⟩
      by_cases t7 : 12 < x.deps.length
      · have R := hid (E2.out.symm.trans (one_num (d := false) E1.out rfl (.inr (.inr (.inr (.inr (.inr (.inr t7))))))))
        go_wp2_with fail
        go_ret
        exact ⟨ret_i R.out.symm, A2.out⟩
      have R := hid (E2.out.symm.trans (one_kind (d := false) E1.out rfl t1 t2 t3 t4 t5 t6 t7))
      go_wp2_with fail
      refine (CS.out _).mono ?_
      rintro e w3 ⟨rfl, b3⟩
      have A3 : Hid (Below w.heap.size w w3) := A2.out.trans (b3.mono (by omega))
      clear CS b3 y0 y1 y2 y3 y4 y5 B2 A2
      generalize kd x.tries x.tenant x.flow = k at R
      cases k
      · go_wp2_with fail
        go_ret
        exact ⟨ret_i R.out.symm, A3.out⟩
      · go_wp2_with fail
        go_ret
        exact ⟨ret_i R.out.symm, A3.out⟩

set_option maxRecDepth 100000 in
set_option maxHeartbeats 6400000 in
theorem oneRef {w : World} {a : Option Addr} {L : List Nd} {cap i : Nat} (nm : ByteArray) (h : Ns w a L) (hl : L.length ≤ 4194304) (hi : i < L.length) (hok : ∀ x ∈ L, NdOk x) :
    Calls Try.prog 27 #[.agg #[.string nm, .slice a L.length cap], .int .i64 (i : Int)] w fun e w' => e = .returned (.int .i64 (oneI L i)) ∧ Below w.heap.size w w' := by
  obtain ⟨x, hx⟩ : ∃ x, L[i]? = some x := ⟨L[i], List.getElem?_eq_getElem hi⟩
  have hd := hid (fnd_dup hx)
  rw [oneI_of hx]
  have CF := hid fun (W : World) (b : Below w.heap.size w W) => findRef (cap := cap) nm x.name (h.below b) hl
  obtain ⟨g, da, dc, rfl, hg, N, _⟩ := h.at hx
  obtain ⟨q0, q1, q2, q3, q4, q5⟩ := N
  obtain ⟨hn, hfl, _, hd4, ht, hle, hte⟩ := hok x (List.mem_of_getElem? hx)
  have C := hid fun W => namedRef x.name W (by omega)
  have C2 := hid fun W => namedRef x.flow W (by omega)
  have K6 := hid (box6 (w.alloc (.cells #[.string nm, .slice (some ⟨g, 0, none⟩) L.length cap] 30)) 70 x da dc)
  have K2 := hid ((box2 w 30 nm (some ⟨g, 0, none⟩) L.length cap).below (by simp) (al _ (.cells #[.string x.name, .slice da x.deps.length dc, .int .i64 x.tries, .int .i64 x.lease, .int .i64 x.tenant, .string x.flow] 70)))
  have K0 := hid (al2 w (.cells #[.string nm, .slice (some ⟨g, 0, none⟩) L.length cap] 30) (.cells #[.string x.name, .slice da x.deps.length dc, .int .i64 x.tries, .int .i64 x.lease, .int .i64 x.tenant, .string x.flow] 70))
  rw [World.size_alloc] at K6
  obtain ⟨r, hr⟩ : ∃ r, Hid (one x (decide (0 ≤ fnd (L.take i) x.name)) = r) := ⟨_, rfl⟩
  rw [hr.out]
  clear h hx hok
  go_enter Try.func27, Try.ntmps27
  go_wp2_with fail
  refine (C.out _).mono ?_
  rintro e w1 ⟨rfl, b1⟩
  have z1 : w.heap.size + 1 < w1.heap.size := by have := b1.size; simp at this; omega
  have z0 : w.heap.size < w1.heap.size := by omega
  have B6 := hid (K6.out.below (by simp only [World.size_alloc]; omega) b1)
  have B2 := hid (K2.out.below (by simp only [World.size_alloc]; omega) b1)
  have A1 : Hid (Below w.heap.size w w1) := K0.out.trans (b1.mono (by simp; omega))
  clear C b1 K6 K2 K0 q0 q1 q2 q3 q4 q5
  obtain ⟨y0, y1, y2, y3, y4, y5⟩ := B6.out
  obtain ⟨y6, y7⟩ := B2.out
  go_wp2_with fail
  refine (CF.out _ A1.out).mono ?_
  rintro e w2 ⟨rfl, b2⟩
  have z2 : w.heap.size + 1 < w2.heap.size := by have := b2.size; omega
  have C6 := hid (B6.out.below z1 b2)
  have A2 : Hid (Below w.heap.size w w2) := A1.out.trans (b2.mono (by omega))
  clear y0 y1 y2 y3 y4 y5 y6 y7 b2 A1 B6 B2 CF
  obtain ⟨y0, y1, y2, y3, y4, y5⟩ := C6.out
  rcases e1 : nmd x.name with _ | _
  · have R := hid (hr.out.symm.trans (one_name (d := decide (0 ≤ fnd (L.take i) x.name)) e1))
    clear e1 C2 hr hd
    go_wp2_with fail
    go_ret
    exact ⟨ret_i R.out.symm, A2.out⟩
  · have E1 := hid e1
    clear e1
    by_cases e2 : fnd L x.name = (i : Int)
    · have E2 : Hid (one x false = r) := by
        have := hr.out
        rw [decide_eq_false (fun h => (hd.out.2 h) e2)] at this
        exact this
      have f1 : (fnd L x.name != (i : Int)) = false := by simp [e2]
      have f2 : (fnd L x.name == (i : Int)) = true := by simp [e2]
      clear e2 hr hd
      by_cases t1 : x.tries < 1
      · have R := hid (E2.out.symm.trans (one_num (d := false) E1.out rfl (.inl t1)))
        go_wp2_with fail
        go_ret
        exact ⟨ret_i R.out.symm, A2.out⟩
      by_cases t2 : 4 < x.tries
      · have R := hid (E2.out.symm.trans (one_num (d := false) E1.out rfl (.inr (.inl t2))))
        go_wp2_with fail
        go_ret
        exact ⟨ret_i R.out.symm, A2.out⟩
      by_cases t3 : x.lease < 1
      · have R := hid (E2.out.symm.trans (one_num (d := false) E1.out rfl (.inr (.inr (.inl t3)))))
        go_wp2_with fail
        go_ret
        exact ⟨ret_i R.out.symm, A2.out⟩
      by_cases t4 : 1048576 < x.lease
      · have R := hid (E2.out.symm.trans (one_num (d := false) E1.out rfl (.inr (.inr (.inr (.inl t4))))))
        go_wp2_with fail
        go_ret
        exact ⟨ret_i R.out.symm, A2.out⟩
      by_cases t5 : x.tenant < -1
      · have R := hid (E2.out.symm.trans (one_num (d := false) E1.out rfl (.inr (.inr (.inr (.inr (.inl t5)))))))
        go_wp2_with fail
        go_ret
        exact ⟨ret_i R.out.symm, A2.out⟩
      by_cases t6 : 7 < x.tenant
      · have R := hid (E2.out.symm.trans (one_num (d := false) E1.out rfl (.inr (.inr (.inr (.inr (.inr (.inl t6))))))))
        go_wp2_with fail
        go_ret
        exact ⟨ret_i R.out.symm, A2.out⟩
      by_cases t7 : 12 < x.deps.length
      · have R := hid (E2.out.symm.trans (one_num (d := false) E1.out rfl (.inr (.inr (.inr (.inr (.inr (.inr t7))))))))
        go_wp2_with fail
        go_ret
        exact ⟨ret_i R.out.symm, A2.out⟩
      have R := hid (E2.out.symm.trans (one_kind (d := false) E1.out rfl t1 t2 t3 t4 t5 t6 t7))
      by_cases c : x.tenant = -1
      · have c1 : (x.tenant == -1) = true := by simp [c]
        by_cases e : x.flow.size = 0
        · have R1 := hid (R.out.trans (by unfold kd; rw [if_pos c, decide_eq_true e, if_pos rfl]))
          have e' := none_of e
          rw [e'] at y5
          clear R e C6 c
          go_wp2_with fail
          go_ret
          exact ⟨ret_i R1.out.symm, A2.out⟩
        · have R1 := hid (R.out.trans (by unfold kd; rw [if_pos c, decide_eq_false e, if_neg (by decide)]))
          have e1 := full_of e
          clear R e C6 c
          go_wp2_with fail
          go_ret
          exact ⟨ret_i R1.out.symm, A2.out⟩
      · have c1 : (x.tenant == -1) = false := by simpa using c
        rw [show kd x.tries x.tenant x.flow = (nmd x.flow && decide (x.tries = 1)) from by unfold kd; rw [if_neg c]] at R
        clear c
        go_wp2_with fail
        refine (C2.out _).mono ?_
        rintro e w3 ⟨rfl, b3⟩
        have C6' := hid (C6.out.below z2 b3)
        have A3 : Hid (Below w.heap.size w w3) := A2.out.trans (b3.mono (by omega))
        clear y0 y1 y2 y3 y4 y5 b3 A2 C2
        obtain ⟨y0, y1, y2, y3, y4, y5⟩ := C6'.out
        clear C6 C6'
        generalize nmd x.flow = k at R
        cases k
        · have R1 : Hid (r = 31) := hid (by have := R.out; simpa using this)
          clear R
          go_wp2_with fail
          go_ret
          exact ⟨ret_i R1.out.symm, A3.out⟩
        · by_cases e : x.tries = 1
          · have R1 : Hid (r = 0) := hid (by have := R.out; rw [decide_eq_true e] at this; simpa using this)
            have f3 : (x.tries == 1) = true := by simp [e]
            have f4 : (x.tries != 1) = false := by simp [e]
            clear R e
            go_wp2_with fail
            go_ret
            exact ⟨ret_i R1.out.symm, A3.out⟩
          · have R1 : Hid (r = 31) := hid (by have := R.out; rw [decide_eq_false e] at this; simpa using this)
            have f3 : (x.tries == 1) = false := by simpa using e
            have f4 : (x.tries != 1) = true := by simpa using e
            clear R e
            go_wp2_with fail
            go_ret
            exact ⟨ret_i R1.out.symm, A3.out⟩
    · have R := hid (hr.out.symm.trans (one_dup (x := x) (decide_eq_true (hd.out.1 e2))))
      have f1 : (fnd L x.name != (i : Int)) = true := by simpa using e2
      have f2 : (fnd L x.name == (i : Int)) = false := by simpa using e2
      clear e2 hr hd C2
      go_wp2_with fail
      go_ret
      exact ⟨ret_i R.out.symm, A2.out⟩

end Go.Proofs.Ytdhghjfenkjeaaa.Wgp
