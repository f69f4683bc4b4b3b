/-
  The walk of the law GraphBack: it returns true, and nothing that was in memory has turned. Conditions: none but that the law's workflow and items lie in memory as such do.
-/
import Derived.Test.YtdhghjfenkjeaaaGpL
import Derived.Test.YtdhghjfenkjeaaaGpUv
import Derived.Test.YtdhghjfenkjeaaaGpRc
import Derived.Test.YtdhghjfenkjeaaaBuild
namespace Go.Proofs.Ytdhghjfenkjeaaa.Wgb
open Go.ChangeShapes Go.WideShapes Go.ChangeAt Go.RowKit Go.Proofs.Ytdhghjfenkjeaaa.M Go.Proofs.Ytdhghjfenkjeaaa.Wgp Go.Proofs.Ytdhghjfenkjeaaa.Wgv Go.Proofs.Ytdhghjfenkjeaaa.Wgf Go.Proofs.Ytdhghjfenkjeaaa.Wgl Go.Proofs.Ytdhghjfenkjeaaa.Wn

theorem hid {p : Prop} (h : p) : Hid p := h
def Its (w : World) (p : Option Addr) (n : Nat) : Prop := n = 0 ∨ ∃ gl ol, p = some ⟨gl, ol, none⟩ ∧ Items w gl ol n
theorem Its.below {w w' : World} {p : Option Addr} {n : Nat} (h : Its w p n) (hb : Below w.heap.size w w') : Its w' p n := by
  rcases h with h | ⟨gl, ol, h1, h2⟩
  · exact .inl h
  · exact .inr ⟨gl, ol, h1, h2.grown (grown_some (grown_below hb) (some (gl + 1))) (by omega)⟩
/-- Do all nodes' numbers fit 32 bits? -/
def smN (x : Nd) : Bool := sm x.tries && sm x.tenant
def allS (M : List Nd) : Bool := M.all smN
theorem allS_snoc {M : List Nd} {i : Nat} {x : Nd} (h : M[i]? = some x) : allS (M.take (i + 1)) = (allS (M.take i) && smN x) := by
  unfold allS
  rw [List.take_add_one, h]
  simp

theorem allS_mem {M : List Nd} (h : allS M = true) : ∀ x ∈ M, sm x.tries = true ∧ sm x.tenant = true := fun x hx => by
  have := List.all_eq_true.1 h x hx
  simpa [smN] using this
theorem allS_no {M : List Nd} (h : allS M = false) : ∃ x ∈ M, ¬ (sm x.tries = true ∧ sm x.tenant = true) := by
  obtain ⟨x, hx, h2⟩ := List.all_eq_false.1 h
  exact ⟨x, hx, by simpa [smN] using h2⟩
theorem back_some {nm nm' : ByteArray} {M L' : List Nd} (h : rdF 2 (flowF nm M) = some (nm', L')) : allS M = true ∧ nm' = nm ∧ L' = M := by
  rcases e : allS M with _ | _
  · obtain ⟨x, hx, h2⟩ := allS_no e
    rw [rdF_none hx h2] at h; cases h
  · rw [rdF_back (allS_mem e)] at h
    simp only [Option.some.injEq, Prod.mk.injEq] at h
    exact ⟨rfl, h.1.symm, h.2.symm⟩
theorem back_none {nm : ByteArray} {M : List Nd} (h : rdF 2 (flowF nm M) = none) : allS M = false := by
  rcases e : allS M with _ | _
  · rfl
  · rw [rdF_back (allS_mem e)] at h; cases h

theorem alloc2 (w : World) (a b : Obj) : ∀ X, X = (w.alloc a).alloc b → X.heap[w.heap.size]? = some a ∧ X.heap[w.heap.size + 1]? = some b ∧ X.heap.size = w.heap.size + 2 ∧ Below w.heap.size w X := by
  intro X hX
  have y1 := heap_alloc_new w a
  have y2 := heap_alloc_new (w.alloc a) b
  rw [World.size_alloc] at y2
  subst hX
  exact ⟨by rw [Below.heap_alloc _ _ _ (by simp), y1], y2, by simp, ((Below.refl _ _).alloc (Nat.le_refl _) _).alloc (by simp) _⟩
theorem four {w : World} {b : Nat} {x0 x1 x2 x3 : Value} {T : TypeId} (h : w.heap[b]? = some (.cells #[x0, x1, x2, x3] T (0, 0))) : w.cell? ⟨b, 0, none⟩ = some x0 ∧ w.cell? ⟨b, 1, none⟩ = some x1 ∧ w.cell? ⟨b, 2, none⟩ = some x2 ∧ w.cell? ⟨b, 3, none⟩ = some x3 := by
  simp [World.cell?, h]
theorem read_ok {k : Int} {f : F} {nm : ByteArray} {L : List Nd} (h : rdF k f = some (nm, L)) (ho : f.ok) (hn : f.nodes ≤ 400) : k = 2 ∧ nm.size ≤ 140737488355328 ∧ L.length ≤ 400 ∧ ∀ x ∈ L, NdOk x := by
  obtain ⟨hk, n0, g0, n1, s1, l1, hf, hr⟩ := rdF_form h
  have a0 : f.at 0 = some (1, n0, nm, g0) := by rw [hf]; rfl
  have a1 : f.at 1 = some (2, n1, s1, l1) := by rw [hf]; rfl
  have hnn := F.at_nodes a1
  obtain ⟨h1, h2⟩ := rdL_ok hr (F.at_ok a1 ho).2.2.2 (by omega)
  have := F.len_nodes l1
  exact ⟨hk, (F.at_ok a0 ho).2.2.1, by omega, h1⟩

theorem conv (n : Int) (h1 : -9223372036854775808 ≤ n) (h2 : n < 9223372036854775808) : ∃ t, (∀ W, (convert 3 21 (.int .i64 n)).run Try.prog W = .ok (.int .i32 t) W) ∧ (∀ W, (convert 21 3 (.int .i32 t)).run Try.prog W = .ok (.int .i64 t) W) ∧ (n == t) = sm n := by
  have e := IntKind.wrap_i32 n
  have e3 : IntKind.i64.wrap (IntKind.i32.wrap n) = IntKind.i32.wrap n := by rw [IntKind.wrap_i64, e]; omega
  have k1 : Try.prog.intKind 21 = .i32 := by kernel_rfl
  have k2 : Try.prog.intKind 3 = .i64 := by kernel_rfl
  have g1 : (Try.prog.underlying 3).isSome = true := by kernel_rfl
  have g2 : (Try.prog.underlying 21).isSome = true := by kernel_rfl
  have g3 : Try.prog.underlying 21 = some (.int (Try.prog.intKind 21)) := by kernel_rfl
  have g4 : Try.prog.underlying 3 = some (.int (Try.prog.intKind 3)) := by kernel_rfl
  refine ⟨IntKind.i32.wrap n, fun W => ?_, fun W => ?_, ?_⟩
  · have := run_convert_int (P := Try.prog) (w := W) 3 21 .i64 n g1 g3
    rw [k1] at this
    exact this
  · have := run_convert_int (P := Try.prog) (w := W) 21 3 .i32 (IntKind.i32.wrap n) g2 g4
    rw [k2, e3] at this
    exact this
  · unfold sm
    rw [e]
    by_cases c : -2147483648 ≤ n ∧ n ≤ 2147483647
    · rw [decide_eq_true c]
      simp; omega
    · rw [decide_eq_false c]
      simp; omega

set_option maxRecDepth 100000 in
set_option maxHeartbeats 6400000 in
theorem back (nm : ByteArray) (a : Option Addr) (L : List Nd) (c : Nat) (pl : Option Addr) (ln cl : Nat) (w : World) (hn : nm.size ≤ 140737488355328) (hc : L.length ≤ c) (hcm : c ≤ maxLen) (hV : Vs w a L) (hI : Its w pl ln) :
    Calls Try.prog 6 #[.agg #[.string nm, .slice a L.length c], .slice pl ln cl] w fun e w' => e = .returned (.bool true) ∧ Below w.heap.size w w' := by
  have A0 := hid (al w (.cells #[.string nm, .slice a L.length c] 24))
  have CF := hid (flows (c := c) nm (vs_below hV A0.out) hc hcm)
  have HO := hid (cut_ok hV.1)
  have HL := hid (cut_len L)
  have WK := hid wakes
  have HI := hid hI
  clear hV hI
  go_enter Try.func6, Try.ntmps6
  go_wp2_with fail
  refine CF.out.mono ?_
  intro e w1 h1
  unfold FlP at h1
  generalize cutL L = M at h1 HO HL
  obtain ⟨q1, q2, d1, d2, rfl, n1, n2, m1, m2, b1⟩ := h1
  have A1 := hid (A0.out.trans (b1.mono (by simp)))
  clear CF b1 A0
  go_wp2_with fail
  obtain ⟨X, hX⟩ : ∃ X, X = (w1.alloc (.cells #[.string nm, .slice q1 M.length d1] 27)).alloc (.cells #[.string nm, .slice q2 M.length d2] 30) := ⟨_, rfl⟩
  rw [← hX]
  obtain ⟨f1, f2, zX, bX⟩ := two_boxes _ _ nm q1 q2 M.length d1 d2 X hX
  have AX := hid (A1.out.trans (bX.mono A1.out.size))
  have hl := HL.out
  have NX := hid (n1.below bX)
  have F1' := hid f1
  have Z1 := hid m1
  clear n1 n2 hX bX f1 f2 A1 m1 m2
  go_loopw [7, 24] (fun sv iv wr => ∃ i : Nat, i ≤ M.length ∧ iv = .int .i64 (i : Int) ∧ sv = .bool (allS (M.take i)) ∧ Below X.heap.size X wr) (fun _ iv _ => M.length - (intOf iv).toNat)
  case atStart => exact ⟨0, Nat.zero_le _, rfl, by simp [allS], Below.refl _ _⟩
  case round =>
    obtain ⟨i, hi, rfl, rfl, hb⟩ := hrel
    by_cases ci : i < M.length
    · obtain ⟨x, hx⟩ : ∃ x, M[i]? = some x := ⟨M[i], List.getElem?_eq_getElem ci⟩
      have hs := hid (allS_snoc hx)
      have hxk := hid (HO.out x (List.mem_of_getElem? hx))
      obtain ⟨g, da, dc, rfl, hg, h6, hD⟩ := (NX.out.below hb).at hx
      obtain ⟨y0, y1, y2, y3, y4, y5⟩ := h6
      generalize allS (M.take i) = S at hs ⊢
      clear hx hD
      rcases S with _ | _
      · go_wp2_with fail
        go_roundw
        case rel => exact ⟨i + 1, ci, by go_num, by rw [hs.out]; rfl, (hb.alloc hb.size _)⟩
        case measure => simp [intOf]; omega
      · obtain ⟨t1, v1, v2, v3⟩ := conv x.tries hxk.out.2.2.2.2.1.1 hxk.out.2.2.2.2.1.2
        obtain ⟨t2, u1, u2, u3⟩ := conv x.tenant hxk.out.2.2.2.2.2.2.1 hxk.out.2.2.2.2.2.2.2
        rcases e1 : sm x.tries with _ | _
        · rw [e1] at v3
          have hs' : Hid (allS (List.take (i + 1) M) = false) := hid (by rw [hs.out, smN, e1]; rfl)
          clear hxk hs e1
          go_wp2_with fail
          go_roundw
          case rel => exact ⟨i + 1, ci, by go_num, by rw [hs'.out], (hb.alloc hb.size _)⟩
          case measure => simp [intOf]; omega
        · rw [e1] at v3
          rcases e2 : sm x.tenant with _ | _
          · rw [e2] at u3
            have hs' : Hid (allS (List.take (i + 1) M) = false) := hid (by rw [hs.out, smN, e1, e2]; rfl)
            clear hxk hs e1 e2
            go_wp2_with fail
            go_roundw
            case rel => exact ⟨i + 1, ci, by go_num, by rw [hs'.out], (hb.alloc hb.size _)⟩
            case measure => simp [intOf]; omega
          · rw [e2] at u3
            have hs' : Hid (allS (List.take (i + 1) M) = true) := hid (by rw [hs.out, smN, e1, e2]; rfl)
            clear hxk hs e1 e2
            go_wp2_with fail
            go_roundw
            case rel => exact ⟨i + 1, ci, by go_num, by rw [hs'.out], (hb.alloc hb.size _)⟩
            case measure => simp [intOf]; omega
    · have ei : i = M.length := by omega
      subst ei
      rw [List.take_length]
      obtain ⟨y0, y1⟩ := F1'.out.below (by omega) hb
      have CV := hid (Wgu.value (cap := d1) nm hn (NX.out.below hb) (by omega) HO.out)
      have AR := hid (AX.out.trans (hb.mono AX.out.size))
      have HB := hid hb
      clear hb
      go_wp2_with fail
      refine CV.out.mono ?_
      rintro e w2 ⟨p, cp, rfl, hR, b2⟩
      have hR' := hid hR
      have CR := hid (Wgr.read 2 0 ⟨#[]⟩ (flowF nm M) (.slice p 2 cp) w2 _ hR (flowF_ok hn HO.out) (by have := nodesF_nodes HO.out; simp only [flowF, F.nodes]; omega))
      have A2 := hid (AR.out.trans (b2.mono AR.out.size))
      have B2 := hid (HB.out.trans (b2.mono HB.out.size))
      clear CV hR b2 HB
      go_wp2_with fail
      refine CR.out.mono ?_
      rintro e w3 ⟨hT, b3⟩
      have A3 := hid (A2.out.trans (b3.mono A2.out.size))
      have B3 := hid (B2.out.trans (b3.mono B2.out.size))
      clear CR b3 A2 B2
      rcases hT with ⟨nm', L', Q, hF, rfl, hN⟩ | ⟨hF, rfl⟩
      · obtain ⟨hall, rfl, rfl⟩ := back_some hF
        rw [hall]
        have HE := hid (eqV (n := 0) (s := ⟨#[]⟩) hF)
        have HNQ := hid hN
        clear hF hN hall
        go_wp2_with fail
        obtain ⟨Y, hY⟩ : ∃ Y, Y = w3.alloc (.cells #[.string nm', .slice (some ⟨Q, 0, none⟩) L'.length L'.length] 27) := ⟨_, rfl⟩
        rw [← hY]
        have bY : Below w3.heap.size w3 Y := by rw [hY]; exact al w3 _
        have FB := hid (show F2 Y w3.heap.size nm' (.slice (some ⟨Q, 0, none⟩) L'.length L'.length) by rw [hY]; exact box2 _ _ _ _ _ _)
        have zY : Y.heap.size = w3.heap.size + 1 := by rw [hY]; simp
        have BY := hid (B3.out.trans (bY.mono B3.out.size))
        have AY := hid (A3.out.trans (bY.mono A3.out.size))
        have z3 : X.heap.size ≤ w3.heap.size := B3.out.size
        have FA := hid (F1'.out.below (by omega) BY.out)
        have NB := hid (HNQ.out.below bY)
        have NA := hid (NX.out.below BY.out)
        clear hY bY HNQ A3 B3
        have KS := hid fun (W : World) (b : Below Y.heap.size Y W) => (show W.cell? ⟨w3.heap.size, 0, none⟩ = some (.string nm') ∧ W.cell? ⟨w3.heap.size, 1, none⟩ = some (.slice (some ⟨Q, 0, none⟩) L'.length L'.length) ∧ W.cell? ⟨w1.heap.size, 0, none⟩ = some (.string nm') ∧ W.cell? ⟨w1.heap.size, 1, none⟩ = some (.slice q1 L'.length d1) from
          ⟨(FB.out.below (by omega) b).1, (FB.out.below (by omega) b).2, (FA.out.below (by omega) b).1, (FA.out.below (by omega) b).2⟩)
        have K1 := hid fun (W : World) (b : Below Y.heap.size Y W) => (WK.out W).mono fun e w' h => (⟨h.1, hid (b.trans (h.2.mono b.size)), KS.out w' (b.trans (h.2.mono b.size))⟩ : e = .returned (.bool true) ∧ Hid (Below Y.heap.size Y w') ∧ w'.cell? ⟨w3.heap.size, 0, none⟩ = some (.string nm') ∧ w'.cell? ⟨w3.heap.size, 1, none⟩ = some (.slice (some ⟨Q, 0, none⟩) L'.length L'.length) ∧ w'.cell? ⟨w1.heap.size, 0, none⟩ = some (.string nm') ∧ w'.cell? ⟨w1.heap.size, 1, none⟩ = some (.slice q1 L'.length d1))
        have K2 := hid fun (W : World) (b : Below Y.heap.size Y W) => (Wgu.value (cap := L'.length) nm' hn (NB.out.below b) (by omega) HO.out).mono fun e w' h => (by
          obtain ⟨p, c, h1, h2, h3⟩ := h
          exact ⟨p, c, h1, hid h2, hid (b.trans (h3.mono b.size)), KS.out w' (b.trans (h3.mono b.size))⟩ : ∃ p c, e = .returned (.agg #[.int .i64 2, .int .i64 0, .string ⟨#[]⟩, .slice p 2 c]) ∧ Hid (Rd w' (fun g => W.heap.size ≤ g) (.slice p 2 c) (flowF nm' L')) ∧ Hid (Below Y.heap.size Y w') ∧ w'.cell? ⟨w3.heap.size, 0, none⟩ = some (.string nm') ∧ w'.cell? ⟨w3.heap.size, 1, none⟩ = some (.slice (some ⟨Q, 0, none⟩) L'.length L'.length) ∧ w'.cell? ⟨w1.heap.size, 0, none⟩ = some (.string nm') ∧ w'.cell? ⟨w1.heap.size, 1, none⟩ = some (.slice q1 L'.length d1))
        have K3 := hid fun (W : World) (b : Below Y.heap.size Y W) => (Wgu.value (cap := d1) nm' hn (NA.out.below b) (by omega) HO.out).mono fun e w' h => (by
          obtain ⟨p, c, h1, h2, h3⟩ := h
          exact ⟨p, c, h1, hid h2, hid h3, hid (b.trans (h3.mono b.size)), KS.out w' (b.trans (h3.mono b.size))⟩ : ∃ p c, e = .returned (.agg #[.int .i64 2, .int .i64 0, .string ⟨#[]⟩, .slice p 2 c]) ∧ Hid (Rd w' (fun g => W.heap.size ≤ g) (.slice p 2 c) (flowF nm' L')) ∧ Hid (Below W.heap.size W w') ∧ Hid (Below Y.heap.size Y w') ∧ w'.cell? ⟨w3.heap.size, 0, none⟩ = some (.string nm') ∧ w'.cell? ⟨w3.heap.size, 1, none⟩ = some (.slice (some ⟨Q, 0, none⟩) L'.length L'.length) ∧ w'.cell? ⟨w1.heap.size, 0, none⟩ = some (.string nm') ∧ w'.cell? ⟨w1.heap.size, 1, none⟩ = some (.slice q1 L'.length d1))
        have K4 := hid fun (W : World) (b : Below Y.heap.size Y W) (p p' : Option Addr) (c c' : Nat) (A A' : Nat → Prop) (h1 : Rd W A (.slice p 2 c) (flowF nm' L')) (h2 : Rd W A' (.slice p' 2 c') (flowF nm' L')) => (We.equal 2 0 ⟨#[]⟩ (flowF nm' L') (.slice p 2 c) 2 0 ⟨#[]⟩ (flowF nm' L') (.slice p' 2 c') W A A' h1 h2).mono fun e w' h => (⟨by rw [h.1, HE.out], hid (b.trans (h.2.mono b.size)), KS.out w' (b.trans (h.2.mono b.size))⟩ : e = .returned (.bool true) ∧ Hid (Below Y.heap.size Y w') ∧ w'.cell? ⟨w3.heap.size, 0, none⟩ = some (.string nm') ∧ w'.cell? ⟨w3.heap.size, 1, none⟩ = some (.slice (some ⟨Q, 0, none⟩) L'.length L'.length) ∧ w'.cell? ⟨w1.heap.size, 0, none⟩ = some (.string nm') ∧ w'.cell? ⟨w1.heap.size, 1, none⟩ = some (.slice q1 L'.length d1))
        obtain ⟨t0, t1, t2, t3⟩ := KS.out Y (Below.refl _ _)
        clear KS FA FB NA NB y0 y1
        go_region_held3 (fun W => W.cell? ⟨w3.heap.size, 0, none⟩ = some (.string nm') ∧ W.cell? ⟨w3.heap.size, 1, none⟩ = some (.slice (some ⟨Q, 0, none⟩) L'.length L'.length) ∧ W.cell? ⟨w1.heap.size, 0, none⟩ = some (.string nm') ∧ W.cell? ⟨w1.heap.size, 1, none⟩ = some (.slice q1 L'.length d1))
          (first | with_reducible exact hS | go_keep)
          (first
            | (go_at_call 11; refine (K1.out _ (Below.refl _ _).drew).mono ?_; rintro e wa ⟨rfl, ba, hS⟩; clear K1)
            | (go_at_call 18; refine (K2.out _ ba.out).mono ?_; rintro e wb ⟨pb, cb, rfl, rb, bb, hS⟩; clear K2)
            | (go_at_call 18; refine (K3.out _ bb.out).mono ?_; rintro e wc ⟨pc, cc, rfl, rc, ob, bc, hS⟩; clear K3)
            | (go_at_call 20; refine (K4.out _ bc.out _ _ _ _ _ _ (rd_below rb.out ob.out) rc.out).mono ?_; rintro e wd ⟨rfl, bd, hS⟩; clear K4))
        have A5 := hid (AY.out.trans (bd.out.mono AY.out.size))
        clear rb rc ob bb bc ba hS t0 t1 t2 t3
        have CB := hid (build pl ln cl wd (Its.below HI.out A5.out))
        go_wp2_with fail
        refine CB.out.mono ?_
        rintro e w5 ⟨k, n, s, f, p1, p2, c1, c2, rfl, r1, r2, ho, hnod, b5⟩
        have A6 := hid (A5.out.trans (b5.mono A5.out.size))
        have HF := hid ho.2.2.2.1
        have HS := hid ho.2.2.1
        have R1 := hid r1
        clear CB r1 r2 ho b5
        go_wp2_with fail
        obtain ⟨Z, hZ⟩ : ∃ Z, Z = (w5.alloc (.cells #[.int .i64 k, .int .i64 n, .string s, .slice p1 f.len c1] 48)).alloc (.cells #[.int .i64 k, .int .i64 n, .string s, .slice p2 f.len c2] 51) := ⟨_, rfl⟩
        rw [← hZ]
        obtain ⟨z1, z2, zZ, bZ⟩ := alloc2 _ _ _ Z hZ
        have A7 := hid (A6.out.trans (bZ.mono A6.out.size))
        have RZ := hid (rd_below R1.out bZ)
        have BVZ := hid z1
        have CR2 := hid (Wgr.read k n s f (.slice p1 f.len c1) Z _ RZ.out HF.out (by omega))
        obtain ⟨u0, u1, u2, u3⟩ := four z1
        clear hZ z1 z2 bZ R1 A6
        go_wp2_with fail
        refine CR2.out.mono ?_
        rintro e w6 ⟨hT2, b6⟩
        have A8 := hid (A7.out.trans (b6.mono A7.out.size))
        have BZ := hid b6
        have z6 : Z.heap.size ≤ w6.heap.size := b6.size
        clear CR2 b6 u0 u1 u2 u3 A7
        rcases hT2 with ⟨nm2, L2, Q2, hF2, rfl, hN2⟩ | ⟨hF2, rfl⟩
        · have HE2 := hid (eqV (n := n) (s := s) hF2)
          obtain ⟨hk2, g1, g2, g3⟩ := read_ok hF2 HF.out hnod
          have G3 := hid g3
          have HN2 := hid hN2
          clear hF2 hN2 HF g3 hk2
          go_wp2_with fail
          obtain ⟨V, hV⟩ : ∃ V, V = w6.alloc (.cells #[.string nm2, .slice (some ⟨Q2, 0, none⟩) L2.length L2.length] 27) := ⟨_, rfl⟩
          rw [← hV]
          have bV : Below w6.heap.size w6 V := by rw [hV]; exact al w6 _
          have FV := hid (show F2 V w6.heap.size nm2 (.slice (some ⟨Q2, 0, none⟩) L2.length L2.length) by rw [hV]; exact box2 _ _ _ _ _ _)
          have zV : V.heap.size = w6.heap.size + 1 := by rw [hV]; simp
          have A9 := hid (A8.out.trans (bV.mono A8.out.size))
          have BZV := hid (BZ.out.trans (bV.mono BZ.out.size))
          have NV := hid (HN2.out.below bV)
          have RV := hid (rd_below RZ.out BZV.out)
          have BVV := hid ((BZV.out.block w5.heap.size (by omega)).trans BVZ.out)
          clear hV bV HN2 A8 BZ BZV RZ BVZ
          have KS := hid fun (W : World) (b : Below V.heap.size V W) => (show W.cell? ⟨w6.heap.size, 0, none⟩ = some (.string nm2) ∧ W.cell? ⟨w6.heap.size, 1, none⟩ = some (.slice (some ⟨Q2, 0, none⟩) L2.length L2.length) ∧ W.cell? ⟨w5.heap.size, 0, none⟩ = some (.int .i64 k) ∧ W.cell? ⟨w5.heap.size, 1, none⟩ = some (.int .i64 n) ∧ W.cell? ⟨w5.heap.size, 2, none⟩ = some (.string s) ∧ W.cell? ⟨w5.heap.size, 3, none⟩ = some (.slice p1 f.len c1) from
            ⟨(FV.out.below (by omega) b).1, (FV.out.below (by omega) b).2, four ((b.block w5.heap.size (by omega)).trans BVV.out)⟩)
          have K5 := hid fun (W : World) (b : Below V.heap.size V W) => (Wgu.value (cap := L2.length) nm2 g1 (NV.out.below b) g2 G3.out).mono fun e w' h => (by
            obtain ⟨p, c, h1, h2, h3⟩ := h
            exact ⟨p, c, h1, hid h2, hid (b.trans (h3.mono b.size)), KS.out w' (b.trans (h3.mono b.size))⟩ : ∃ p c, e = .returned (.agg #[.int .i64 2, .int .i64 0, .string ⟨#[]⟩, .slice p 2 c]) ∧ Hid (Rd w' (fun g => W.heap.size ≤ g) (.slice p 2 c) (flowF nm2 L2)) ∧ Hid (Below V.heap.size V w') ∧ w'.cell? ⟨w6.heap.size, 0, none⟩ = some (.string nm2) ∧ w'.cell? ⟨w6.heap.size, 1, none⟩ = some (.slice (some ⟨Q2, 0, none⟩) L2.length L2.length) ∧ w'.cell? ⟨w5.heap.size, 0, none⟩ = some (.int .i64 k) ∧ w'.cell? ⟨w5.heap.size, 1, none⟩ = some (.int .i64 n) ∧ w'.cell? ⟨w5.heap.size, 2, none⟩ = some (.string s) ∧ w'.cell? ⟨w5.heap.size, 3, none⟩ = some (.slice p1 f.len c1))
          have K6 := hid fun (W : World) (b : Below V.heap.size V W) (p : Option Addr) (c : Nat) (A : Nat → Prop) (h1 : Rd W A (.slice p 2 c) (flowF nm2 L2)) => (We.equal 2 0 ⟨#[]⟩ (flowF nm2 L2) (.slice p 2 c) k n s f (.slice p1 f.len c1) W A _ h1 (rd_below RV.out b)).mono fun e w' h => (⟨by rw [h.1, HE2.out], hid (b.trans (h.2.mono b.size)), KS.out w' (b.trans (h.2.mono b.size))⟩ : e = .returned (.bool true) ∧ Hid (Below V.heap.size V w') ∧ w'.cell? ⟨w6.heap.size, 0, none⟩ = some (.string nm2) ∧ w'.cell? ⟨w6.heap.size, 1, none⟩ = some (.slice (some ⟨Q2, 0, none⟩) L2.length L2.length) ∧ w'.cell? ⟨w5.heap.size, 0, none⟩ = some (.int .i64 k) ∧ w'.cell? ⟨w5.heap.size, 1, none⟩ = some (.int .i64 n) ∧ w'.cell? ⟨w5.heap.size, 2, none⟩ = some (.string s) ∧ w'.cell? ⟨w5.heap.size, 3, none⟩ = some (.slice p1 f.len c1))
          have hS0 := KS.out V (Below.refl _ _)
          clear KS FV NV RV BVV
          refine wp_region_noPanic ?_
          refine wp_region_held_drew (S := fun W => W.cell? ⟨w6.heap.size, 0, none⟩ = some (.string nm2) ∧ W.cell? ⟨w6.heap.size, 1, none⟩ = some (.slice (some ⟨Q2, 0, none⟩) L2.length L2.length) ∧ W.cell? ⟨w5.heap.size, 0, none⟩ = some (.int .i64 k) ∧ W.cell? ⟨w5.heap.size, 1, none⟩ = some (.int .i64 n) ∧ W.cell? ⟨w5.heap.size, 2, none⟩ = some (.string s) ∧ W.cell? ⟨w5.heap.size, 3, none⟩ = some (.slice p1 f.len c1)) (by kernel_rfl) hS0 (fun hH => ?_)
          refine wpAnyH_take (i := 0) (oi := { dst := some 83, op := Op.move (Operand.tmp 15), type := 33, pos := "law.go:140", after := #[], guard := none }) (v := .int .i64 0) rfl (by kernel_rfl) (by kernel_rfl) (by kernel_rfl) (fun _ _ _ h => h) (Or.inl ⟨by rfl, by (intro w hSw; clear hSw; go_simp)⟩) hH ?_
          simp only [Act.put, List.setIfInBounds_toArray, List.set_cons_zero, List.set_cons_succ]
          refine wpAnyH_take (i := 1) (oi := { dst := some 84, op := Op.binOp BinOp.neq 33 (Operand.tmp 83) (Operand.const (Value.int IntKind.i64 0)) 33, type := 4, pos := "law.go:140", after := #[{ on := 0, ground := Ground.data }], guard := none }) (v := .bool false) rfl (by kernel_rfl) (by kernel_rfl) (by kernel_rfl) (fun _ _ _ h => h) (Or.inl ⟨by rfl, by (intro w hSw; clear hSw; go_simp)⟩) hH ?_
          simp only [Act.put, List.setIfInBounds_toArray, List.set_cons_zero, List.set_cons_succ]
          refine wpAnyH_take (i := 2) (oi := { dst := some 85, op := Op.move (Operand.tmp 84), type := 4, pos := "law.go:140", after := #[{ on := 1, ground := Ground.data }], guard := none }) (v := .bool false) rfl (by kernel_rfl) (by kernel_rfl) (by kernel_rfl) (fun _ _ _ h => h) (Or.inl ⟨by rfl, by (intro w hSw; clear hSw; go_simp)⟩) hH ?_
          simp only [Act.put, List.setIfInBounds_toArray, List.set_cons_zero, List.set_cons_succ]
          refine wpAnyH_take (i := 3) (oi := { dst := some 86, op := Op.move (Operand.tmp 15), type := 33, pos := "law.go:140", after := #[{ on := 2, ground := Ground.guard }], guard := some (2, true) }) (v := undef) rfl (by kernel_rfl) (by kernel_rfl) (by kernel_rfl) (fun _ _ _ h => h) (Or.inr ⟨by rfl, rfl⟩) hH ?_
          simp only [Act.put, List.setIfInBounds_toArray, List.set_cons_zero, List.set_cons_succ]
          refine wpAnyH_take (i := 4) (oi := { dst := some 87, op := Op.binOp BinOp.eql 33 (Operand.tmp 86) (Operand.const (Value.int IntKind.i64 4)) 33, type := 4, pos := "law.go:140", after := #[{ on := 3, ground := Ground.data }, { on := 2, ground := Ground.guard }], guard := some (2, true) }) (v := undef) rfl (by kernel_rfl) (by kernel_rfl) (by kernel_rfl) (fun _ _ _ h => h) (Or.inr ⟨by rfl, rfl⟩) hH ?_
          simp only [Act.put, List.setIfInBounds_toArray, List.set_cons_zero, List.set_cons_succ]
          refine wpAnyH_take (i := 5) (oi := { dst := some 88, op := Op.pick (Operand.tmp 85) (Operand.tmp 87) (Operand.const (Value.bool false)), type := 4, pos := "law.go:140", after := #[{ on := 2, ground := Ground.data }, { on := 4, ground := Ground.data }], guard := none }) (v := .bool false) rfl (by kernel_rfl) (by kernel_rfl) (by kernel_rfl) (fun _ _ _ h => h) (Or.inl ⟨by rfl, by (intro w hSw; clear hSw; go_simp)⟩) hH ?_
          simp only [Act.put, List.setIfInBounds_toArray, List.set_cons_zero, List.set_cons_succ]
          refine wpAnyH_take (i := 6) (oi := { dst := some 89, op := Op.move (Operand.tmp 88), type := 4, pos := "law.go:140", after := #[{ on := 5, ground := Ground.data }, { on := 2, ground := Ground.chain }], guard := none }) (v := .bool false) rfl (by kernel_rfl) (by kernel_rfl) (by kernel_rfl) (fun _ _ _ h => h) (Or.inl ⟨by rfl, by (intro w hSw; clear hSw; go_simp)⟩) hH ?_
          simp only [Act.put, List.setIfInBounds_toArray, List.set_cons_zero, List.set_cons_succ]
          refine wpAnyH_take (i := 7) (oi := { dst := some 90, op := Op.move (Operand.tmp 15), type := 33, pos := "law.go:140", after := #[{ on := 6, ground := Ground.guard }], guard := some (6, false) }) (v := .int .i64 0) rfl (by kernel_rfl) (by kernel_rfl) (by kernel_rfl) (fun _ _ _ h => h) (Or.inl ⟨by rfl, by (intro w hSw; clear hSw; go_simp)⟩) hH ?_
          simp only [Act.put, List.setIfInBounds_toArray, List.set_cons_zero, List.set_cons_succ]
          refine wpAnyH_take (i := 8) (oi := { dst := some 91, op := Op.binOp BinOp.eql 33 (Operand.tmp 90) (Operand.const (Value.int IntKind.i64 0)) 33, type := 4, pos := "law.go:140", after := #[{ on := 7, ground := Ground.data }, { on := 6, ground := Ground.guard }], guard := some (6, false) }) (v := .bool true) rfl (by kernel_rfl) (by kernel_rfl) (by kernel_rfl) (fun _ _ _ h => h) (Or.inl ⟨by rfl, by (intro w hSw; clear hSw; go_simp)⟩) hH ?_
          simp only [Act.put, List.setIfInBounds_toArray, List.set_cons_zero, List.set_cons_succ]
          refine wpAnyH_take (i := 9) (oi := { dst := some 92, op := Op.move (Operand.tmp 91), type := 4, pos := "law.go:140", after := #[{ on := 8, ground := Ground.data }, { on := 6, ground := Ground.chain }, { on := 6, ground := Ground.guard }], guard := some (6, false) }) (v := .bool true) rfl (by kernel_rfl) (by kernel_rfl) (by kernel_rfl) (fun _ _ _ h => h) (Or.inl ⟨by rfl, by (intro w hSw; clear hSw; go_simp)⟩) hH ?_
          simp only [Act.put, List.setIfInBounds_toArray, List.set_cons_zero, List.set_cons_succ]
          refine wpAnyH_take (i := 10) (oi := { dst := some 93, op := Op.load 27 (Operand.tmp 14), type := 27, pos := "law.go:140", after := #[{ on := 9, ground := Ground.guard }], guard := some (9, true) }) (v := .agg #[.string nm2, .slice (some ⟨Q2, 0, none⟩) L2.length L2.length]) rfl (by kernel_rfl) (by kernel_rfl) (by kernel_rfl) (fun _ _ _ h => h) (Or.inl ⟨by rfl, by (intro w hSw; (try dsimp only at hSw); go_simp)⟩) hH ?_
          simp only [Act.put, List.setIfInBounds_toArray, List.set_cons_zero, List.set_cons_succ]
          refine wpAnyH_take (i := 12) (oi := { dst := some 95, op := Op.load 48 (Operand.tmp 12), type := 48, pos := "law.go:140", after := #[{ on := 9, ground := Ground.guard }], guard := some (9, true) }) (v := .agg #[.int .i64 k, .int .i64 n, .string s, .slice p1 f.len c1]) rfl (by kernel_rfl) (by kernel_rfl) (by kernel_rfl) (fun _ _ _ h => h) (Or.inl ⟨by rfl, by (intro w hSw; (try dsimp only at hSw); go_simp)⟩) hH ?_
          simp only [Act.put, List.setIfInBounds_toArray, List.set_cons_zero, List.set_cons_succ]
          refine wpAnyH_ready (rs := [11]) (by kernel_rfl) (by simp) ?_
          refine AllReadyH.cons (o := { dst := some 94, op := Op.call { callee := Callee.value (Operand.func 18), args := #[Operand.tmp 93], argTypes := #[27] }, type := 48, pos := "law.go:140", after := #[{ on := 10, ground := Ground.data }, { on := 9, ground := Ground.chain }, { on := 9, ground := Ground.guard }], guard := some (9, true) }) rfl (fun K hK => ?_) AllReadyH.nil
          go_simp
          refine (K5.out _ (Below.refl _ _).drew).mono ?_
          rintro e wb ⟨pb, cb, rfl, rb, bb, hS⟩
          go_wp2_with fail
          refine hK.out _ _ hS (fun hH1 => ?_)
          clear hK K
          refine wpAnyH_ready (rs := [13]) (by kernel_rfl) (by simp) ?_
          refine AllReadyH.cons (o := { dst := some 96, op := Op.call { callee := Callee.value (Operand.func 20), args := #[Operand.tmp 94, Operand.tmp 95], argTypes := #[48, 48] }, type := 4, pos := "law.go:140", after := #[{ on := 11, ground := Ground.data }, { on := 12, ground := Ground.data }, { on := 11, ground := Ground.chain }, { on := 9, ground := Ground.guard }], guard := some (9, true) }) rfl (fun K hK => ?_) AllReadyH.nil
          go_simp
          refine (K6.out _ bb.out _ _ _ rb.out).mono ?_
          rintro e wc ⟨rfl, bc, hS2⟩
          go_wp2_with fail
          refine hK.out _ _ hS2 (fun hH2 => ?_)
          clear hK K
          refine wpAnyH_take (i := 14) (oi := { dst := some 97, op := Op.pick (Operand.tmp 92) (Operand.tmp 96) (Operand.const (Value.bool false)), type := 4, pos := "law.go:140", after := #[{ on := 9, ground := Ground.data }, { on := 13, ground := Ground.data }, { on := 6, ground := Ground.guard }], guard := some (6, false) }) (v := .bool true) rfl (by kernel_rfl) (by kernel_rfl) (by kernel_rfl) (fun _ _ _ h => h) (Or.inl ⟨by rfl, by (intro w hSw; clear hSw; go_simp)⟩) hH2 ?_
          simp only [Act.put, List.setIfInBounds_toArray, List.set_cons_zero, List.set_cons_succ]
          refine wpAnyH_take (i := 15) (oi := { dst := some 98, op := Op.pick (Operand.tmp 89) (Operand.const (Value.bool true)) (Operand.tmp 97), type := 4, pos := "law.go:140", after := #[{ on := 6, ground := Ground.data }, { on := 14, ground := Ground.data }], guard := none }) (v := .bool true) rfl (by kernel_rfl) (by kernel_rfl) (by kernel_rfl) (fun _ _ _ h => h) (Or.inl ⟨by rfl, by (intro w hSw; clear hSw; go_simp)⟩) hH2 ?_
          simp only [Act.put, List.setIfInBounds_toArray, List.set_cons_zero, List.set_cons_succ]
          refine wpAnyH_take (i := 16) (oi := { dst := some 4, op := Op.assign (Operand.tmp 98), type := 4, pos := "law.go:140", after := #[{ on := 15, ground := Ground.data }, { on := 13, ground := Ground.chain }, { on := 0, ground := Ground.phase }, { on := 1, ground := Ground.phase }, { on := 2, ground := Ground.phase }, { on := 3, ground := Ground.phase }, { on := 4, ground := Ground.phase }, { on := 5, ground := Ground.phase }, { on := 6, ground := Ground.phase }, { on := 7, ground := Ground.phase }, { on := 8, ground := Ground.phase }, { on := 9, ground := Ground.phase }, { on := 10, ground := Ground.phase }, { on := 11, ground := Ground.phase }, { on := 12, ground := Ground.phase }, { on := 13, ground := Ground.phase }, { on := 14, ground := Ground.phase }, { on := 15, ground := Ground.phase }], guard := none }) (v := .bool true) rfl (by kernel_rfl) (by kernel_rfl) (by kernel_rfl) (fun _ _ _ h => h) (Or.inl ⟨by rfl, by (intro w hSw; clear hSw; go_simp)⟩) hH2 ?_
          simp only [Act.put, List.setIfInBounds_toArray, List.set_cons_zero, List.set_cons_succ]
          refine wpAnyH_done (by kernel_rfl) ?_ _
          refine NoPanic.normal ?_
          go_wp2_with fail
          go_ret
          exact ⟨rfl, A9.out.trans (bc.out.mono A9.out.size)⟩
        · clear hF2 HF
          go_wp2_with fail
          go_quiet (fail)
          go_wp2_with fail
          go_ret
          exact ⟨rfl, by first | exact drewB ((A8.out).alloc A8.out.size _) | exact (A8.out).alloc A8.out.size _ | exact drewB (drewB ((A8.out).alloc A8.out.size _))⟩
      · have hall := back_none hF
        rw [hall]
        clear hF hall
        go_wp2_with fail
        obtain ⟨Y, hY⟩ : ∃ Y, Y = w3.alloc (.cells #[.string ⟨#[]⟩, .slice none 0 0] 27) := ⟨_, rfl⟩
        rw [← hY]
        have bY : Below w3.heap.size w3 Y := by rw [hY]; exact al w3 _
        have AY := hid (A3.out.trans (bY.mono A3.out.size))
        clear hY bY A3 B3
        have K1 := hid fun (W : World) (b : Below Y.heap.size Y W) => (WK.out W).mono fun e w' h => (⟨h.1, hid (b.trans (h.2.mono b.size)), trivial⟩ : e = .returned (.bool true) ∧ Hid (Below Y.heap.size Y w') ∧ True)
        refine wp_region_noPanic ?_
        refine wp_region_held_drew (S := fun _ => True) (by kernel_rfl) trivial (fun hH => ?_)
        refine wpAnyH_ready (rs := [0]) (by kernel_rfl) (by simp) ?_
        refine AllReadyH.cons (o := { dst := some 54, op := Op.call { callee := Callee.value (Operand.func 11), args := #[], argTypes := #[] }, type := 4, pos := "law.go:135", after := #[], guard := none }) rfl (fun K hK => ?_) AllReadyH.nil
        go_simp
        refine (K1.out _ (Below.refl _ _).drew).mono ?_
        rintro e wA ⟨rfl, bA, hS⟩
        go_wp2_with fail
        refine hK.out _ _ hS (fun hH1 => ?_)
        clear hK K
        refine wpAnyH_take (i := 1) (oi := { dst := some 55, op := Op.unOp UnOp.not 4 (Operand.tmp 54), type := 4, pos := "law.go:135", after := #[{ on := 0, ground := Ground.data }], guard := none }) (v := .bool false) rfl (by kernel_rfl) (by kernel_rfl) (by kernel_rfl) (fun _ _ _ h => h) (Or.inl ⟨by rfl, by (intro w hSw; clear hSw; go_simp)⟩) hH1 ?_
        simp only [Act.put, List.setIfInBounds_toArray, List.set_cons_zero, List.set_cons_succ]
        refine wpAnyH_take (i := 2) (oi := { dst := some 56, op := Op.move (Operand.tmp 55), type := 4, pos := "law.go:135", after := #[{ on := 1, ground := Ground.data }, { on := 0, ground := Ground.chain }], guard := none }) (v := .bool false) rfl (by kernel_rfl) (by kernel_rfl) (by kernel_rfl) (fun _ _ _ h => h) (Or.inl ⟨by rfl, by (intro w hSw; clear hSw; go_simp)⟩) hH1 ?_
        simp only [Act.put, List.setIfInBounds_toArray, List.set_cons_zero, List.set_cons_succ]
        refine wpAnyH_take (i := 3) (oi := { dst := some 57, op := Op.move (Operand.tmp 11), type := 33, pos := "law.go:135", after := #[{ on := 2, ground := Ground.guard }], guard := some (2, false) }) (v := .int .i64 4) rfl (by kernel_rfl) (by kernel_rfl) (by kernel_rfl) (fun _ _ _ h => h) (Or.inl ⟨by rfl, by (intro w hSw; clear hSw; go_simp)⟩) hH1 ?_
        simp only [Act.put, List.setIfInBounds_toArray, List.set_cons_zero, List.set_cons_succ]
        refine wpAnyH_take (i := 4) (oi := { dst := some 58, op := Op.binOp BinOp.eql 33 (Operand.tmp 57) (Operand.const (Value.int IntKind.i64 0)) 33, type := 4, pos := "law.go:135", after := #[{ on := 3, ground := Ground.data }, { on := 2, ground := Ground.guard }], guard := some (2, false) }) (v := .bool false) rfl (by kernel_rfl) (by kernel_rfl) (by kernel_rfl) (fun _ _ _ h => h) (Or.inl ⟨by rfl, by (intro w hSw; clear hSw; go_simp)⟩) hH1 ?_
        simp only [Act.put, List.setIfInBounds_toArray, List.set_cons_zero, List.set_cons_succ]
        refine wpAnyH_take (i := 5) (oi := { dst := some 59, op := Op.move (Operand.tmp 7), type := 4, pos := "law.go:135", after := #[{ on := 2, ground := Ground.guard }], guard := some (2, false) }) (v := .bool false) rfl (by kernel_rfl) (by kernel_rfl) (by kernel_rfl) (fun _ _ _ h => h) (Or.inl ⟨by rfl, by (intro w hSw; clear hSw; go_simp)⟩) hH1 ?_
        simp only [Act.put, List.setIfInBounds_toArray, List.set_cons_zero, List.set_cons_succ]
        refine wpAnyH_take (i := 6) (oi := { dst := some 60, op := Op.binOp BinOp.neq 4 (Operand.tmp 58) (Operand.tmp 59) 4, type := 4, pos := "law.go:135", after := #[{ on := 4, ground := Ground.data }, { on := 5, ground := Ground.data }, { on := 2, ground := Ground.guard }], guard := some (2, false) }) (v := .bool false) rfl (by kernel_rfl) (by kernel_rfl) (by kernel_rfl) (fun _ _ _ h => h) (Or.inl ⟨by rfl, by (intro w hSw; clear hSw; go_simp)⟩) hH1 ?_
        simp only [Act.put, List.setIfInBounds_toArray, List.set_cons_zero, List.set_cons_succ]
        refine wpAnyH_take (i := 7) (oi := { dst := some 61, op := Op.pick (Operand.tmp 56) (Operand.const (Value.bool true)) (Operand.tmp 60), type := 4, pos := "law.go:135", after := #[{ on := 2, ground := Ground.data }, { on := 6, ground := Ground.data }], guard := none }) (v := .bool false) rfl (by kernel_rfl) (by kernel_rfl) (by kernel_rfl) (fun _ _ _ h => h) (Or.inl ⟨by rfl, by (intro w hSw; clear hSw; go_simp)⟩) hH1 ?_
        simp only [Act.put, List.setIfInBounds_toArray, List.set_cons_zero, List.set_cons_succ]
        refine wpAnyH_take (i := 8) (oi := { dst := some 62, op := Op.move (Operand.tmp 61), type := 4, pos := "law.go:135", after := #[{ on := 7, ground := Ground.data }, { on := 2, ground := Ground.chain }], guard := none }) (v := .bool false) rfl (by kernel_rfl) (by kernel_rfl) (by kernel_rfl) (fun _ _ _ h => h) (Or.inl ⟨by rfl, by (intro w hSw; clear hSw; go_simp)⟩) hH1 ?_
        simp only [Act.put, List.setIfInBounds_toArray, List.set_cons_zero, List.set_cons_succ]
        refine wpAnyH_take (i := 9) (oi := { dst := some 63, op := Op.move (Operand.tmp 7), type := 4, pos := "law.go:135", after := #[{ on := 8, ground := Ground.guard }], guard := some (8, false) }) (v := .bool false) rfl (by kernel_rfl) (by kernel_rfl) (by kernel_rfl) (fun _ _ _ h => h) (Or.inl ⟨by rfl, by (intro w hSw; clear hSw; go_simp)⟩) hH1 ?_
        simp only [Act.put, List.setIfInBounds_toArray, List.set_cons_zero, List.set_cons_succ]
        refine wpAnyH_take (i := 10) (oi := { dst := some 64, op := Op.move (Operand.tmp 63), type := 4, pos := "law.go:135", after := #[{ on := 9, ground := Ground.data }, { on := 8, ground := Ground.chain }, { on := 8, ground := Ground.guard }], guard := some (8, false) }) (v := .bool false) rfl (by kernel_rfl) (by kernel_rfl) (by kernel_rfl) (fun _ _ _ h => h) (Or.inl ⟨by rfl, by (intro w hSw; clear hSw; go_simp)⟩) hH1 ?_
        simp only [Act.put, List.setIfInBounds_toArray, List.set_cons_zero, List.set_cons_succ]
        refine wpAnyH_take (i := 11) (oi := { dst := some 65, op := Op.load 27 (Operand.tmp 10), type := 27, pos := "law.go:135", after := #[{ on := 10, ground := Ground.guard }], guard := some (10, true) }) (v := undef) rfl (by kernel_rfl) (by kernel_rfl) (by kernel_rfl) (fun _ _ _ h => h) (Or.inr ⟨by rfl, rfl⟩) hH1 ?_
        simp only [Act.put, List.setIfInBounds_toArray, List.set_cons_zero, List.set_cons_succ]
        refine wpAnyH_take (i := 12) (oi := { dst := some 66, op := Op.call { callee := Callee.value (Operand.func 18), args := #[Operand.tmp 65], argTypes := #[27] }, type := 48, pos := "law.go:135", after := #[{ on := 11, ground := Ground.data }, { on := 10, ground := Ground.chain }, { on := 10, ground := Ground.guard }], guard := some (10, true) }) (v := undef) rfl (by kernel_rfl) (by kernel_rfl) (by kernel_rfl) (fun _ _ _ h => h) (Or.inr ⟨by rfl, rfl⟩) hH1 ?_
        simp only [Act.put, List.setIfInBounds_toArray, List.set_cons_zero, List.set_cons_succ]
        refine wpAnyH_take (i := 13) (oi := { dst := some 67, op := Op.load 27 (Operand.tmp 5), type := 27, pos := "law.go:135", after := #[{ on := 10, ground := Ground.guard }], guard := some (10, true) }) (v := undef) rfl (by kernel_rfl) (by kernel_rfl) (by kernel_rfl) (fun _ _ _ h => h) (Or.inr ⟨by rfl, rfl⟩) hH1 ?_
        simp only [Act.put, List.setIfInBounds_toArray, List.set_cons_zero, List.set_cons_succ]
        refine wpAnyH_take (i := 14) (oi := { dst := some 68, op := Op.call { callee := Callee.value (Operand.func 18), args := #[Operand.tmp 67], argTypes := #[27] }, type := 48, pos := "law.go:135", after := #[{ on := 13, ground := Ground.data }, { on := 12, ground := Ground.chain }, { on := 10, ground := Ground.guard }], guard := some (10, true) }) (v := undef) rfl (by kernel_rfl) (by kernel_rfl) (by kernel_rfl) (fun _ _ _ h => h) (Or.inr ⟨by rfl, rfl⟩) hH1 ?_
        simp only [Act.put, List.setIfInBounds_toArray, List.set_cons_zero, List.set_cons_succ]
        refine wpAnyH_take (i := 15) (oi := { dst := some 69, op := Op.call { callee := Callee.value (Operand.func 20), args := #[Operand.tmp 66, Operand.tmp 68], argTypes := #[48, 48] }, type := 4, pos := "law.go:135", after := #[{ on := 12, ground := Ground.data }, { on := 14, ground := Ground.data }, { on := 14, ground := Ground.chain }, { on := 10, ground := Ground.guard }], guard := some (10, true) }) (v := undef) rfl (by kernel_rfl) (by kernel_rfl) (by kernel_rfl) (fun _ _ _ h => h) (Or.inr ⟨by rfl, rfl⟩) hH1 ?_
        simp only [Act.put, List.setIfInBounds_toArray, List.set_cons_zero, List.set_cons_succ]
        refine wpAnyH_take (i := 16) (oi := { dst := some 70, op := Op.unOp UnOp.not 4 (Operand.tmp 69), type := 4, pos := "law.go:135", after := #[{ on := 15, ground := Ground.data }, { on := 10, ground := Ground.guard }], guard := some (10, true) }) (v := undef) rfl (by kernel_rfl) (by kernel_rfl) (by kernel_rfl) (fun _ _ _ h => h) (Or.inr ⟨by rfl, rfl⟩) hH1 ?_
        simp only [Act.put, List.setIfInBounds_toArray, List.set_cons_zero, List.set_cons_succ]
        refine wpAnyH_take (i := 17) (oi := { dst := some 71, op := Op.pick (Operand.tmp 64) (Operand.tmp 70) (Operand.const (Value.bool false)), type := 4, pos := "law.go:135", after := #[{ on := 10, ground := Ground.data }, { on := 16, ground := Ground.data }, { on := 8, ground := Ground.guard }], guard := some (8, false) }) (v := .bool false) rfl (by kernel_rfl) (by kernel_rfl) (by kernel_rfl) (fun _ _ _ h => h) (Or.inl ⟨by rfl, by (intro w hSw; clear hSw; go_simp)⟩) hH1 ?_
        simp only [Act.put, List.setIfInBounds_toArray, List.set_cons_zero, List.set_cons_succ]
        refine wpAnyH_take (i := 18) (oi := { dst := some 72, op := Op.pick (Operand.tmp 62) (Operand.const (Value.bool true)) (Operand.tmp 71), type := 4, pos := "law.go:135", after := #[{ on := 8, ground := Ground.data }, { on := 17, ground := Ground.data }], guard := none }) (v := .bool false) rfl (by kernel_rfl) (by kernel_rfl) (by kernel_rfl) (fun _ _ _ h => h) (Or.inl ⟨by rfl, by (intro w hSw; clear hSw; go_simp)⟩) hH1 ?_
        simp only [Act.put, List.setIfInBounds_toArray, List.set_cons_zero, List.set_cons_succ]
        refine wpAnyH_done (by kernel_rfl) ?_ _
        refine NoPanic.normal ?_
        have A5 := hid (AY.out.trans (bA.out.mono AY.out.size))
        clear K1 AY bA
        have CB := hid (build pl ln cl wA (Its.below HI.out A5.out))
        go_wp2_with fail
        refine CB.out.mono ?_
        rintro e w5 ⟨k, n, s, f, p1, p2, c1, c2, rfl, r1, r2, ho, hnod, b5⟩
        have A6 := hid (A5.out.trans (b5.mono A5.out.size))
        have HF := hid ho.2.2.2.1
        have HS := hid ho.2.2.1
        have R1 := hid r1
        clear CB r1 r2 ho b5
        go_wp2_with fail
        obtain ⟨Z, hZ⟩ : ∃ Z, Z = (w5.alloc (.cells #[.int .i64 k, .int .i64 n, .string s, .slice p1 f.len c1] 48)).alloc (.cells #[.int .i64 k, .int .i64 n, .string s, .slice p2 f.len c2] 51) := ⟨_, rfl⟩
        rw [← hZ]
        obtain ⟨z1, z2, zZ, bZ⟩ := alloc2 _ _ _ Z hZ
        have A7 := hid (A6.out.trans (bZ.mono A6.out.size))
        have RZ := hid (rd_below R1.out bZ)
        have BVZ := hid z1
        have CR2 := hid (Wgr.read k n s f (.slice p1 f.len c1) Z _ RZ.out HF.out (by omega))
        obtain ⟨u0, u1, u2, u3⟩ := four z1
        clear hZ z1 z2 bZ R1 A6
        go_wp2_with fail
        refine CR2.out.mono ?_
        rintro e w6 ⟨hT2, b6⟩
        have A8 := hid (A7.out.trans (b6.mono A7.out.size))
        have BZ := hid b6
        have z6 : Z.heap.size ≤ w6.heap.size := b6.size
        clear CR2 b6 u0 u1 u2 u3 A7
        rcases hT2 with ⟨nm2, L2, Q2, hF2, rfl, hN2⟩ | ⟨hF2, rfl⟩
        · have HE2 := hid (eqV (n := n) (s := s) hF2)
          obtain ⟨hk2, g1, g2, g3⟩ := read_ok hF2 HF.out hnod
          have G3 := hid g3
          have HN2 := hid hN2
          clear hF2 hN2 HF g3 hk2
          go_wp2_with fail
          obtain ⟨V, hV⟩ : ∃ V, V = w6.alloc (.cells #[.string nm2, .slice (some ⟨Q2, 0, none⟩) L2.length L2.length] 27) := ⟨_, rfl⟩
          rw [← hV]
          have bV : Below w6.heap.size w6 V := by rw [hV]; exact al w6 _
          have FV := hid (show F2 V w6.heap.size nm2 (.slice (some ⟨Q2, 0, none⟩) L2.length L2.length) by rw [hV]; exact box2 _ _ _ _ _ _)
          have zV : V.heap.size = w6.heap.size + 1 := by rw [hV]; simp
          have A9 := hid (A8.out.trans (bV.mono A8.out.size))
          have BZV := hid (BZ.out.trans (bV.mono BZ.out.size))
          have NV := hid (HN2.out.below bV)
          have RV := hid (rd_below RZ.out BZV.out)
          have BVV := hid ((BZV.out.block w5.heap.size (by omega)).trans BVZ.out)
          clear hV bV HN2 A8 BZ BZV RZ BVZ
          have KS := hid fun (W : World) (b : Below V.heap.size V W) => (show W.cell? ⟨w6.heap.size, 0, none⟩ = some (.string nm2) ∧ W.cell? ⟨w6.heap.size, 1, none⟩ = some (.slice (some ⟨Q2, 0, none⟩) L2.length L2.length) ∧ W.cell? ⟨w5.heap.size, 0, none⟩ = some (.int .i64 k) ∧ W.cell? ⟨w5.heap.size, 1, none⟩ = some (.int .i64 n) ∧ W.cell? ⟨w5.heap.size, 2, none⟩ = some (.string s) ∧ W.cell? ⟨w5.heap.size, 3, none⟩ = some (.slice p1 f.len c1) from
            ⟨(FV.out.below (by omega) b).1, (FV.out.below (by omega) b).2, four ((b.block w5.heap.size (by omega)).trans BVV.out)⟩)
          have K5 := hid fun (W : World) (b : Below V.heap.size V W) => (Wgu.value (cap := L2.length) nm2 g1 (NV.out.below b) g2 G3.out).mono fun e w' h => (by
            obtain ⟨p, c, h1, h2, h3⟩ := h
            exact ⟨p, c, h1, hid h2, hid (b.trans (h3.mono b.size)), KS.out w' (b.trans (h3.mono b.size))⟩ : ∃ p c, e = .returned (.agg #[.int .i64 2, .int .i64 0, .string ⟨#[]⟩, .slice p 2 c]) ∧ Hid (Rd w' (fun g => W.heap.size ≤ g) (.slice p 2 c) (flowF nm2 L2)) ∧ Hid (Below V.heap.size V w') ∧ w'.cell? ⟨w6.heap.size, 0, none⟩ = some (.string nm2) ∧ w'.cell? ⟨w6.heap.size, 1, none⟩ = some (.slice (some ⟨Q2, 0, none⟩) L2.length L2.length) ∧ w'.cell? ⟨w5.heap.size, 0, none⟩ = some (.int .i64 k) ∧ w'.cell? ⟨w5.heap.size, 1, none⟩ = some (.int .i64 n) ∧ w'.cell? ⟨w5.heap.size, 2, none⟩ = some (.string s) ∧ w'.cell? ⟨w5.heap.size, 3, none⟩ = some (.slice p1 f.len c1))
          have K6 := hid fun (W : World) (b : Below V.heap.size V W) (p : Option Addr) (c : Nat) (A : Nat → Prop) (h1 : Rd W A (.slice p 2 c) (flowF nm2 L2)) => (We.equal 2 0 ⟨#[]⟩ (flowF nm2 L2) (.slice p 2 c) k n s f (.slice p1 f.len c1) W A _ h1 (rd_below RV.out b)).mono fun e w' h => (⟨by rw [h.1, HE2.out], hid (b.trans (h.2.mono b.size)), KS.out w' (b.trans (h.2.mono b.size))⟩ : e = .returned (.bool true) ∧ Hid (Below V.heap.size V w') ∧ w'.cell? ⟨w6.heap.size, 0, none⟩ = some (.string nm2) ∧ w'.cell? ⟨w6.heap.size, 1, none⟩ = some (.slice (some ⟨Q2, 0, none⟩) L2.length L2.length) ∧ w'.cell? ⟨w5.heap.size, 0, none⟩ = some (.int .i64 k) ∧ w'.cell? ⟨w5.heap.size, 1, none⟩ = some (.int .i64 n) ∧ w'.cell? ⟨w5.heap.size, 2, none⟩ = some (.string s) ∧ w'.cell? ⟨w5.heap.size, 3, none⟩ = some (.slice p1 f.len c1))
          have hS0 := KS.out V (Below.refl _ _)
          clear KS FV NV RV BVV
          refine wp_region_noPanic ?_
          refine wp_region_held_drew (S := fun W => W.cell? ⟨w6.heap.size, 0, none⟩ = some (.string nm2) ∧ W.cell? ⟨w6.heap.size, 1, none⟩ = some (.slice (some ⟨Q2, 0, none⟩) L2.length L2.length) ∧ W.cell? ⟨w5.heap.size, 0, none⟩ = some (.int .i64 k) ∧ W.cell? ⟨w5.heap.size, 1, none⟩ = some (.int .i64 n) ∧ W.cell? ⟨w5.heap.size, 2, none⟩ = some (.string s) ∧ W.cell? ⟨w5.heap.size, 3, none⟩ = some (.slice p1 f.len c1)) (by kernel_rfl) hS0 (fun hH => ?_)
          refine wpAnyH_take (i := 0) (oi := { dst := some 83, op := Op.move (Operand.tmp 15), type := 33, pos := "law.go:140", after := #[], guard := none }) (v := .int .i64 0) rfl (by kernel_rfl) (by kernel_rfl) (by kernel_rfl) (fun _ _ _ h => h) (Or.inl ⟨by rfl, by (intro w hSw; clear hSw; go_simp)⟩) hH ?_
          simp only [Act.put, List.setIfInBounds_toArray, List.set_cons_zero, List.set_cons_succ]
          refine wpAnyH_take (i := 1) (oi := { dst := some 84, op := Op.binOp BinOp.neq 33 (Operand.tmp 83) (Operand.const (Value.int IntKind.i64 0)) 33, type := 4, pos := "law.go:140", after := #[{ on := 0, ground := Ground.data }], guard := none }) (v := .bool false) rfl (by kernel_rfl) (by kernel_rfl) (by kernel_rfl) (fun _ _ _ h => h) (Or.inl ⟨by rfl, by (intro w hSw; clear hSw; go_simp)⟩) hH ?_
          simp only [Act.put, List.setIfInBounds_toArray, List.set_cons_zero, List.set_cons_succ]
          refine wpAnyH_take (i := 2) (oi := { dst := some 85, op := Op.move (Operand.tmp 84), type := 4, pos := "law.go:140", after := #[{ on := 1, ground := Ground.data }], guard := none }) (v := .bool false) rfl (by kernel_rfl) (by kernel_rfl) (by kernel_rfl) (fun _ _ _ h => h) (Or.inl ⟨by rfl, by (intro w hSw; clear hSw; go_simp)⟩) hH ?_
          simp only [Act.put, List.setIfInBounds_toArray, List.set_cons_zero, List.set_cons_succ]
          refine wpAnyH_take (i := 3) (oi := { dst := some 86, op := Op.move (Operand.tmp 15), type := 33, pos := "law.go:140", after := #[{ on := 2, ground := Ground.guard }], guard := some (2, true) }) (v := undef) rfl (by kernel_rfl) (by kernel_rfl) (by kernel_rfl) (fun _ _ _ h => h) (Or.inr ⟨by rfl, rfl⟩) hH ?_
          simp only [Act.put, List.setIfInBounds_toArray, List.set_cons_zero, List.set_cons_succ]
          refine wpAnyH_take (i := 4) (oi := { dst := some 87, op := Op.binOp BinOp.eql 33 (Operand.tmp 86) (Operand.const (Value.int IntKind.i64 4)) 33, type := 4, pos := "law.go:140", after := #[{ on := 3, ground := Ground.data }, { on := 2, ground := Ground.guard }], guard := some (2, true) }) (v := undef) rfl (by kernel_rfl) (by kernel_rfl) (by kernel_rfl) (fun _ _ _ h => h) (Or.inr ⟨by rfl, rfl⟩) hH ?_
          simp only [Act.put, List.setIfInBounds_toArray, List.set_cons_zero, List.set_cons_succ]
          refine wpAnyH_take (i := 5) (oi := { dst := some 88, op := Op.pick (Operand.tmp 85) (Operand.tmp 87) (Operand.const (Value.bool false)), type := 4, pos := "law.go:140", after := #[{ on := 2, ground := Ground.data }, { on := 4, ground := Ground.data }], guard := none }) (v := .bool false) rfl (by kernel_rfl) (by kernel_rfl) (by kernel_rfl) (fun _ _ _ h => h) (Or.inl ⟨by rfl, by (intro w hSw; clear hSw; go_simp)⟩) hH ?_
          simp only [Act.put, List.setIfInBounds_toArray, List.set_cons_zero, List.set_cons_succ]
          refine wpAnyH_take (i := 6) (oi := { dst := some 89, op := Op.move (Operand.tmp 88), type := 4, pos := "law.go:140", after := #[{ on := 5, ground := Ground.data }, { on := 2, ground := Ground.chain }], guard := none }) (v := .bool false) rfl (by kernel_rfl) (by kernel_rfl) (by kernel_rfl) (fun _ _ _ h => h) (Or.inl ⟨by rfl, by (intro w hSw; clear hSw; go_simp)⟩) hH ?_
          simp only [Act.put, List.setIfInBounds_toArray, List.set_cons_zero, List.set_cons_succ]
          refine wpAnyH_take (i := 7) (oi := { dst := some 90, op := Op.move (Operand.tmp 15), type := 33, pos := "law.go:140", after := #[{ on := 6, ground := Ground.guard }], guard := some (6, false) }) (v := .int .i64 0) rfl (by kernel_rfl) (by kernel_rfl) (by kernel_rfl) (fun _ _ _ h => h) (Or.inl ⟨by rfl, by (intro w hSw; clear hSw; go_simp)⟩) hH ?_
          simp only [Act.put, List.setIfInBounds_toArray, List.set_cons_zero, List.set_cons_succ]
          refine wpAnyH_take (i := 8) (oi := { dst := some 91, op := Op.binOp BinOp.eql 33 (Operand.tmp 90) (Operand.const (Value.int IntKind.i64 0)) 33, type := 4, pos := "law.go:140", after := #[{ on := 7, ground := Ground.data }, { on := 6, ground := Ground.guard }], guard := some (6, false) }) (v := .bool true) rfl (by kernel_rfl) (by kernel_rfl) (by kernel_rfl) (fun _ _ _ h => h) (Or.inl ⟨by rfl, by (intro w hSw; clear hSw; go_simp)⟩) hH ?_
          simp only [Act.put, List.setIfInBounds_toArray, List.set_cons_zero, List.set_cons_succ]
          refine wpAnyH_take (i := 9) (oi := { dst := some 92, op := Op.move (Operand.tmp 91), type := 4, pos := "law.go:140", after := #[{ on := 8, ground := Ground.data }, { on := 6, ground := Ground.chain }, { on := 6, ground := Ground.guard }], guard := some (6, false) }) (v := .bool true) rfl (by kernel_rfl) (by kernel_rfl) (by kernel_rfl) (fun _ _ _ h => h) (Or.inl ⟨by rfl, by (intro w hSw; clear hSw; go_simp)⟩) hH ?_
          simp only [Act.put, List.setIfInBounds_toArray, List.set_cons_zero, List.set_cons_succ]
          refine wpAnyH_take (i := 10) (oi := { dst := some 93, op := Op.load 27 (Operand.tmp 14), type := 27, pos := "law.go:140", after := #[{ on := 9, ground := Ground.guard }], guard := some (9, true) }) (v := .agg #[.string nm2, .slice (some ⟨Q2, 0, none⟩) L2.length L2.length]) rfl (by kernel_rfl) (by kernel_rfl) (by kernel_rfl) (fun _ _ _ h => h) (Or.inl ⟨by rfl, by (intro w hSw; (try dsimp only at hSw); go_simp)⟩) hH ?_
          simp only [Act.put, List.setIfInBounds_toArray, List.set_cons_zero, List.set_cons_succ]
          refine wpAnyH_take (i := 12) (oi := { dst := some 95, op := Op.load 48 (Operand.tmp 12), type := 48, pos := "law.go:140", after := #[{ on := 9, ground := Ground.guard }], guard := some (9, true) }) (v := .agg #[.int .i64 k, .int .i64 n, .string s, .slice p1 f.len c1]) rfl (by kernel_rfl) (by kernel_rfl) (by kernel_rfl) (fun _ _ _ h => h) (Or.inl ⟨by rfl, by (intro w hSw; (try dsimp only at hSw); go_simp)⟩) hH ?_
          simp only [Act.put, List.setIfInBounds_toArray, List.set_cons_zero, List.set_cons_succ]
          refine wpAnyH_ready (rs := [11]) (by kernel_rfl) (by simp) ?_
          refine AllReadyH.cons (o := { dst := some 94, op := Op.call { callee := Callee.value (Operand.func 18), args := #[Operand.tmp 93], argTypes := #[27] }, type := 48, pos := "law.go:140", after := #[{ on := 10, ground := Ground.data }, { on := 9, ground := Ground.chain }, { on := 9, ground := Ground.guard }], guard := some (9, true) }) rfl (fun K hK => ?_) AllReadyH.nil
          go_simp
          refine (K5.out _ (Below.refl _ _).drew).mono ?_
          rintro e wb ⟨pb, cb, rfl, rb, bb, hS⟩
          go_wp2_with fail
          refine hK.out _ _ hS (fun hH1 => ?_)
          clear hK K
          refine wpAnyH_ready (rs := [13]) (by kernel_rfl) (by simp) ?_
          refine AllReadyH.cons (o := { dst := some 96, op := Op.call { callee := Callee.value (Operand.func 20), args := #[Operand.tmp 94, Operand.tmp 95], argTypes := #[48, 48] }, type := 4, pos := "law.go:140", after := #[{ on := 11, ground := Ground.data }, { on := 12, ground := Ground.data }, { on := 11, ground := Ground.chain }, { on := 9, ground := Ground.guard }], guard := some (9, true) }) rfl (fun K hK => ?_) AllReadyH.nil
          go_simp
          refine (K6.out _ bb.out _ _ _ rb.out).mono ?_
          rintro e wc ⟨rfl, bc, hS2⟩
          go_wp2_with fail
          refine hK.out _ _ hS2 (fun hH2 => ?_)
          clear hK K
          refine wpAnyH_take (i := 14) (oi := { dst := some 97, op := Op.pick (Operand.tmp 92) (Operand.tmp 96) (Operand.const (Value.bool false)), type := 4, pos := "law.go:140", after := #[{ on := 9, ground := Ground.data }, { on := 13, ground := Ground.data }, { on := 6, ground := Ground.guard }], guard := some (6, false) }) (v := .bool true) rfl (by kernel_rfl) (by kernel_rfl) (by kernel_rfl) (fun _ _ _ h => h) (Or.inl ⟨by rfl, by (intro w hSw; clear hSw; go_simp)⟩) hH2 ?_
          simp only [Act.put, List.setIfInBounds_toArray, List.set_cons_zero, List.set_cons_succ]
          refine wpAnyH_take (i := 15) (oi := { dst := some 98, op := Op.pick (Operand.tmp 89) (Operand.const (Value.bool true)) (Operand.tmp 97), type := 4, pos := "law.go:140", after := #[{ on := 6, ground := Ground.data }, { on := 14, ground := Ground.data }], guard := none }) (v := .bool true) rfl (by kernel_rfl) (by kernel_rfl) (by kernel_rfl) (fun _ _ _ h => h) (Or.inl ⟨by rfl, by (intro w hSw; clear hSw; go_simp)⟩) hH2 ?_
          simp only [Act.put, List.setIfInBounds_toArray, List.set_cons_zero, List.set_cons_succ]
          refine wpAnyH_take (i := 16) (oi := { dst := some 4, op := Op.assign (Operand.tmp 98), type := 4, pos := "law.go:140", after := #[{ on := 15, ground := Ground.data }, { on := 13, ground := Ground.chain }, { on := 0, ground := Ground.phase }, { on := 1, ground := Ground.phase }, { on := 2, ground := Ground.phase }, { on := 3, ground := Ground.phase }, { on := 4, ground := Ground.phase }, { on := 5, ground := Ground.phase }, { on := 6, ground := Ground.phase }, { on := 7, ground := Ground.phase }, { on := 8, ground := Ground.phase }, { on := 9, ground := Ground.phase }, { on := 10, ground := Ground.phase }, { on := 11, ground := Ground.phase }, { on := 12, ground := Ground.phase }, { on := 13, ground := Ground.phase }, { on := 14, ground := Ground.phase }, { on := 15, ground := Ground.phase }], guard := none }) (v := .bool true) rfl (by kernel_rfl) (by kernel_rfl) (by kernel_rfl) (fun _ _ _ h => h) (Or.inl ⟨by rfl, by (intro w hSw; clear hSw; go_simp)⟩) hH2 ?_
          simp only [Act.put, List.setIfInBounds_toArray, List.set_cons_zero, List.set_cons_succ]
          refine wpAnyH_done (by kernel_rfl) ?_ _
          refine NoPanic.normal ?_
          go_wp2_with fail
          go_ret
          exact ⟨rfl, A9.out.trans (bc.out.mono A9.out.size)⟩
        · clear hF2 HF
          go_wp2_with fail
          go_quiet (fail)
          go_wp2_with fail
          go_ret
          exact ⟨rfl, by first | exact drewB ((A8.out).alloc A8.out.size _) | exact (A8.out).alloc A8.out.size _ | exact drewB (drewB ((A8.out).alloc A8.out.size _))⟩

end Go.Proofs.Ytdhghjfenkjeaaa.Wgb
