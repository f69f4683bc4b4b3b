/-
  The walk of the law's act, again: one call of both disks; they answer the same; what lies outside both stays, and the disks keep their sizes.
-/
import Derived.Test.YthmholgfnjpgbaaGreatLawP2
import Derived.Test.YthmholgfnjpgbaaGreatDocH
namespace Go.Proofs.YthmholgfnjpgbaaGreat.Wq
open Go.ChangeShapes Go.WideShapes Go.ChangeAt Go.RowKit Go.Proofs.YthmholgfnjpgbaaGreat.M Go.Proofs.YthmholgfnjpgbaaGreat.Wd Go.Proofs.YthmholgfnjpgbaaGreat.Wv Go.Proofs.YthmholgfnjpgbaaGreat.Wr

/-- What lies outside both disks stays. -/
structure Mv (w0 : World) (F0 G0 : Nat → Prop) (w : World) (F G : Nat → Prop) : Prop where
  f : ∀ b, F b → F0 b ∨ w0.heap.size ≤ b
  g : ∀ b, G b → G0 b ∨ w0.heap.size ≤ b
  k : Kept (fun b => F0 b ∨ G0 b) w0 w
theorem Mv.refl (w : World) (F G : Nat → Prop) : Mv w F G w F G := ⟨fun _ => .inl, fun _ => .inl, Kept.refl _ _⟩
theorem Mv.below {w0 w w' : World} {F0 G0 F G : Nat → Prop} (h : Mv w0 F0 G0 w F G) (b : Below w.heap.size w w') : Mv w0 F0 G0 w' F G := ⟨h.f, h.g, h.k.trans ((Kept.of_below (F := fun _ => False) b).mono fun _ _ c => c.elim)⟩
theorem Mv.left {w0 w w' : World} {F0 G0 F G : Nat → Prop} (h : Mv w0 F0 G0 w F G) (hk : Kept F w w') : Mv w0 F0 G0 w' (Gr F w w') G :=
  ⟨fun b c => c.elim (h.f b) fun c => .inr (Nat.le_trans h.k.size c.1), h.g, h.k.trans (hk.mono fun b hb c => (h.f b c).imp .inl fun e => ⟨e, hb⟩)⟩
theorem Mv.right {w0 w w' : World} {F0 G0 F G : Nat → Prop} (h : Mv w0 F0 G0 w F G) (hk : Kept G w w') : Mv w0 F0 G0 w' F (Gr G w w') :=
  ⟨h.f, fun b c => c.elim (h.g b) fun c => .inr (Nat.le_trans h.k.size c.1), h.k.trans (hk.mono fun b hb c => (h.g b c).imp .inr fun e => ⟨e, hb⟩)⟩
structure Ox (w0 : World) (F0 G0 : Nat → Prop) (w : World) (F G : Nat → Prop) (g : Nat) (ob : Obj) : Prop where
  o : Ob w F G g ob
  m : Mv w0 F0 G0 w F G
theorem Ox.left {w0 w w' : World} {F0 G0 F G : Nat → Prop} {g : Nat} {ob : Obj} (h : Ox w0 F0 G0 w F G g ob) (hk : Kept F w w') : Ox w0 F0 G0 w' (Gr F w w') G g ob := ⟨h.o.left hk, h.m.left hk⟩
theorem Ox.right {w0 w w' : World} {F0 G0 F G : Nat → Prop} {g : Nat} {ob : Obj} (h : Ox w0 F0 G0 w F G g ob) (hk : Kept G w w') : Ox w0 F0 G0 w' F (Gr G w w') g ob := ⟨h.o.right hk, h.m.right hk⟩
theorem Ox.below {w0 w w' : World} {F0 G0 F G : Nat → Prop} {g : Nat} {ob : Obj} (h : Ox w0 F0 G0 w F G g ob) (b : Below w.heap.size w w') : Ox w0 F0 G0 w' F G g ob := ⟨h.o.below b, h.m.below b⟩
/-- Behind an act. -/
def Dn2 (W : World) (D E m : Nat) (d : Dk) (w0 : World) (F0 G0 : Nat → Prop) (w' : World) : Prop := ∃ d' F' G', Iv m d' ∧ Du W w' D E d' d' F' G' ∧ Ms d 1 d' ∧ Mv w0 F0 G0 w' F' G'
theorem ms_cut (d : Dk) (a n : Int) (K : List Int) : Ms d 1 (d.cut a n K) := ⟨rfl, fun _ => rfl, fun _ => Nat.le_succ _⟩
theorem ms_on (d : Dk) : Ms d 1 d.on := ⟨rfl, fun _ => rfl, fun _ => Nat.le_succ _⟩
theorem ms_crash (d : Dk) (K : List Int) : Ms d 1 (d.crash K) := ⟨rfl, fun _ => rfl, fun _ => Nat.zero_le _⟩
theorem ms_lay (d : Dk) (a : Int) (x : ByteArray) : Ms d 1 (d.lay a x) := by
  unfold Dk.lay
  split
  · exact Ms.at_ rfl (Nat.zero_le _)
  · exact (Ms.refl d).mono (by omega)
local macro "ms1" : tactic => `(tactic| first | exact (Ms.refl _).mono (by omega) | exact (Ms.flush _ _).mono (by omega) | exact Ms.write _ _ _ _ | exact ms_cut _ _ _ _ | exact ms_crash _ _ | exact ms_on _ | exact ms_lay _ _ _)

set_option maxRecDepth 100000 in
set_option maxHeartbeats 4000000 in
theorem act {W w : World} {D E m : Nat} {d : Dk} {F G : Nat → Prop} (A : Av) (hA : A.ok W) (h : Du W w D E d d F G) (hv : Iv m d) (hm : m ≤ 900000) {wz : World} {F0 G0 : Nat → Prop} (M0 : Mv wz F0 G0 w F G) :
    Calls Tryz.prog 15 #[.pointer (some ⟨D, 0, none⟩), .pointer (some ⟨E, 0, none⟩), .agg A.cells.toArray] w fun e w' => e = .returned (.bool true) ∧ Dn2 W D E (m + 1) d wz F0 G0 w' := by
  have hns := hid hA.ns
  have hdz := hA.data
  obtain ⟨n1, n2⟩ := hA.num
  have V := hid hv
  have hq1 : Hid (∀ j, j < d.k → (d.r j).q.length ≤ 1048576) := fun j hj => by have := hv.q j hj; omega
  have hq2 : Hid (∀ j, j < d.k → (d.r j).q.length < 1048576) := fun j hj => by have := hv.q j hj; omega
  have hob := hv.o
  have HO := hid hob
  have T := hid (h.below ((Below.refl w.heap.size w).alloc (Nat.le_refl _) (aob A)))
  have O : Hid (Ox wz F0 G0 (w.alloc (aob A)) F G w.heap.size (aob A)) := ⟨⟨heap_alloc_last w _, fun hf => by have := Wr.one_lt h.o1 hf; omega, fun hg => by have := h.rlt hg; omega⟩, M0.below ((Below.refl w.heap.size w).alloc (Nat.le_refl _) _)⟩
  have AC : Hid (∀ {W' : World} {F G : Nat → Prop}, Ox wz F0 G0 W' F G w.heap.size (aob A) → W'.cell? ⟨w.heap.size, 0, none⟩ = some (.int .i64 A.act) ∧ W'.cell? ⟨w.heap.size, 1, none⟩ = some (.int .i64 A.reg) ∧ W'.cell? ⟨w.heap.size, 2, none⟩ = some (.int .i64 A.sec) ∧ W'.cell? ⟨w.heap.size, 3, none⟩ = some (.int .i64 A.num) ∧ W'.cell? ⟨w.heap.size, 4, none⟩ = some (.string A.data) ∧ W'.cell? ⟨w.heap.size, 5, none⟩ = some (.slice A.ka A.K.length A.kc)) := fun h => h.o.cells
  obtain ⟨X, hX⟩ : ∃ X, X = w.alloc (aob A) := ⟨_, rfl⟩
  rw [← hX] at T O
  have hXX : X = w.alloc (.cells #[.int .i64 A.act, .int .i64 A.reg, .int .i64 A.sec, .int .i64 A.num, .string A.data, .slice A.ka A.K.length A.kc] 43) := hX
  have HX := hid hXX.symm
  show Calls Tryz.prog 15 #[.pointer (some ⟨D, 0, none⟩), .pointer (some ⟨E, 0, none⟩), .agg #[.int .i64 A.act, .int .i64 A.reg, .int .i64 A.sec, .int .i64 A.num, .string A.data, .slice A.ka A.K.length A.kc]] w _
  clear hv hob h hX hXX hA M0
  generalize hob2 : aob A = ob at *
  clear hob2
  obtain ⟨y0, y1, y2, y3, x, ka, K, kc⟩ := A
  dsimp only at *
  by_cases v1 : y0.tmod 10 = 1
  · have C1 := hid (T.out.o1.read hq1.out y1 y2)
    have C2 := hid (T.out.r.elim fun L l => readR l hq1.out y1 y2)
    obtain ⟨b0, b1, b2, b3, b4, b5⟩ := AC.out O.out
    have DN : Hid (Dn2 W D E (m + 1) d wz F0 G0 X) := ⟨_, _, _, V.out.more, T.out, (by ms1), O.out.m⟩
    generalize d.readB y1 y2 = rB at *
    generalize d.readE y1 y2 = rE at *
    go_enter Tryz.func15, Tryz.ntmps15
    go_wp2_with fail
    rw [HX.out]
    refine C1.out.mono ?_
    rintro e w1 ⟨rfl, rfl⟩
    go_wp2_with fail
    refine C2.out.mono ?_
    rintro e w1 ⟨rfl, rfl⟩
    go_wp2
    go_ret
    exact ⟨rfl, DN.out⟩
  · have nv1 : (y0.tmod 10 == 1) = false := by simpa using v1
    by_cases vm1 : y0.tmod 10 = (-1)
    · have C1 := hid (T.out.o1.read hq1.out y1 y2)
      have C2 := hid (T.out.r.elim fun L l => readR l hq1.out y1 y2)
      obtain ⟨b0, b1, b2, b3, b4, b5⟩ := AC.out O.out
      have DN : Hid (Dn2 W D E (m + 1) d wz F0 G0 X) := ⟨_, _, _, V.out.more, T.out, (by ms1), O.out.m⟩
      generalize d.readB y1 y2 = rB at *
      generalize d.readE y1 y2 = rE at *
      go_enter Tryz.func15, Tryz.ntmps15
      go_wp2_with fail
      rw [HX.out]
      refine C1.out.mono ?_
      rintro e w1 ⟨rfl, rfl⟩
      go_wp2_with fail
      refine C2.out.mono ?_
      rintro e w1 ⟨rfl, rfl⟩
      go_wp2
      go_ret
      exact ⟨rfl, DN.out⟩
    · have nvm1 : (y0.tmod 10 == (-1)) = false := by simpa using vm1
      by_cases v2 : y0.tmod 10 = 2
      · have C1 : Hid (∀ W', Du W W' D E d d F G → Ox wz F0 G0 W' F G w.heap.size ob → Calls Tryz.prog 49 #[.pointer (some ⟨D, 0, none⟩), .int .i64 y1] W' fun e' w' => e' = .returned (.int .i64 (d.flushE y1)) ∧ (∃ F', Hid (Du W w' D E (d.flush y1) d F' G ∧ Ox wz F0 G0 w' F' G w.heap.size ob)) ∧ (w'.cell? ⟨w.heap.size, 1, none⟩ = some (.int .i64 y1))) := fun W' t o => (t.o1.flush hq1.out y1).mono fun e' w' ⟨h1, h2, h3⟩ => ⟨h1, ⟨_, t.left h2 h3, o.left h3⟩, (AC.out (o.left h3)).2.1⟩
        have C2 : Hid (∀ W' F', Du W W' D E (d.flush y1) d F' G → Ox wz F0 G0 W' F' G w.heap.size ob → Calls Tryz.prog 50 #[.pointer (some ⟨E, 0, none⟩), .int .i64 y1] W' fun e' w' => e' = .returned (.int .i64 (d.flushE y1)) ∧ (∃ F' G', Hid (Du W w' D E (d.flush y1) (d.flush y1) F' G' ∧ Mv wz F0 G0 w' F' G')) ∧ (w'.cell? ⟨w.heap.size, 1, none⟩ = some (.int .i64 y1))) := fun W' F' t o => t.r.elim fun L l => (flushR l hq1.out y1).mono fun e' w' ⟨h1, h2, h3, _⟩ => ⟨h1, ⟨_, _, t.rightG h2 h3, (o.right h3).m⟩, (AC.out (o.right h3)).2.1⟩
        have VV := hid (V.out.flush y1)
        have hB := hid (And.intro (T.out.below (Below.refl X.heap.size X).drew) (O.out.below (Below.refl X.heap.size X).drew))
        obtain ⟨b0, b1, b2, b3, b4, b5⟩ := AC.out O.out
        have hS : X.cell? ⟨w.heap.size, 1, none⟩ = some (.int .i64 y1) := b1
        generalize d.flushE y1 = fE at *
        go_enter Tryz.func15, Tryz.ntmps15
        go_wp2_with fail
        rw [HX.out]
        go_region_held3 (fun w' => w'.cell? ⟨w.heap.size, 1, none⟩ = some (.int .i64 y1))
          (first | exact hS | go_keep)
          (first | (go_at_call 49; refine (C1.out _ hB.out.1 hB.out.2).mono ?_; rintro e w1 ⟨rfl, ⟨F1, hB⟩, hS⟩) | (go_at_call 50; refine (C2.out _ _ hB.out.1 hB.out.2).mono ?_; rintro e w2 ⟨rfl, ⟨F2, G2, hB⟩, hS⟩))
        have DN : Hid (Dn2 W D E (m + 1) d wz F0 G0 w2) := ⟨_, _, _, VV.out, hB.out.1, (by ms1), hB.out.2⟩
        clear C1 C2
        go_wp2
        go_ret
        exact ⟨rfl, DN.out⟩
      · have nv2 : (y0.tmod 10 == 2) = false := by simpa using v2
        by_cases vm2 : y0.tmod 10 = (-2)
        · have C1 : Hid (∀ W', Du W W' D E d d F G → Ox wz F0 G0 W' F G w.heap.size ob → Calls Tryz.prog 49 #[.pointer (some ⟨D, 0, none⟩), .int .i64 y1] W' fun e' w' => e' = .returned (.int .i64 (d.flushE y1)) ∧ (∃ F', Hid (Du W w' D E (d.flush y1) d F' G ∧ Ox wz F0 G0 w' F' G w.heap.size ob)) ∧ (w'.cell? ⟨w.heap.size, 1, none⟩ = some (.int .i64 y1))) := fun W' t o => (t.o1.flush hq1.out y1).mono fun e' w' ⟨h1, h2, h3⟩ => ⟨h1, ⟨_, t.left h2 h3, o.left h3⟩, (AC.out (o.left h3)).2.1⟩
          have C2 : Hid (∀ W' F', Du W W' D E (d.flush y1) d F' G → Ox wz F0 G0 W' F' G w.heap.size ob → Calls Tryz.prog 50 #[.pointer (some ⟨E, 0, none⟩), .int .i64 y1] W' fun e' w' => e' = .returned (.int .i64 (d.flushE y1)) ∧ (∃ F' G', Hid (Du W w' D E (d.flush y1) (d.flush y1) F' G' ∧ Mv wz F0 G0 w' F' G')) ∧ (w'.cell? ⟨w.heap.size, 1, none⟩ = some (.int .i64 y1))) := fun W' F' t o => t.r.elim fun L l => (flushR l hq1.out y1).mono fun e' w' ⟨h1, h2, h3, _⟩ => ⟨h1, ⟨_, _, t.rightG h2 h3, (o.right h3).m⟩, (AC.out (o.right h3)).2.1⟩
          have VV := hid (V.out.flush y1)
          have hB := hid (And.intro (T.out.below (Below.refl X.heap.size X).drew) (O.out.below (Below.refl X.heap.size X).drew))
          obtain ⟨b0, b1, b2, b3, b4, b5⟩ := AC.out O.out
          have hS : X.cell? ⟨w.heap.size, 1, none⟩ = some (.int .i64 y1) := b1
          generalize d.flushE y1 = fE at *
          go_enter Tryz.func15, Tryz.ntmps15
          go_wp2_with fail
          rw [HX.out]
          go_region_held3 (fun w' => w'.cell? ⟨w.heap.size, 1, none⟩ = some (.int .i64 y1))
            (first | exact hS | go_keep)
            (first | (go_at_call 49; refine (C1.out _ hB.out.1 hB.out.2).mono ?_; rintro e w1 ⟨rfl, ⟨F1, hB⟩, hS⟩) | (go_at_call 50; refine (C2.out _ _ hB.out.1 hB.out.2).mono ?_; rintro e w2 ⟨rfl, ⟨F2, G2, hB⟩, hS⟩))
          have DN : Hid (Dn2 W D E (m + 1) d wz F0 G0 w2) := ⟨_, _, _, VV.out, hB.out.1, (by ms1), hB.out.2⟩
          clear C1 C2
          go_wp2
          go_ret
          exact ⟨rfl, DN.out⟩
        · have nvm2 : (y0.tmod 10 == (-2)) = false := by simpa using vm2
          by_cases v3 : y0.tmod 10 = 3
          · have C1 := hid (Wr.one_cut T.out.o1 y1 y3 n2 ka K kc hns.out.k64 (by have := hns.out.size; omega) hns.out.nil (Ns.rd hns.out T.out.o1.bel T.out.o1.own))
            go_enter Tryz.func15, Tryz.ntmps15
            go_wp2_with fail
            rw [HX.out]
            refine C1.out.mono ?_
            rintro e w1 ⟨rfl, p1, p2⟩
            have T1 := hid (T.out.left p1 p2)
            have O1 := hid (O.out.left p2)
            clear p1 p2 C1
            have C2 := hid (T1.out.r.elim fun L l => cutR l y1 y3 n2 ka K kc hns.out.k64 hns.out.size (Ns.rd hns.out T1.out.o1.bel T1.out.rown))
            obtain ⟨b0, b1, b2, b3, b4, b5⟩ := AC.out O1.out
            go_wp2_with fail
            refine C2.out.mono ?_
            rintro e w2 ⟨rfl, q1, q2⟩
            have DN : Hid (Dn2 W D E (m + 1) d wz F0 G0 w2) := ⟨_, _, _, V.out.cut y1 y3 K, T1.out.right q1 q2, (by ms1), (O1.out.right q2).m⟩
            clear C2
            go_wp2
            go_ret
            exact ⟨rfl, DN.out⟩
          · have nv3 : (y0.tmod 10 == 3) = false := by simpa using v3
            by_cases vm3 : y0.tmod 10 = (-3)
            · have C1 := hid (Wr.one_cut T.out.o1 y1 y3 n2 ka K kc hns.out.k64 (by have := hns.out.size; omega) hns.out.nil (Ns.rd hns.out T.out.o1.bel T.out.o1.own))
              go_enter Tryz.func15, Tryz.ntmps15
              go_wp2_with fail
              rw [HX.out]
              refine C1.out.mono ?_
              rintro e w1 ⟨rfl, p1, p2⟩
              have T1 := hid (T.out.left p1 p2)
              have O1 := hid (O.out.left p2)
              clear p1 p2 C1
              have C2 := hid (T1.out.r.elim fun L l => cutR l y1 y3 n2 ka K kc hns.out.k64 hns.out.size (Ns.rd hns.out T1.out.o1.bel T1.out.rown))
              obtain ⟨b0, b1, b2, b3, b4, b5⟩ := AC.out O1.out
              go_wp2_with fail
              refine C2.out.mono ?_
              rintro e w2 ⟨rfl, q1, q2⟩
              have DN : Hid (Dn2 W D E (m + 1) d wz F0 G0 w2) := ⟨_, _, _, V.out.cut y1 y3 K, T1.out.right q1 q2, (by ms1), (O1.out.right q2).m⟩
              clear C2
              go_wp2
              go_ret
              exact ⟨rfl, DN.out⟩
            · have nvm3 : (y0.tmod 10 == (-3)) = false := by simpa using vm3
              by_cases v4 : y0.tmod 10 = 4
              · have C1 := hid (T.out.o1.crash hq1.out (hns.out.kr T.out.o1.bel T.out.o1.own) hns.out.k64 kc)
                go_enter Tryz.func15, Tryz.ntmps15
                go_wp2_with fail
                rw [HX.out]
                refine C1.out.mono ?_
                rintro e w1 ⟨rfl, p1, p2⟩
                have T1 := hid (T.out.left p1 p2)
                have O1 := hid (O.out.left p2)
                clear p1 p2 C1
                have C2 := hid (T1.out.r.elim fun L l => crashR l hq1.out HO.out (hns.out.kr T1.out.o1.bel T1.out.rown) hns.out.k64 kc)
                obtain ⟨b0, b1, b2, b3, b4, b5⟩ := AC.out O1.out
                go_wp2_with fail
                refine C2.out.mono ?_
                rintro e w2 ⟨rfl, q1, q2, _⟩
                have DN : Hid (Dn2 W D E (m + 1) d wz F0 G0 w2) := ⟨_, _, _, (Iv.crash K).more, T1.out.rightG q1 q2, (by ms1), (O1.out.right q2).m⟩
                clear C2
                go_wp2
                go_ret
                exact ⟨rfl, DN.out⟩
              · have nv4 : (y0.tmod 10 == 4) = false := by simpa using v4
                by_cases vm4 : y0.tmod 10 = (-4)
                · have C1 := hid (T.out.o1.crash hq1.out (hns.out.kr T.out.o1.bel T.out.o1.own) hns.out.k64 kc)
                  go_enter Tryz.func15, Tryz.ntmps15
                  go_wp2_with fail
                  rw [HX.out]
                  refine C1.out.mono ?_
                  rintro e w1 ⟨rfl, p1, p2⟩
                  have T1 := hid (T.out.left p1 p2)
                  have O1 := hid (O.out.left p2)
                  clear p1 p2 C1
                  have C2 := hid (T1.out.r.elim fun L l => crashR l hq1.out HO.out (hns.out.kr T1.out.o1.bel T1.out.rown) hns.out.k64 kc)
                  obtain ⟨b0, b1, b2, b3, b4, b5⟩ := AC.out O1.out
                  go_wp2_with fail
                  refine C2.out.mono ?_
                  rintro e w2 ⟨rfl, q1, q2, _⟩
                  have DN : Hid (Dn2 W D E (m + 1) d wz F0 G0 w2) := ⟨_, _, _, (Iv.crash K).more, T1.out.rightG q1 q2, (by ms1), (O1.out.right q2).m⟩
                  clear C2
                  go_wp2
                  go_ret
                  exact ⟨rfl, DN.out⟩
                · have nvm4 : (y0.tmod 10 == (-4)) = false := by simpa using vm4
                  by_cases v5 : y0.tmod 10 = 5
                  · have C1 := hid (T.out.o1.on)
                    go_enter Tryz.func15, Tryz.ntmps15
                    go_wp2_with fail
                    rw [HX.out]
                    refine C1.out.mono ?_
                    rintro e w1 ⟨rfl, p1, p2⟩
                    have T1 := hid (T.out.left p1 p2)
                    have O1 := hid (O.out.left p2)
                    clear p1 p2 C1
                    have C2 := hid (T1.out.r.elim fun L l => onR l)
                    obtain ⟨b0, b1, b2, b3, b4, b5⟩ := AC.out O1.out
                    go_wp2_with fail
                    refine C2.out.mono ?_
                    rintro e w2 ⟨rfl, q1, q2, _⟩
                    have DN : Hid (Dn2 W D E (m + 1) d wz F0 G0 w2) := ⟨_, _, _, V.out.on, T1.out.rightG q1 q2, (by ms1), (O1.out.right q2).m⟩
                    clear C2
                    go_wp2
                    go_ret
                    exact ⟨rfl, DN.out⟩
                  · have nv5 : (y0.tmod 10 == 5) = false := by simpa using v5
                    by_cases vm5 : y0.tmod 10 = (-5)
                    · have C1 := hid (T.out.o1.on)
                      go_enter Tryz.func15, Tryz.ntmps15
                      go_wp2_with fail
                      rw [HX.out]
                      refine C1.out.mono ?_
                      rintro e w1 ⟨rfl, p1, p2⟩
                      have T1 := hid (T.out.left p1 p2)
                      have O1 := hid (O.out.left p2)
                      clear p1 p2 C1
                      have C2 := hid (T1.out.r.elim fun L l => onR l)
                      obtain ⟨b0, b1, b2, b3, b4, b5⟩ := AC.out O1.out
                      go_wp2_with fail
                      refine C2.out.mono ?_
                      rintro e w2 ⟨rfl, q1, q2, _⟩
                      have DN : Hid (Dn2 W D E (m + 1) d wz F0 G0 w2) := ⟨_, _, _, V.out.on, T1.out.rightG q1 q2, (by ms1), (O1.out.right q2).m⟩
                      clear C2
                      go_wp2
                      go_ret
                      exact ⟨rfl, DN.out⟩
                    · have nvm5 : (y0.tmod 10 == (-5)) = false := by simpa using vm5
                      by_cases v6 : y0.tmod 10 = 6
                      · have u2 : min (x.size : Int) 200 = ((min x.size 200 : Nat) : Int) := by omega
                        have hu : (min x.size 200) ≤ x.size := by omega
                        generalize hug : min x.size 200 = u at u2 hu
                        clear hug
                        have hzz : (x.extract 0 u).size ≤ 140737488355328 := by rw [ByteArray.size_extract]; omega
                        have C1 := hid (T.out.o1.lay y1 (x.extract 0 u))
                        have C2 := hid (fun (W' : World) (L : Lr) (G : Nat → Prop) (l : RkL W' E d G L) => layR l y1 (x.extract 0 u) hzz)
                        have VV := hid (V.out.lay y1 (x.extract 0 u))
                        generalize hzg : x.extract 0 u = z at *
                        have HZ := hid hzg
                        clear hzg
                        go_enter Tryz.func15, Tryz.ntmps15
                        go_wp2_with fail
                        rw [HX.out, HZ.out]
                        refine C1.out.mono ?_
                        rintro e w1 ⟨rfl, p1, p2⟩
                        have T1 := hid (T.out.left p1 p2)
                        have O1 := hid (O.out.left p2)
                        clear p1 p2 C1
                        have C3 := hid (T1.out.r.elim fun L l => C2.out w1 L G l)
                        obtain ⟨b0, b1, b2, b3, b4, b5⟩ := AC.out O1.out
                        go_wp2_with fail
                        refine C3.out.mono ?_
                        rintro e w2 ⟨rfl, q1, q2⟩
                        have DN : Hid (Dn2 W D E (m + 1) d wz F0 G0 w2) := ⟨_, _, _, VV.out, T1.out.rightG q1 q2, (by ms1), (O1.out.right q2).m⟩
                        clear C2 C3
                        go_wp2
                        go_ret
                        exact ⟨rfl, DN.out⟩
                      · have nv6 : (y0.tmod 10 == 6) = false := by simpa using v6
                        by_cases vm6 : y0.tmod 10 = (-6)
                        · have u2 : min (x.size : Int) 200 = ((min x.size 200 : Nat) : Int) := by omega
                          have hu : (min x.size 200) ≤ x.size := by omega
                          generalize hug : min x.size 200 = u at u2 hu
                          clear hug
                          have hzz : (x.extract 0 u).size ≤ 140737488355328 := by rw [ByteArray.size_extract]; omega
                          have C1 := hid (T.out.o1.lay y1 (x.extract 0 u))
                          have C2 := hid (fun (W' : World) (L : Lr) (G : Nat → Prop) (l : RkL W' E d G L) => layR l y1 (x.extract 0 u) hzz)
                          have VV := hid (V.out.lay y1 (x.extract 0 u))
                          generalize hzg : x.extract 0 u = z at *
                          have HZ := hid hzg
                          clear hzg
                          go_enter Tryz.func15, Tryz.ntmps15
                          go_wp2_with fail
                          rw [HX.out, HZ.out]
                          refine C1.out.mono ?_
                          rintro e w1 ⟨rfl, p1, p2⟩
                          have T1 := hid (T.out.left p1 p2)
                          have O1 := hid (O.out.left p2)
                          clear p1 p2 C1
                          have C3 := hid (T1.out.r.elim fun L l => C2.out w1 L G l)
                          obtain ⟨b0, b1, b2, b3, b4, b5⟩ := AC.out O1.out
                          go_wp2_with fail
                          refine C3.out.mono ?_
                          rintro e w2 ⟨rfl, q1, q2⟩
                          have DN : Hid (Dn2 W D E (m + 1) d wz F0 G0 w2) := ⟨_, _, _, VV.out, T1.out.rightG q1 q2, (by ms1), (O1.out.right q2).m⟩
                          clear C2 C3
                          go_wp2
                          go_ret
                          exact ⟨rfl, DN.out⟩
                        · have nvm6 : (y0.tmod 10 == (-6)) = false := by simpa using vm6
                          have SF : Hid (∀ {W' : World} {F G : Nat → Prop}, Ox wz F0 G0 W' F G w.heap.size ob → (fun w' : World => w'.cell? ⟨w.heap.size, 1, none⟩ = some (.int .i64 y1) ∧ w'.cell? ⟨w.heap.size, 2, none⟩ = some (.int .i64 y2) ∧ w'.cell? ⟨w.heap.size, 4, none⟩ = some (.string x)) W') := fun o => ⟨(AC.out o).2.1, (AC.out o).2.2.1, (AC.out o).2.2.2.2.1⟩
                          have C0 : Hid (∀ W' d' F G, Du W W' D E d' d F G → Ox wz F0 G0 W' F G w.heap.size ob → Calls Tryz.prog 57 #[.string x] W' fun e' w' => e' = .returned (.string (secB x)) ∧ Hid (Du W w' D E d' d F G ∧ Ox wz F0 G0 w' F G w.heap.size ob) ∧ (w'.cell? ⟨w.heap.size, 1, none⟩ = some (.int .i64 y1) ∧ w'.cell? ⟨w.heap.size, 2, none⟩ = some (.int .i64 y2) ∧ w'.cell? ⟨w.heap.size, 4, none⟩ = some (.string x))) := fun W' d' F G t o => (sector x W' (by unfold maxLen; omega)).mono fun e' w' ⟨h1, h2⟩ => ⟨h1, ⟨t.below h2, o.below h2⟩, SF.out (o.below h2)⟩
                          have C1 : Hid (∀ W', Du W W' D E d d F G → Ox wz F0 G0 W' F G w.heap.size ob → Calls Tryz.prog 56 #[.pointer (some ⟨D, 0, none⟩), .int .i64 y1, .int .i64 y2, .string (secB x)] W' fun e' w' => e' = .returned (.int .i64 (d.writeE y1 y2 (secB x))) ∧ (∃ F', Hid (Du W w' D E (d.write y1 y2 (secB x)) d F' G ∧ Ox wz F0 G0 w' F' G w.heap.size ob)) ∧ (w'.cell? ⟨w.heap.size, 1, none⟩ = some (.int .i64 y1) ∧ w'.cell? ⟨w.heap.size, 2, none⟩ = some (.int .i64 y2) ∧ w'.cell? ⟨w.heap.size, 4, none⟩ = some (.string x))) := fun W' t o => (t.o1.write hq2.out y1 y2 (secB x)).mono fun e' w' ⟨h1, h2, h3⟩ => ⟨h1, ⟨_, t.left h2 h3, o.left h3⟩, SF.out (o.left h3)⟩
                          have C2 : Hid (∀ W' F', Du W W' D E (d.write y1 y2 (secB x)) d F' G → Ox wz F0 G0 W' F' G w.heap.size ob → Calls Tryz.prog 58 #[.pointer (some ⟨E, 0, none⟩), .int .i64 y1, .int .i64 y2, .string (secB x)] W' fun e' w' => e' = .returned (.int .i64 (d.writeE y1 y2 (secB x))) ∧ (∃ F' G', Hid (Du W w' D E (d.write y1 y2 (secB x)) (d.write y1 y2 (secB x)) F' G' ∧ Mv wz F0 G0 w' F' G')) ∧ (w'.cell? ⟨w.heap.size, 1, none⟩ = some (.int .i64 y1) ∧ w'.cell? ⟨w.heap.size, 2, none⟩ = some (.int .i64 y2) ∧ w'.cell? ⟨w.heap.size, 4, none⟩ = some (.string x))) := fun W' F' t o => t.r.elim fun L l => (putR l hq2.out y1 y2 (secB x)).mono fun e' w' ⟨h1, h2, h3⟩ => ⟨h1, ⟨_, _, t.right h2 h3, (o.right h3).m⟩, SF.out (o.right h3)⟩
                          have VV := hid (V.out.write y1 y2 (secB x))
                          have hB := hid (And.intro (T.out.below (Below.refl X.heap.size X).drew) (O.out.below (Below.refl X.heap.size X).drew))
                          obtain ⟨b0, b1, b2, b3, b4, b5⟩ := AC.out O.out
                          have hS : X.cell? ⟨w.heap.size, 1, none⟩ = some (.int .i64 y1) ∧ X.cell? ⟨w.heap.size, 2, none⟩ = some (.int .i64 y2) ∧ X.cell? ⟨w.heap.size, 4, none⟩ = some (.string x) := ⟨b1, b2, b4⟩
                          generalize d.writeE y1 y2 (secB x) = fE at *
                          generalize secB x = sx at *
                          clear SF
                          go_enter Tryz.func15, Tryz.ntmps15
                          go_wp2_with fail
                          rw [HX.out]
                          go_region_held3 (fun w' => w'.cell? ⟨w.heap.size, 1, none⟩ = some (.int .i64 y1) ∧ w'.cell? ⟨w.heap.size, 2, none⟩ = some (.int .i64 y2) ∧ w'.cell? ⟨w.heap.size, 4, none⟩ = some (.string x))
                            (first | exact hS | go_keep)
                            (first | (go_at_call 57; refine (C0.out _ _ _ _ hB.out.1 hB.out.2).mono ?_; rintro e w0 ⟨rfl, hB, hS⟩) | (go_at_call 56; refine (C1.out _ hB.out.1 hB.out.2).mono ?_; rintro e w1 ⟨rfl, ⟨F1, hB⟩, hS⟩) | (go_at_call 58; refine (C2.out _ _ hB.out.1 hB.out.2).mono ?_; rintro e w2 ⟨rfl, ⟨F2, G2, hB⟩, hS⟩))
                          have DN : Hid (Dn2 W D E (m + 1) d wz F0 G0 w2) := ⟨_, _, _, VV.out, hB.out.1, (by ms1), hB.out.2⟩
                          clear C0 C1 C2
                          go_wp2
                          go_ret
                          exact ⟨rfl, DN.out⟩

end Go.Proofs.YthmholgfnjpgbaaGreat.Wq
