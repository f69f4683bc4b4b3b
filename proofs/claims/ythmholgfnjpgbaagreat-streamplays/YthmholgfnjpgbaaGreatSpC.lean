/-
  The walk of the law StreamPlays: it returns true, and nothing that was in memory has turned. Conditions: the arguments lie in memory as such do.
-/
import Derived.Test.YthmholgfnjpgbaaGreatSpD
import Derived.Test.YthmholgfnjpgbaaGreatSpR
import Derived.Lib.MinMax
import Derived.Deep.RegionHeld3
namespace Go.Proofs.YthmholgfnjpgbaaGreat.Wq
open Go.ChangeShapes Go.WideShapes Go.ChangeAt Go.RowKit Go.Proofs.YthmholgfnjpgbaaGreat.M Go.Proofs.YthmholgfnjpgbaaGreat.Wd Go.Proofs.YthmholgfnjpgbaaGreat.Wst Go.Proofs.YthmholgfnjpgbaaGreat.Wdc

/-- The sizes of the law's disks. -/
def zf (Z : Int) (j : Nat) : Int := if j = 0 then Z else 4
theorem dz_new (Z : Int) : Dz (newD (zf Z) (min 2 8)) := ⟨(by decide : 0 < min 2 8), fun i _ => (newR_ok (zf Z i)).n⟩

/-- At the loop's head: both streams are open .. -/
def La (W : World) (D E m S T : Nat) (w : World) : Prop := ∃ d s F G v, Bt W w D E S T d d s s F G v ∧ Fit d s ∧ Wr.Iv m d ∧ Dz d
/-- .. or neither is. -/
def Ln (W : World) (D E m : Nat) (w : World) : Prop := ∃ d F G, Wr.Du W w D E d d F G ∧ Wr.Iv m d ∧ Dz d
def Lp (W : World) (D E m : Nat) (sv tv : Value) (w : World) : Prop :=
  (∃ S T, sv = .pointer (some ⟨S, 0, none⟩) ∧ tv = .pointer (some ⟨T, 0, none⟩) ∧ La W D E m S T w) ∨ (sv = .pointer none ∧ tv = .pointer none ∧ Ln W D E m w)
theorem qa_end {W w : World} {D E S T X m : Nat} {o : Obj} {d : Dk} {s : Sm} (h : Qa W D E S T X o d d s s w) (f : Fit d s) (iv : Wr.Iv m d) (z : Dz d) : La W D E m S T w := by
  obtain ⟨F, G, v, a⟩ := h
  exact ⟨d, s, F, G, v, a.bt, f, iv, z⟩
theorem qn_end {W w : World} {D E X m : Nat} {o : Obj} {d : Dk} (h : Qn W D E X o d d w) (iv : Wr.Iv m d) (z : Dz d) : Ln W D E m w := by
  obtain ⟨F, G, u, _⟩ := h
  exact ⟨d, F, G, u, iv, z⟩
theorem lx_end {W w : World} {D E X m : Nat} {o : Obj} {d : Dk} {sv tv : Value} (h : Lx W D E X o d sv tv w) (iv : Wr.Iv m d) (z : Dz d) : Lp W D E m sv tv w := by
  rcases h with ⟨S, T, s, h1, h2, h3, h4⟩ | ⟨h1, h2, h3⟩
  · exact .inl ⟨S, T, h1, h2, qa_end h3 h4 iv z⟩
  · exact .inr ⟨h1, h2, qn_end h3 iv z⟩
theorem qn_lay {W w : World} {D E X : Nat} {o : Obj} {d e : Dk} (h : Qn W D E X o d e w) (a : Int) (x : ByteArray) :
    Calls Tryz.prog 6 #[.pointer (some ⟨D, 0, none⟩), .int .i64 a, .string x] w fun en w' => en = .returned (.tuple #[]) ∧ Qn W D E X o (d.lay a x) e w' := by
  obtain ⟨F, G, u, hx, hf, hg⟩ := h
  have hl := blk_lt hx
  refine (u.o1.lay a x).mono fun _ _ c => ⟨c.1, _, _, u.left c.2.1 c.2.2, (c.2.2.block X hl hf).trans hx, fun f => ?_, hg⟩
  exact f.elim hf fun c => by omega
theorem qn_layR {W w : World} {D E X : Nat} {o : Obj} {d e : Dk} (h : Qn W D E X o d e w) (a : Int) (x : ByteArray) (hz : x.size ≤ 140737488355328) :
    Calls Tryz.prog 7 #[.pointer (some ⟨E, 0, none⟩), .int .i64 a, .string x] w fun en w' => en = .returned (.tuple #[]) ∧ Qn W D E X o d (e.lay a x) w' := by
  obtain ⟨F, G, u, hx, hf, hg⟩ := h
  have hl := blk_lt hx
  obtain ⟨L, l⟩ := u.r
  refine (Wr.layR l a x hz).mono fun _ _ c => ⟨c.1, _, _, u.rightG c.2.1 c.2.2, (c.2.2.block X hl hg).trans hx, hf, fun g => ?_⟩
  exact g.elim hg fun c => by omega
theorem Lp.bel {W w : World} {D E m : Nat} {sv tv : Value} (h : Lp W D E m sv tv w) : Below W.heap.size W w := by
  rcases h with ⟨_, _, _, _, d, s, F, G, v, b, _⟩ | ⟨_, _, d, F, G, u, _⟩
  · exact b.du.o1.bel
  · exact u.o1.bel
theorem step_cells {W w : World} {ao : Option Addr} {n j : Nat} {A : Nat → Wsp.Sv} (h : Wsp.Steps W ao n A) (b : Below W.heap.size W w) (hj : j < n) :
    ∃ g off, ao = some ⟨g, off, none⟩ ∧ g < W.heap.size ∧ ∀ t v, (A j).cells[t]? = some v → w.cell? ⟨g, off + j * 9 + t, none⟩ = some v := by
  rcases h.2 with h | ⟨g, off, h1, h2, h3⟩
  · omega
  · exact ⟨g, off, h1, h2, fun t v hv => (b.cell (by exact h2)).trans (h3 j hj t v hv)⟩
theorem qa_start {W w : World} {D E m S T : Nat} (h : La W D E m S T w) (o : Obj) : ∃ d s, Qa W D E S T w.heap.size o d d s s (w.alloc o) ∧ Fit d s ∧ Wr.Iv m d ∧ Dz d := by
  obtain ⟨d, s, F, G, v, b, f, iv, z⟩ := h
  refine ⟨d, s, ⟨F, G, v, b.below ((Below.refl _ _).alloc (Nat.le_refl _) _), heap_alloc_new w o, fun c => ?_, fun c => ?_⟩, f, iv, z⟩
  · have := b.flt c; omega
  · have := b.glt c; omega
theorem qn_start {W w : World} {D E m : Nat} (h : Ln W D E m w) (o : Obj) : ∃ d, Qn W D E w.heap.size o d d (w.alloc o) ∧ Wr.Iv m d ∧ Dz d := by
  obtain ⟨d, F, G, u, iv, z⟩ := h
  refine ⟨d, ⟨F, G, u.below ((Below.refl _ _).alloc (Nat.le_refl _) _), heap_alloc_new w o, fun c => ?_, fun c => ?_⟩, iv, z⟩
  · have := Wr.one_lt u.o1 c; omega
  · have := u.rlt c; omega
theorem tm5 (n : Int) : n.tmod 5 = 0 ∨ n.tmod 5 = 1 ∨ n.tmod 5 = -1 ∨ n.tmod 5 = 2 ∨ n.tmod 5 = -2 ∨ n.tmod 5 = 3 ∨ n.tmod 5 = -3 ∨ n.tmod 5 = 4 ∨ n.tmod 5 = -4 := by
  rcases Int.le_total 0 n with h | h
  · rw [Int.tmod_eq_emod_of_nonneg h]
    omega
  · have e : n.tmod 5 = -((-n).tmod 5) := by rw [Int.neg_tmod]; omega
    rw [e, Int.tmod_eq_emod_of_nonneg (by omega : 0 ≤ -n)]
    omega
section
variable {W : World} {D E S T X : Nat} {o : Obj} {d : Dk} {s : Sm}
theorem eA0 : Hid (∀ W', Hid (Qa W D E S T X o d d s s W') → Calls Tryz.prog 12 #[.pointer (some ⟨D, 0, none⟩), .pointer (some ⟨E, 0, none⟩)] W' fun en w' => en = .returned (.bool true) ∧ Hid (Qa W D E S T X o d d s s w') ∧ w'.cell? ⟨T, 3, none⟩ = some (.int .i64 s.g)) := fun _ h => (q_same h.out).mono fun _ _ c => ⟨c.1, c.2, c.2.genR⟩
theorem eA1 (f : Fit d s) : Hid (∀ W', Hid (Qa W D E S T X o d d s s W') → Calls Tryz.prog 18 #[.pointer (some ⟨S, 0, none⟩)] W' fun en w' => en = .returned (.int .i64 s.left) ∧ Hid (Qa W D E S T X o d d s s w') ∧ w'.cell? ⟨T, 3, none⟩ = some (.int .i64 s.g)) := fun _ h => (q_left h.out f).mono fun _ _ c => ⟨c.1, c.2, c.2.genR⟩
theorem eA2 (f : Fit d s) : Hid (∀ W', Hid (Qa W D E S T X o d d s s W') → Calls Tryz.prog 19 #[.pointer (some ⟨T, 0, none⟩)] W' fun en w' => en = .returned (.int .i64 s.left) ∧ Hid (Qa W D E S T X o d d s s w') ∧ w'.cell? ⟨T, 3, none⟩ = some (.int .i64 s.g)) := fun _ h => (q_leftR h.out f).mono fun _ _ c => ⟨c.1, c.2, c.2.genR⟩
theorem eA3 : Hid (∀ W', Hid (Qa W D E S T X o d d s s W') → Calls Tryz.prog 20 #[.pointer (some ⟨S, 0, none⟩)] W' fun en w' => en = .returned (.int .i64 s.g) ∧ Hid (Qa W D E S T X o d d s s w') ∧ w'.cell? ⟨T, 3, none⟩ = some (.int .i64 s.g)) := fun _ h => (q_gen h.out).mono fun _ _ c => ⟨c.1, c.2, c.2.genR⟩
theorem eD0 : Hid (∀ W', Hid (Qn W D E X o d d W') → Calls Tryz.prog 12 #[.pointer (some ⟨D, 0, none⟩), .pointer (some ⟨E, 0, none⟩)] W' fun en w' => en = .returned (.bool true) ∧ Hid (Qn W D E X o d d w') ∧ True) := fun _ h => (qn_same h.out).mono fun _ _ c => ⟨c.1, c.2, trivial⟩
theorem eD1 : Hid (∀ W', Hid (Qn W D E X o d d W') → Calls Tryz.prog 18 #[.pointer none] W' fun en w' => en = .returned (.int .i64 0) ∧ Hid (Qn W D E X o d d w') ∧ True) := fun W' h => (leftN W').mono fun _ _ c => ⟨c.1, by rw [← c.2]; exact h, trivial⟩
theorem eD3 : Hid (∀ W', Hid (Qn W D E X o d d W') → Calls Tryz.prog 20 #[.pointer none] W' fun en w' => en = .returned (.int .i64 0) ∧ Hid (Qn W D E X o d d w') ∧ True) := fun W' h => (genN W').mono fun _ _ c => ⟨c.1, by rw [← c.2]; exact h, trivial⟩
end

set_option maxRecDepth 100000 in
set_option maxHeartbeats 16000000 in
theorem plays (z : Int) (img : ByteArray) (ao : Option Addr) (n cap : Nat) (A : Nat → Wsp.Sv) (w : World) (hz1 : -9223372036854775808 ≤ z) (hz2 : z < 9223372036854775808) (_ : img.size ≤ 140737488355328) (hcap : n ≤ cap) (_ : cap ≤ maxLen) (hA : Wsp.Steps w ao n A) :
    Calls Tryz.prog 3 #[.int .i64 z, .string img, .slice ao n cap] w fun e w' => e = .returned (.bool true) ∧ Below w.heap.size w w' := by
  obtain ⟨Z, hZ, hZ1, hZ2⟩ : ∃ Z : Int, min z 24 = Z ∧ -9223372036854775808 ≤ Z ∧ Z ≤ 24 := ⟨_, rfl, by omega, by omega⟩
  obtain ⟨u, hu, hu1, hu2⟩ : ∃ u : Nat, min (img.size : Int) 2000 = (u : Int) ∧ u ≤ 2000 ∧ u ≤ img.size := ⟨min img.size 2000, by omega, by omega, by omega⟩
  have k2 : min (n : Int) 40 = ((min n 40 : Nat) : Int) := by omega
  obtain ⟨kk, hkk⟩ : ∃ kk, kk = min n 40 := ⟨_, rfl⟩
  have hk40 : kk ≤ 40 := by omega
  have hkn : kk ≤ n := by omega
  rw [← hkk] at k2
  have HA := hid hA
  have hzz : (img.extract 0 u).size ≤ 140737488355328 := by rw [ByteArray.size_extract]; omega
  have C0 : Hid (∀ (V : World), Below w.heap.size w V → (∀ j, j < 2 → (V.alloc (.cells #[.int .i64 Z, .int .i64 4] 3)).cell? ⟨V.heap.size, 0 + j, none⟩ = some (.int .i64 (zf Z j)))) := fun V _ j hj => by
    have h := heap_alloc_new V (.cells #[.int .i64 Z, .int .i64 4] 3)
    obtain rfl | rfl : j = 0 ∨ j = 1 := by omega
    · exact blk_cell (l := [.int .i64 Z, .int .i64 4]) h (i := 0) rfl
    · exact blk_cell (l := [.int .i64 Z, .int .i64 4]) h (i := 1) rfl
  have bA : Below w.heap.size w (w.alloc (.cells #[.int .i64 Z, .int .i64 4] 3)) := (Below.refl w.heap.size w).alloc (Nat.le_refl _) _
  have CN := hid (One.new bA (some ⟨w.heap.size, 0, none⟩) 2 2 (zf Z) (by decide) (Nat.le_refl _) (fun j hj => ⟨_, _, rfl, by simp, C0.out w (Below.refl _ _) j hj⟩))
  have hx0 := hid (heap_alloc_new w (.cells #[.int .i64 Z, .int .i64 4] 3))
  have HKK := hid hkk
  clear hA hkk bA
  go_enter Tryz.func3, Tryz.ntmps3
  go_wp2_with fail
  refine CN.out.mono ?_
  rintro e w2 ⟨rfl, o2, b2⟩
  have O2 := hid o2
  have X2 := hid ((b2.block w.heap.size (by simp)).trans hx0.out)
  have CR := hid (Wr.new (some ⟨w2.heap.size, 0, none⟩) 2 2 (zf Z) (w2.alloc (.cells #[.int .i64 Z, .int .i64 4] 3)) (by decide) (fun j => by unfold zf; split <;> omega) (fun j hj => ⟨_, _, rfl, by simp, C0.out w2 o2.bel j hj⟩))
  clear o2 CN C0 hx0
  go_wp2_with fail
  refine CR.out.mono ?_
  rintro e w4 ⟨rfl, r4, b4⟩
  have DU : Hid (Wr.Du w w4 (w.heap.size + 1) (w2.heap.size + 1) (newD (zf Z) (min 2 8)) (newD (zf Z) (min 2 8)) (Gr no (w.alloc (.cells #[.int .i64 Z, .int .i64 4] 3)) w2) (Gr no (w2.alloc (.cells #[.int .i64 Z, .int .i64 4] 3)) w4)) := by
    have bb : Below w2.heap.size w2 (w2.alloc (.cells #[.int .i64 Z, .int .i64 4] 3)) := (Below.refl _ _).alloc (Nat.le_refl _) _
    have o3 := O2.out.below bb
    have h3 := O2.out.bel.size
    refine ⟨by have := o3.below b4; simpa using this, by simpa using r4, fun b hb => ?_, fun b hf hg => ?_⟩
    · rcases hb with hb | hb
      · exact absurd hb id
      · have := hb.1; simp at this; omega
    · rcases hf with hf | hf
      · exact hf
      · rcases hg with hg | hg
        · exact hg
        · have := hf.2; have := hg.1; simp at this; omega
  have X4 := hid ((b4.block w.heap.size (by have := blk_lt X2.out; simp; omega)).trans ((Below.heap_alloc w2 _ _ (blk_lt X2.out)).trans X2.out))
  have hs2 := O2.out.bel.size
  clear r4 b4 CR O2 X2
  have QN0 : Hid (Qn w (w.heap.size + 1) (w2.heap.size + 1) w.heap.size (.cells #[.int .i64 Z, .int .i64 4] 3 (0, 0)) (newD (zf Z) (min 2 8)) (newD (zf Z) (min 2 8)) w4) := by
    refine ⟨_, _, DU.out, X4.out, fun f => ?_, fun g => ?_⟩
    · rcases f with f | f
      · exact f
      · have := f.1; simp at this; omega
    · rcases g with g | g
      · exact g
      · have := g.1; simp at this; omega
  have IV0 : Hid (Wr.Iv 0 (newD (zf Z) (min 2 8))) := ⟨q_new, fun h => by cases h⟩
  have DZ0 := hid (dz_new Z)
  rw [World.size_alloc]
  clear DU X4 hs2
  generalize newD (zf Z) (min 2 8) = d0 at *
  generalize hO : Obj.cells #[.int .i64 Z, .int .i64 4] 3 (0, 0) = ob at QN0
  clear hO
  go_wp2_with fail
  generalize img.extract 0 u = I at *
  refine (qn_lay QN0.out 0 I).mono ?_
  rintro e w5 ⟨rfl, q5⟩
  have CL2 := hid (qn_layR q5 0 I hzz)
  clear q5 QN0
  go_wp2_with fail
  refine CL2.out.mono ?_
  rintro e w6 ⟨rfl, q6⟩
  have IV1 := hid (IV0.out.lay 0 I)
  have DZ1 := hid (DZ0.out.ms (ms_lay d0 0 I))
  have Q6 := hid q6
  clear q6 CL2 IV0 DZ0
  generalize d0.lay 0 I = d1 at *
  have CO := hid (p_open Q6.out IV1.out (by decide))
  go_wp2_with fail
  refine CO.out.mono ?_
  rintro e w7 ⟨sv, a1, n1, c1, rfl, pc⟩
  have CO2 := hid (p_openR pc.out IV1.out (by decide) DZ1.out)
  have IV2 := hid (Wdc.iv_open IV1.out 0 (DZ1.out.2 0 DZ1.out.1))
  have DZ2 := hid (DZ1.out.ms (ms_open (a := 0) (DZ1.out.2 0 DZ1.out.1)))
  clear pc CO Q6
  generalize opX d1 0 = x1 at *
  go_wp2_with fail
  refine CO2.out.mono ?_
  rintro e w8 ⟨tv, a2, n2, c2, rfl, pd⟩
  clear CO2
  go_wp2_with fail
  refine (wakes w8).mono ?_
  rintro e w9 ⟨rfl, b9⟩
  have EQ := hid (p_equal (pd.out.below b9) c1 c2)
  clear pd b9
  go_wp2_with fail
  refine EQ.out.mono ?_
  rintro e w10 ⟨rfl, lx⟩
  have SM := hid (p_same lx.out)
  clear lx EQ
  go_wp2_with fail
  refine SM.out.mono ?_
  rintro e w11 ⟨rfl, q11⟩
  have LP : Hid (Lp w (w.heap.size + 1) (w2.heap.size + 1) 2061 sv tv w11) := lx_end q11 IV2.out DZ2.out
  clear q11 SM IV2 DZ2 IV1 DZ1
  go_wp2
  go_loopw [9, 10, 11, 12, 13, 14, 73] (fun sv lv ev tv mv fv iv wr => ∃ j : Nat, j ≤ kk ∧ iv = .int .i64 (j : Int) ∧ Lp w (w.heap.size + 1) (w2.heap.size + 1) (2061 + j * 2061) sv tv wr) (fun _ _ _ _ _ _ iv _ => kk - (intOf iv).toNat)
  case atStart => exact ⟨0, Nat.zero_le _, rfl, LP.out⟩
  case round =>
    clear LP
    obtain ⟨j, hj, rfl, lp⟩ := hrel
    have BL := hid lp.bel
    by_cases hlt : j < kk
    · obtain ⟨g, off, rfl, hg, hcc⟩ := step_cells HA.out lp.bel (by omega : j < n)
      have ok := hid (HA.out.1 j (by omega))
      have k0 := hcc 0 _ rfl
      have k1 := hcc 1 _ rfl
      have k2' := hcc 2 _ rfl
      have k3 := hcc 3 _ rfl
      have k4 := hcc 4 _ rfl
      have k5 := hcc 5 _ rfl
      have k6 := hcc 6 _ rfl
      have k7 := hcc 7 _ rfl
      have k8 := hcc 8 _ rfl
      rw [Nat.add_zero] at k0
      clear hcc
      obtain ⟨ub, hub, hub1, hub2⟩ : ∃ u : Nat, min ((A j).body.size : Int) 5000 = (u : Int) ∧ u ≤ 5000 ∧ u ≤ (A j).body.size := ⟨min (A j).body.size 5000, by omega, by omega, by omega⟩
      obtain ⟨un, hun, hun1, hun2⟩ : ∃ u : Nat, min ((A j).bn : Int) 10 = (u : Int) ∧ u ≤ 10 ∧ u ≤ (A j).bn := ⟨min (A j).bn 10, by omega, by omega, by omega⟩
      have hunc : (un : Int) ≤ ((A j).bc : Int) := by have := ok.out.bc; omega
      have hbn := ok.out.bc
      have hbs := ok.out.body
      have hB : ((A j).body.extract 0 ub).size ≤ maxLen := by rw [ByteArray.size_extract]; unfold maxLen; omega
      have Hm : Hid (2061 + j * 2061 ≤ 900000) := by show _ ≤ _; omega
      obtain ⟨l, hl, hls, hll⟩ : ∃ l : List ByteArray, l.length = un ∧ (∀ b ∈ l, b.size ≤ maxLen) ∧ War.Lies w (A j).ba l.length (nth l) := by
        refine ⟨(List.range un).map (A j).y, by simp, fun b hb => ?_, ?_⟩
        · obtain ⟨i, _, rfl⟩ := List.mem_map.1 hb
          exact ok.out.y i
        · rcases ok.out.lie with h | ⟨b, o, h1, h2, h3⟩
          · exact .inl (by simp; omega)
          · refine .inr ⟨b, o, h1, h2, fun i hi => ?_⟩
            have hi' : i < un := by simpa using hi
            rw [h3 i (by omega), nth_get hi]
            simp
      have HL := hid hl
      have HLS := hid hls
      have HLL := hid hll
      clear hl hls hll
      rcases lp with ⟨S', T', rfl, rfl, la⟩ | ⟨rfl, rfl, ln⟩
      · obtain ⟨d, s, qa, ft, iv, dz⟩ := qa_start la (Obj.cells #[.int .i64 (A j).what, .string ((A j).body.extract 0 ub), .slice (A j).ba un (A j).bc, .int .i64 (A j).on.act, .int .i64 (A j).on.reg, .int .i64 (A j).on.sec, .int .i64 (A j).on.num, .string (A j).on.data, .slice (A j).on.ka (A j).on.K.length (A j).on.kc] 45 (0, 0))
        have QA := hid qa
        have FT := hid ft
        have IV := hid iv
        have DZ := hid dz
        have hh : s.h ≤ 2047 := by have h1 := ft.sw.h; have h2 := dz.2 s.i ft.sw.hi; omega
        clear qa la ft iv dz
        rcases tm5 (A j).what with hr | hr | hr | hr | hr | hr | hr | hr | hr
        · as_aux_lemma =>
          have C1 : Hid (∀ W', Hid (Qa w (w.heap.size + 1) (w2.heap.size + 1) S' T' wr.heap.size (Obj.cells #[.int .i64 (A j).what, .string ((A j).body.extract 0 ub), .slice (A j).ba un (A j).bc, .int .i64 (A j).on.act, .int .i64 (A j).on.reg, .int .i64 (A j).on.sec, .int .i64 (A j).on.num, .string (A j).on.data, .slice (A j).on.ka (A j).on.K.length (A j).on.kc] 45 (0, 0)) d d s s W') → Calls Tryz.prog 16 #[.pointer (some ⟨S', 0, none⟩), .string ((A j).body.extract 0 ub)] W' fun en w' => en = .returned (.int .i64 (s.apX ((A j).body.extract 0 ub) d)) ∧ Hid (Qa w (w.heap.size + 1) (w2.heap.size + 1) S' T' wr.heap.size (Obj.cells #[.int .i64 (A j).what, .string ((A j).body.extract 0 ub), .slice (A j).ba un (A j).bc, .int .i64 (A j).on.act, .int .i64 (A j).on.reg, .int .i64 (A j).on.sec, .int .i64 (A j).on.num, .string (A j).on.data, .slice (A j).on.ka (A j).on.K.length (A j).on.kc] 45 (0, 0)) (s.apD ((A j).body.extract 0 ub) d) d (s.apS ((A j).body.extract 0 ub) d) s w') ∧ w'.cell? ⟨wr.heap.size, 1, none⟩ = some (.string ((A j).body.extract 0 ub))) := fun _ h => (q_append h.out FT.out IV.out Hm.out _ hB).mono fun _ _ c => ⟨c.1, c.2, blk_cell c.2.x (i := 1) rfl⟩
          have C2 : Hid (∀ W', Hid (Qa w (w.heap.size + 1) (w2.heap.size + 1) S' T' wr.heap.size (Obj.cells #[.int .i64 (A j).what, .string ((A j).body.extract 0 ub), .slice (A j).ba un (A j).bc, .int .i64 (A j).on.act, .int .i64 (A j).on.reg, .int .i64 (A j).on.sec, .int .i64 (A j).on.num, .string (A j).on.data, .slice (A j).on.ka (A j).on.K.length (A j).on.kc] 45 (0, 0)) (s.apD ((A j).body.extract 0 ub) d) d (s.apS ((A j).body.extract 0 ub) d) s W') → Calls Tryz.prog 17 #[.pointer (some ⟨T', 0, none⟩), .string ((A j).body.extract 0 ub)] W' fun en w' => en = .returned (.int .i64 (s.apX ((A j).body.extract 0 ub) d)) ∧ Hid (Qa w (w.heap.size + 1) (w2.heap.size + 1) S' T' wr.heap.size (Obj.cells #[.int .i64 (A j).what, .string ((A j).body.extract 0 ub), .slice (A j).ba un (A j).bc, .int .i64 (A j).on.act, .int .i64 (A j).on.reg, .int .i64 (A j).on.sec, .int .i64 (A j).on.num, .string (A j).on.data, .slice (A j).on.ka (A j).on.K.length (A j).on.kc] 45 (0, 0)) (s.apD ((A j).body.extract 0 ub) d) (s.apD ((A j).body.extract 0 ub) d) (s.apS ((A j).body.extract 0 ub) d) (s.apS ((A j).body.extract 0 ub) d) w') ∧ w'.cell? ⟨wr.heap.size, 1, none⟩ = some (.string ((A j).body.extract 0 ub))) := fun _ h => (q_appendR h.out FT.out IV.out Hm.out _ hB).mono fun _ _ c => ⟨c.1, c.2, blk_cell c.2.x (i := 1) rfl⟩
          have BB := hid (QA.out.below (Below.refl _ _).drew)
          have hS := blk_cell QA.out.x (i := 1) rfl
          have FT' := hid (FT.out.append ((A j).body.extract 0 ub))
          have IV' := hid (iv_append IV.out s ((A j).body.extract 0 ub))
          have DZ' := hid (DZ.out.ms (Ms.append s ((A j).body.extract 0 ub) d))
          generalize s.apX ((A j).body.extract 0 ub) d = xx at *
          generalize s.apD ((A j).body.extract 0 ub) d = d' at *
          generalize s.apS ((A j).body.extract 0 ub) d = s' at *
          clear QA
          go_wp2_with fail
          go_region_held3 (fun w' => w'.cell? ⟨wr.heap.size, 1, none⟩ = some (.string ((A j).body.extract 0 ub))) (first | exact hS | go_keep)
            (first | (go_at_call 16; refine (C1.out _ BB).mono ?_; clear BB hS; rintro e w12 ⟨rfl, BB, hS⟩) | (go_at_call 17; refine (C2.out _ BB).mono ?_; clear BB hS; rintro e w13 ⟨rfl, BB, hS⟩))
          clear C1 C2 hS
          go_wp2_with fail
          refine r38a (S' := S') (T' := T') (lf := Sm.left s') (gg := Sm.g s') (fun W' => Qa w (w.heap.size + 1) (w2.heap.size + 1) S' T' wr.heap.size (Obj.cells #[.int .i64 (A j).what, .string ((A j).body.extract 0 ub), .slice (A j).ba un (A j).bc, .int .i64 (A j).on.act, .int .i64 (A j).on.reg, .int .i64 (A j).on.sec, .int .i64 (A j).on.num, .string (A j).on.data, .slice (A j).on.ka (A j).on.K.length (A j).on.kc] 45 (0, 0)) d' d' s' s' W') eA0 (eA1 FT'.out) (eA2 FT'.out) eA3 (hid (BB.out.below (Below.refl _ _).drew)) BB.out.genR ?_
          intro w99 P9
          go_wp2_with fail
          exact ⟨⟨j + 1, by omega, by go_num, .inl ⟨S', T', rfl, rfl, qa_end P9.out FT'.out (iv_le IV'.out (by omega)) DZ'.out⟩⟩, by simp [intOf]; omega⟩
        · as_aux_lemma =>
          have C1 : Hid (∀ W', Hid (Qa w (w.heap.size + 1) (w2.heap.size + 1) S' T' wr.heap.size (Obj.cells #[.int .i64 (A j).what, .string ((A j).body.extract 0 ub), .slice (A j).ba un (A j).bc, .int .i64 (A j).on.act, .int .i64 (A j).on.reg, .int .i64 (A j).on.sec, .int .i64 (A j).on.num, .string (A j).on.data, .slice (A j).on.ka (A j).on.K.length (A j).on.kc] 45 (0, 0)) d d s s W') → Calls Tryz.prog 13 #[.pointer (some ⟨S', 0, none⟩), .slice (A j).ba un (A j).bc] W' fun en w' => en = .returned (.int .i64 (s.rX l d)) ∧ Hid (Qa w (w.heap.size + 1) (w2.heap.size + 1) S' T' wr.heap.size (Obj.cells #[.int .i64 (A j).what, .string ((A j).body.extract 0 ub), .slice (A j).ba un (A j).bc, .int .i64 (A j).on.act, .int .i64 (A j).on.reg, .int .i64 (A j).on.sec, .int .i64 (A j).on.num, .string (A j).on.data, .slice (A j).on.ka (A j).on.K.length (A j).on.kc] 45 (0, 0)) (s.rD l d) d (s.rS l d) s w') ∧ w'.cell? ⟨wr.heap.size, 2, none⟩ = some (.slice (A j).ba un (A j).bc)) := fun _ h => by have k := q_reset h.out FT.out IV.out Hm.out l (A j).ba (A j).bc HLS.out (by rw [HL.out]; exact hun1) HLL.out; rw [HL.out] at k; exact k.mono fun _ _ c => ⟨c.1, c.2, blk_cell c.2.x (i := 2) rfl⟩
          have C2 : Hid (∀ W', Hid (Qa w (w.heap.size + 1) (w2.heap.size + 1) S' T' wr.heap.size (Obj.cells #[.int .i64 (A j).what, .string ((A j).body.extract 0 ub), .slice (A j).ba un (A j).bc, .int .i64 (A j).on.act, .int .i64 (A j).on.reg, .int .i64 (A j).on.sec, .int .i64 (A j).on.num, .string (A j).on.data, .slice (A j).on.ka (A j).on.K.length (A j).on.kc] 45 (0, 0)) (s.rD l d) d (s.rS l d) s W') → Calls Tryz.prog 14 #[.pointer (some ⟨T', 0, none⟩), .slice (A j).ba un (A j).bc] W' fun en w' => en = .returned (.int .i64 (s.rX l d)) ∧ Hid (Qa w (w.heap.size + 1) (w2.heap.size + 1) S' T' wr.heap.size (Obj.cells #[.int .i64 (A j).what, .string ((A j).body.extract 0 ub), .slice (A j).ba un (A j).bc, .int .i64 (A j).on.act, .int .i64 (A j).on.reg, .int .i64 (A j).on.sec, .int .i64 (A j).on.num, .string (A j).on.data, .slice (A j).on.ka (A j).on.K.length (A j).on.kc] 45 (0, 0)) (s.rD l d) (s.rD l d) (s.rS l d) (s.rS l d) w') ∧ w'.cell? ⟨wr.heap.size, 2, none⟩ = some (.slice (A j).ba un (A j).bc)) := fun _ h => by have k := q_resetR h.out FT.out IV.out Hm.out l (A j).ba (A j).bc HLS.out (by rw [HL.out]; exact hun1) HLL.out; rw [HL.out] at k; exact k.mono fun _ _ c => ⟨c.1, c.2, blk_cell c.2.x (i := 2) rfl⟩
          have BB := hid (QA.out.below (Below.refl _ _).drew)
          have hS := blk_cell QA.out.x (i := 2) rfl
          have FT' := hid (FT.out.reset hh l)
          have IV' := hid (iv_reset IV.out s l hh)
          have DZ' := hid (DZ.out.ms (Ms.reset s l d (.inr hh)))
          generalize s.rX l d = xx at *
          generalize s.rD l d = d' at *
          generalize s.rS l d = s' at *
          clear QA
          go_wp2_with fail
          go_region_held3 (fun w' => w'.cell? ⟨wr.heap.size, 2, none⟩ = some (.slice (A j).ba un (A j).bc)) (first | exact hS | go_keep)
            (first | (go_at_call 13; refine (C1.out _ BB).mono ?_; clear BB hS; rintro e w12 ⟨rfl, BB, hS⟩) | (go_at_call 14; refine (C2.out _ BB).mono ?_; clear BB hS; rintro e w13 ⟨rfl, BB, hS⟩))
          clear C1 C2 hS
          go_wp2_with fail
          refine r38a (S' := S') (T' := T') (lf := Sm.left s') (gg := Sm.g s') (fun W' => Qa w (w.heap.size + 1) (w2.heap.size + 1) S' T' wr.heap.size (Obj.cells #[.int .i64 (A j).what, .string ((A j).body.extract 0 ub), .slice (A j).ba un (A j).bc, .int .i64 (A j).on.act, .int .i64 (A j).on.reg, .int .i64 (A j).on.sec, .int .i64 (A j).on.num, .string (A j).on.data, .slice (A j).on.ka (A j).on.K.length (A j).on.kc] 45 (0, 0)) d' d' s' s' W') eA0 (eA1 FT'.out) (eA2 FT'.out) eA3 (hid (BB.out.below (Below.refl _ _).drew)) BB.out.genR ?_
          intro w99 P9
          go_wp2_with fail
          exact ⟨⟨j + 1, by omega, by go_num, .inl ⟨S', T', rfl, rfl, qa_end P9.out FT'.out (iv_le IV'.out (by omega)) DZ'.out⟩⟩, by simp [intOf]; omega⟩
        · as_aux_lemma =>
          have C1 : Hid (∀ W', Hid (Qa w (w.heap.size + 1) (w2.heap.size + 1) S' T' wr.heap.size (Obj.cells #[.int .i64 (A j).what, .string ((A j).body.extract 0 ub), .slice (A j).ba un (A j).bc, .int .i64 (A j).on.act, .int .i64 (A j).on.reg, .int .i64 (A j).on.sec, .int .i64 (A j).on.num, .string (A j).on.data, .slice (A j).on.ka (A j).on.K.length (A j).on.kc] 45 (0, 0)) d d s s W') → Calls Tryz.prog 13 #[.pointer (some ⟨S', 0, none⟩), .slice (A j).ba un (A j).bc] W' fun en w' => en = .returned (.int .i64 (s.rX l d)) ∧ Hid (Qa w (w.heap.size + 1) (w2.heap.size + 1) S' T' wr.heap.size (Obj.cells #[.int .i64 (A j).what, .string ((A j).body.extract 0 ub), .slice (A j).ba un (A j).bc, .int .i64 (A j).on.act, .int .i64 (A j).on.reg, .int .i64 (A j).on.sec, .int .i64 (A j).on.num, .string (A j).on.data, .slice (A j).on.ka (A j).on.K.length (A j).on.kc] 45 (0, 0)) (s.rD l d) d (s.rS l d) s w') ∧ w'.cell? ⟨wr.heap.size, 2, none⟩ = some (.slice (A j).ba un (A j).bc)) := fun _ h => by have k := q_reset h.out FT.out IV.out Hm.out l (A j).ba (A j).bc HLS.out (by rw [HL.out]; exact hun1) HLL.out; rw [HL.out] at k; exact k.mono fun _ _ c => ⟨c.1, c.2, blk_cell c.2.x (i := 2) rfl⟩
          have C2 : Hid (∀ W', Hid (Qa w (w.heap.size + 1) (w2.heap.size + 1) S' T' wr.heap.size (Obj.cells #[.int .i64 (A j).what, .string ((A j).body.extract 0 ub), .slice (A j).ba un (A j).bc, .int .i64 (A j).on.act, .int .i64 (A j).on.reg, .int .i64 (A j).on.sec, .int .i64 (A j).on.num, .string (A j).on.data, .slice (A j).on.ka (A j).on.K.length (A j).on.kc] 45 (0, 0)) (s.rD l d) d (s.rS l d) s W') → Calls Tryz.prog 14 #[.pointer (some ⟨T', 0, none⟩), .slice (A j).ba un (A j).bc] W' fun en w' => en = .returned (.int .i64 (s.rX l d)) ∧ Hid (Qa w (w.heap.size + 1) (w2.heap.size + 1) S' T' wr.heap.size (Obj.cells #[.int .i64 (A j).what, .string ((A j).body.extract 0 ub), .slice (A j).ba un (A j).bc, .int .i64 (A j).on.act, .int .i64 (A j).on.reg, .int .i64 (A j).on.sec, .int .i64 (A j).on.num, .string (A j).on.data, .slice (A j).on.ka (A j).on.K.length (A j).on.kc] 45 (0, 0)) (s.rD l d) (s.rD l d) (s.rS l d) (s.rS l d) w') ∧ w'.cell? ⟨wr.heap.size, 2, none⟩ = some (.slice (A j).ba un (A j).bc)) := fun _ h => by have k := q_resetR h.out FT.out IV.out Hm.out l (A j).ba (A j).bc HLS.out (by rw [HL.out]; exact hun1) HLL.out; rw [HL.out] at k; exact k.mono fun _ _ c => ⟨c.1, c.2, blk_cell c.2.x (i := 2) rfl⟩
          have BB := hid (QA.out.below (Below.refl _ _).drew)
          have hS := blk_cell QA.out.x (i := 2) rfl
          have FT' := hid (FT.out.reset hh l)
          have IV' := hid (iv_reset IV.out s l hh)
          have DZ' := hid (DZ.out.ms (Ms.reset s l d (.inr hh)))
          generalize s.rX l d = xx at *
          generalize s.rD l d = d' at *
          generalize s.rS l d = s' at *
          clear QA
          go_wp2_with fail
          go_region_held3 (fun w' => w'.cell? ⟨wr.heap.size, 2, none⟩ = some (.slice (A j).ba un (A j).bc)) (first | exact hS | go_keep)
            (first | (go_at_call 13; refine (C1.out _ BB).mono ?_; clear BB hS; rintro e w12 ⟨rfl, BB, hS⟩) | (go_at_call 14; refine (C2.out _ BB).mono ?_; clear BB hS; rintro e w13 ⟨rfl, BB, hS⟩))
          clear C1 C2 hS
          go_wp2_with fail
          refine r38a (S' := S') (T' := T') (lf := Sm.left s') (gg := Sm.g s') (fun W' => Qa w (w.heap.size + 1) (w2.heap.size + 1) S' T' wr.heap.size (Obj.cells #[.int .i64 (A j).what, .string ((A j).body.extract 0 ub), .slice (A j).ba un (A j).bc, .int .i64 (A j).on.act, .int .i64 (A j).on.reg, .int .i64 (A j).on.sec, .int .i64 (A j).on.num, .string (A j).on.data, .slice (A j).on.ka (A j).on.K.length (A j).on.kc] 45 (0, 0)) d' d' s' s' W') eA0 (eA1 FT'.out) (eA2 FT'.out) eA3 (hid (BB.out.below (Below.refl _ _).drew)) BB.out.genR ?_
          intro w99 P9
          go_wp2_with fail
          exact ⟨⟨j + 1, by omega, by go_num, .inl ⟨S', T', rfl, rfl, qa_end P9.out FT'.out (iv_le IV'.out (by omega)) DZ'.out⟩⟩, by simp [intOf]; omega⟩
        · as_aux_lemma =>
          have CO := hid (p_open QA.out.dead IV.out Hm.out)
          have IV2 := hid (Wdc.iv_open IV.out 0 (DZ.out.2 0 DZ.out.1))
          have DZ2 := hid (DZ.out.ms (ms_open (a := 0) (DZ.out.2 0 DZ.out.1)))
          go_wp2_with fail
          refine CO.out.mono ?_
          rintro e w12 ⟨sv2, b1, m1, e1, rfl, pc⟩
          have CO2 := hid (p_openR pc.out IV.out Hm.out DZ.out)
          clear pc CO
          generalize opX d 0 = x2 at *
          go_wp2_with fail
          refine CO2.out.mono ?_
          rintro e w13 ⟨tv2, b2, m2, e2, rfl, pd⟩
          have EQ := hid (p_equal pd.out e1 e2)
          clear pd CO2
          generalize opD d 0 = d' at *
          go_wp2_with fail
          refine EQ.out.mono ?_
          rintro e w14 ⟨rfl, lx⟩
          clear EQ
          rcases lx.out with ⟨S2, T2, s', rfl, rfl, q14, f14⟩ | ⟨rfl, rfl, q14⟩
          · have BB := hid q14
            have FT' := hid f14
            clear q14 f14 lx
            go_wp2_with fail
            refine r38a (S' := S2) (T' := T2) (lf := Sm.left s') (gg := Sm.g s') (fun W' => Qa w (w.heap.size + 1) (w2.heap.size + 1) S2 T2 wr.heap.size (Obj.cells #[.int .i64 (A j).what, .string ((A j).body.extract 0 ub), .slice (A j).ba un (A j).bc, .int .i64 (A j).on.act, .int .i64 (A j).on.reg, .int .i64 (A j).on.sec, .int .i64 (A j).on.num, .string (A j).on.data, .slice (A j).on.ka (A j).on.K.length (A j).on.kc] 45 (0, 0)) d' d' s' s' W') eA0 (eA1 FT'.out) (eA2 FT'.out) eA3 (hid (BB.out.below (Below.refl _ _).drew)) BB.out.genR ?_
            intro w99 P9
            go_wp2_with fail
            exact ⟨⟨j + 1, by omega, by go_num, .inl ⟨S2, T2, rfl, rfl, qa_end P9.out FT'.out (iv_le IV2.out (by omega)) DZ2.out⟩⟩, by simp [intOf]; omega⟩
          · have BB := hid q14
            clear q14 lx
            go_wp2_with fail
            refine r38d (fun W' => Qn w (w.heap.size + 1) (w2.heap.size + 1) wr.heap.size (Obj.cells #[.int .i64 (A j).what, .string ((A j).body.extract 0 ub), .slice (A j).ba un (A j).bc, .int .i64 (A j).on.act, .int .i64 (A j).on.reg, .int .i64 (A j).on.sec, .int .i64 (A j).on.num, .string (A j).on.data, .slice (A j).on.ka (A j).on.K.length (A j).on.kc] 45 (0, 0)) d' d' W') eD0 eD1 eD3 (hid (BB.out.below (Below.refl _ _).drew)) trivial ?_
            intro w99 P9
            go_wp2_with fail
            exact ⟨⟨j + 1, by omega, by go_num, .inr ⟨rfl, rfl, qn_end P9.out (iv_le IV2.out (by omega)) DZ2.out⟩⟩, by simp [intOf]; omega⟩
        · as_aux_lemma =>
          have CO := hid (p_open QA.out.dead IV.out Hm.out)
          have IV2 := hid (Wdc.iv_open IV.out 0 (DZ.out.2 0 DZ.out.1))
          have DZ2 := hid (DZ.out.ms (ms_open (a := 0) (DZ.out.2 0 DZ.out.1)))
          go_wp2_with fail
          refine CO.out.mono ?_
          rintro e w12 ⟨sv2, b1, m1, e1, rfl, pc⟩
          have CO2 := hid (p_openR pc.out IV.out Hm.out DZ.out)
          clear pc CO
          generalize opX d 0 = x2 at *
          go_wp2_with fail
          refine CO2.out.mono ?_
          rintro e w13 ⟨tv2, b2, m2, e2, rfl, pd⟩
          have EQ := hid (p_equal pd.out e1 e2)
          clear pd CO2
          generalize opD d 0 = d' at *
          go_wp2_with fail
          refine EQ.out.mono ?_
          rintro e w14 ⟨rfl, lx⟩
          clear EQ
          rcases lx.out with ⟨S2, T2, s', rfl, rfl, q14, f14⟩ | ⟨rfl, rfl, q14⟩
          · have BB := hid q14
            have FT' := hid f14
            clear q14 f14 lx
            go_wp2_with fail
            refine r38a (S' := S2) (T' := T2) (lf := Sm.left s') (gg := Sm.g s') (fun W' => Qa w (w.heap.size + 1) (w2.heap.size + 1) S2 T2 wr.heap.size (Obj.cells #[.int .i64 (A j).what, .string ((A j).body.extract 0 ub), .slice (A j).ba un (A j).bc, .int .i64 (A j).on.act, .int .i64 (A j).on.reg, .int .i64 (A j).on.sec, .int .i64 (A j).on.num, .string (A j).on.data, .slice (A j).on.ka (A j).on.K.length (A j).on.kc] 45 (0, 0)) d' d' s' s' W') eA0 (eA1 FT'.out) (eA2 FT'.out) eA3 (hid (BB.out.below (Below.refl _ _).drew)) BB.out.genR ?_
            intro w99 P9
            go_wp2_with fail
            exact ⟨⟨j + 1, by omega, by go_num, .inl ⟨S2, T2, rfl, rfl, qa_end P9.out FT'.out (iv_le IV2.out (by omega)) DZ2.out⟩⟩, by simp [intOf]; omega⟩
          · have BB := hid q14
            clear q14 lx
            go_wp2_with fail
            refine r38d (fun W' => Qn w (w.heap.size + 1) (w2.heap.size + 1) wr.heap.size (Obj.cells #[.int .i64 (A j).what, .string ((A j).body.extract 0 ub), .slice (A j).ba un (A j).bc, .int .i64 (A j).on.act, .int .i64 (A j).on.reg, .int .i64 (A j).on.sec, .int .i64 (A j).on.num, .string (A j).on.data, .slice (A j).on.ka (A j).on.K.length (A j).on.kc] 45 (0, 0)) d' d' W') eD0 eD1 eD3 (hid (BB.out.below (Below.refl _ _).drew)) trivial ?_
            intro w99 P9
            go_wp2_with fail
            exact ⟨⟨j + 1, by omega, by go_num, .inr ⟨rfl, rfl, qn_end P9.out (iv_le IV2.out (by omega)) DZ2.out⟩⟩, by simp [intOf]; omega⟩
        · as_aux_lemma =>
          have CA : Hid (∀ W', Qa w (w.heap.size + 1) (w2.heap.size + 1) S' T' wr.heap.size (Obj.cells #[.int .i64 (A j).what, .string ((A j).body.extract 0 ub), .slice (A j).ba un (A j).bc, .int .i64 (A j).on.act, .int .i64 (A j).on.reg, .int .i64 (A j).on.sec, .int .i64 (A j).on.num, .string (A j).on.data, .slice (A j).on.ka (A j).on.K.length (A j).on.kc] 45 (0, 0)) d d s s W' → Calls Tryz.prog 15 #[.pointer (some ⟨w.heap.size + 1, 0, none⟩), .pointer (some ⟨w2.heap.size + 1, 0, none⟩), .agg #[.int .i64 (A j).on.act, .int .i64 (A j).on.reg, .int .i64 (A j).on.sec, .int .i64 (A j).on.num, .string (A j).on.data, .slice (A j).on.ka (A j).on.K.length (A j).on.kc]] W' fun en w' => en = .returned (.bool true) ∧ ∃ d', Wr.Iv (2061 + j * 2061 + 1) d' ∧ Ms d 1 d' ∧ Qa w (w.heap.size + 1) (w2.heap.size + 1) S' T' wr.heap.size (Obj.cells #[.int .i64 (A j).what, .string ((A j).body.extract 0 ub), .slice (A j).ba un (A j).bc, .int .i64 (A j).on.act, .int .i64 (A j).on.reg, .int .i64 (A j).on.sec, .int .i64 (A j).on.num, .string (A j).on.data, .slice (A j).on.ka (A j).on.K.length (A j).on.kc] 45 (0, 0)) d' d' s s w') := fun _ h => q_act h IV.out Hm.out (A j).on ok.out.on
          go_wp2_with fail
          refine (CA.out _ QA.out).mono ?_
          rintro e w12 ⟨rfl, d', iv', ms', q12⟩
          have BB := hid q12
          have IV' := hid iv'
          have DZ' := hid (DZ.out.ms ms')
          have FT' := hid (FT.out.disk ms')
          clear q12 iv' ms' CA QA
          go_wp2_with fail
          refine r38a (S' := S') (T' := T') (lf := Sm.left s) (gg := Sm.g s) (fun W' => Qa w (w.heap.size + 1) (w2.heap.size + 1) S' T' wr.heap.size (Obj.cells #[.int .i64 (A j).what, .string ((A j).body.extract 0 ub), .slice (A j).ba un (A j).bc, .int .i64 (A j).on.act, .int .i64 (A j).on.reg, .int .i64 (A j).on.sec, .int .i64 (A j).on.num, .string (A j).on.data, .slice (A j).on.ka (A j).on.K.length (A j).on.kc] 45 (0, 0)) d' d' s s W') eA0 (eA1 FT'.out) (eA2 FT'.out) eA3 (hid (BB.out.below (Below.refl _ _).drew)) BB.out.genR ?_
          intro w99 P9
          go_wp2_with fail
          exact ⟨⟨j + 1, by omega, by go_num, .inl ⟨S', T', rfl, rfl, qa_end P9.out FT'.out (iv_le IV'.out (by omega)) DZ'.out⟩⟩, by simp [intOf]; omega⟩
        · as_aux_lemma =>
          have CA : Hid (∀ W', Qa w (w.heap.size + 1) (w2.heap.size + 1) S' T' wr.heap.size (Obj.cells #[.int .i64 (A j).what, .string ((A j).body.extract 0 ub), .slice (A j).ba un (A j).bc, .int .i64 (A j).on.act, .int .i64 (A j).on.reg, .int .i64 (A j).on.sec, .int .i64 (A j).on.num, .string (A j).on.data, .slice (A j).on.ka (A j).on.K.length (A j).on.kc] 45 (0, 0)) d d s s W' → Calls Tryz.prog 15 #[.pointer (some ⟨w.heap.size + 1, 0, none⟩), .pointer (some ⟨w2.heap.size + 1, 0, none⟩), .agg #[.int .i64 (A j).on.act, .int .i64 (A j).on.reg, .int .i64 (A j).on.sec, .int .i64 (A j).on.num, .string (A j).on.data, .slice (A j).on.ka (A j).on.K.length (A j).on.kc]] W' fun en w' => en = .returned (.bool true) ∧ ∃ d', Wr.Iv (2061 + j * 2061 + 1) d' ∧ Ms d 1 d' ∧ Qa w (w.heap.size + 1) (w2.heap.size + 1) S' T' wr.heap.size (Obj.cells #[.int .i64 (A j).what, .string ((A j).body.extract 0 ub), .slice (A j).ba un (A j).bc, .int .i64 (A j).on.act, .int .i64 (A j).on.reg, .int .i64 (A j).on.sec, .int .i64 (A j).on.num, .string (A j).on.data, .slice (A j).on.ka (A j).on.K.length (A j).on.kc] 45 (0, 0)) d' d' s s w') := fun _ h => q_act h IV.out Hm.out (A j).on ok.out.on
          go_wp2_with fail
          refine (CA.out _ QA.out).mono ?_
          rintro e w12 ⟨rfl, d', iv', ms', q12⟩
          have BB := hid q12
          have IV' := hid iv'
          have DZ' := hid (DZ.out.ms ms')
          have FT' := hid (FT.out.disk ms')
          clear q12 iv' ms' CA QA
          go_wp2_with fail
          refine r38a (S' := S') (T' := T') (lf := Sm.left s) (gg := Sm.g s) (fun W' => Qa w (w.heap.size + 1) (w2.heap.size + 1) S' T' wr.heap.size (Obj.cells #[.int .i64 (A j).what, .string ((A j).body.extract 0 ub), .slice (A j).ba un (A j).bc, .int .i64 (A j).on.act, .int .i64 (A j).on.reg, .int .i64 (A j).on.sec, .int .i64 (A j).on.num, .string (A j).on.data, .slice (A j).on.ka (A j).on.K.length (A j).on.kc] 45 (0, 0)) d' d' s s W') eA0 (eA1 FT'.out) (eA2 FT'.out) eA3 (hid (BB.out.below (Below.refl _ _).drew)) BB.out.genR ?_
          intro w99 P9
          go_wp2_with fail
          exact ⟨⟨j + 1, by omega, by go_num, .inl ⟨S', T', rfl, rfl, qa_end P9.out FT'.out (iv_le IV'.out (by omega)) DZ'.out⟩⟩, by simp [intOf]; omega⟩
        · as_aux_lemma =>
          have C1 : Hid (∀ W', Hid (Qa w (w.heap.size + 1) (w2.heap.size + 1) S' T' wr.heap.size (Obj.cells #[.int .i64 (A j).what, .string ((A j).body.extract 0 ub), .slice (A j).ba un (A j).bc, .int .i64 (A j).on.act, .int .i64 (A j).on.reg, .int .i64 (A j).on.sec, .int .i64 (A j).on.num, .string (A j).on.data, .slice (A j).on.ka (A j).on.K.length (A j).on.kc] 45 (0, 0)) d d s s W') → Calls Tryz.prog 16 #[.pointer (some ⟨S', 0, none⟩), .string ((A j).body.extract 0 ub)] W' fun en w' => en = .returned (.int .i64 (s.apX ((A j).body.extract 0 ub) d)) ∧ Hid (Qa w (w.heap.size + 1) (w2.heap.size + 1) S' T' wr.heap.size (Obj.cells #[.int .i64 (A j).what, .string ((A j).body.extract 0 ub), .slice (A j).ba un (A j).bc, .int .i64 (A j).on.act, .int .i64 (A j).on.reg, .int .i64 (A j).on.sec, .int .i64 (A j).on.num, .string (A j).on.data, .slice (A j).on.ka (A j).on.K.length (A j).on.kc] 45 (0, 0)) (s.apD ((A j).body.extract 0 ub) d) d (s.apS ((A j).body.extract 0 ub) d) s w') ∧ w'.cell? ⟨wr.heap.size, 1, none⟩ = some (.string ((A j).body.extract 0 ub))) := fun _ h => (q_append h.out FT.out IV.out Hm.out _ hB).mono fun _ _ c => ⟨c.1, c.2, blk_cell c.2.x (i := 1) rfl⟩
          have C2 : Hid (∀ W', Hid (Qa w (w.heap.size + 1) (w2.heap.size + 1) S' T' wr.heap.size (Obj.cells #[.int .i64 (A j).what, .string ((A j).body.extract 0 ub), .slice (A j).ba un (A j).bc, .int .i64 (A j).on.act, .int .i64 (A j).on.reg, .int .i64 (A j).on.sec, .int .i64 (A j).on.num, .string (A j).on.data, .slice (A j).on.ka (A j).on.K.length (A j).on.kc] 45 (0, 0)) (s.apD ((A j).body.extract 0 ub) d) d (s.apS ((A j).body.extract 0 ub) d) s W') → Calls Tryz.prog 17 #[.pointer (some ⟨T', 0, none⟩), .string ((A j).body.extract 0 ub)] W' fun en w' => en = .returned (.int .i64 (s.apX ((A j).body.extract 0 ub) d)) ∧ Hid (Qa w (w.heap.size + 1) (w2.heap.size + 1) S' T' wr.heap.size (Obj.cells #[.int .i64 (A j).what, .string ((A j).body.extract 0 ub), .slice (A j).ba un (A j).bc, .int .i64 (A j).on.act, .int .i64 (A j).on.reg, .int .i64 (A j).on.sec, .int .i64 (A j).on.num, .string (A j).on.data, .slice (A j).on.ka (A j).on.K.length (A j).on.kc] 45 (0, 0)) (s.apD ((A j).body.extract 0 ub) d) (s.apD ((A j).body.extract 0 ub) d) (s.apS ((A j).body.extract 0 ub) d) (s.apS ((A j).body.extract 0 ub) d) w') ∧ w'.cell? ⟨wr.heap.size, 1, none⟩ = some (.string ((A j).body.extract 0 ub))) := fun _ h => (q_appendR h.out FT.out IV.out Hm.out _ hB).mono fun _ _ c => ⟨c.1, c.2, blk_cell c.2.x (i := 1) rfl⟩
          have BB := hid (QA.out.below (Below.refl _ _).drew)
          have hS := blk_cell QA.out.x (i := 1) rfl
          have FT' := hid (FT.out.append ((A j).body.extract 0 ub))
          have IV' := hid (iv_append IV.out s ((A j).body.extract 0 ub))
          have DZ' := hid (DZ.out.ms (Ms.append s ((A j).body.extract 0 ub) d))
          generalize s.apX ((A j).body.extract 0 ub) d = xx at *
          generalize s.apD ((A j).body.extract 0 ub) d = d' at *
          generalize s.apS ((A j).body.extract 0 ub) d = s' at *
          clear QA
          go_wp2_with fail
          go_region_held3 (fun w' => w'.cell? ⟨wr.heap.size, 1, none⟩ = some (.string ((A j).body.extract 0 ub))) (first | exact hS | go_keep)
            (first | (go_at_call 16; refine (C1.out _ BB).mono ?_; clear BB hS; rintro e w12 ⟨rfl, BB, hS⟩) | (go_at_call 17; refine (C2.out _ BB).mono ?_; clear BB hS; rintro e w13 ⟨rfl, BB, hS⟩))
          clear C1 C2 hS
          go_wp2_with fail
          refine r38a (S' := S') (T' := T') (lf := Sm.left s') (gg := Sm.g s') (fun W' => Qa w (w.heap.size + 1) (w2.heap.size + 1) S' T' wr.heap.size (Obj.cells #[.int .i64 (A j).what, .string ((A j).body.extract 0 ub), .slice (A j).ba un (A j).bc, .int .i64 (A j).on.act, .int .i64 (A j).on.reg, .int .i64 (A j).on.sec, .int .i64 (A j).on.num, .string (A j).on.data, .slice (A j).on.ka (A j).on.K.length (A j).on.kc] 45 (0, 0)) d' d' s' s' W') eA0 (eA1 FT'.out) (eA2 FT'.out) eA3 (hid (BB.out.below (Below.refl _ _).drew)) BB.out.genR ?_
          intro w99 P9
          go_wp2_with fail
          exact ⟨⟨j + 1, by omega, by go_num, .inl ⟨S', T', rfl, rfl, qa_end P9.out FT'.out (iv_le IV'.out (by omega)) DZ'.out⟩⟩, by simp [intOf]; omega⟩
        · as_aux_lemma =>
          have C1 : Hid (∀ W', Hid (Qa w (w.heap.size + 1) (w2.heap.size + 1) S' T' wr.heap.size (Obj.cells #[.int .i64 (A j).what, .string ((A j).body.extract 0 ub), .slice (A j).ba un (A j).bc, .int .i64 (A j).on.act, .int .i64 (A j).on.reg, .int .i64 (A j).on.sec, .int .i64 (A j).on.num, .string (A j).on.data, .slice (A j).on.ka (A j).on.K.length (A j).on.kc] 45 (0, 0)) d d s s W') → Calls Tryz.prog 16 #[.pointer (some ⟨S', 0, none⟩), .string ((A j).body.extract 0 ub)] W' fun en w' => en = .returned (.int .i64 (s.apX ((A j).body.extract 0 ub) d)) ∧ Hid (Qa w (w.heap.size + 1) (w2.heap.size + 1) S' T' wr.heap.size (Obj.cells #[.int .i64 (A j).what, .string ((A j).body.extract 0 ub), .slice (A j).ba un (A j).bc, .int .i64 (A j).on.act, .int .i64 (A j).on.reg, .int .i64 (A j).on.sec, .int .i64 (A j).on.num, .string (A j).on.data, .slice (A j).on.ka (A j).on.K.length (A j).on.kc] 45 (0, 0)) (s.apD ((A j).body.extract 0 ub) d) d (s.apS ((A j).body.extract 0 ub) d) s w') ∧ w'.cell? ⟨wr.heap.size, 1, none⟩ = some (.string ((A j).body.extract 0 ub))) := fun _ h => (q_append h.out FT.out IV.out Hm.out _ hB).mono fun _ _ c => ⟨c.1, c.2, blk_cell c.2.x (i := 1) rfl⟩
          have C2 : Hid (∀ W', Hid (Qa w (w.heap.size + 1) (w2.heap.size + 1) S' T' wr.heap.size (Obj.cells #[.int .i64 (A j).what, .string ((A j).body.extract 0 ub), .slice (A j).ba un (A j).bc, .int .i64 (A j).on.act, .int .i64 (A j).on.reg, .int .i64 (A j).on.sec, .int .i64 (A j).on.num, .string (A j).on.data, .slice (A j).on.ka (A j).on.K.length (A j).on.kc] 45 (0, 0)) (s.apD ((A j).body.extract 0 ub) d) d (s.apS ((A j).body.extract 0 ub) d) s W') → Calls Tryz.prog 17 #[.pointer (some ⟨T', 0, none⟩), .string ((A j).body.extract 0 ub)] W' fun en w' => en = .returned (.int .i64 (s.apX ((A j).body.extract 0 ub) d)) ∧ Hid (Qa w (w.heap.size + 1) (w2.heap.size + 1) S' T' wr.heap.size (Obj.cells #[.int .i64 (A j).what, .string ((A j).body.extract 0 ub), .slice (A j).ba un (A j).bc, .int .i64 (A j).on.act, .int .i64 (A j).on.reg, .int .i64 (A j).on.sec, .int .i64 (A j).on.num, .string (A j).on.data, .slice (A j).on.ka (A j).on.K.length (A j).on.kc] 45 (0, 0)) (s.apD ((A j).body.extract 0 ub) d) (s.apD ((A j).body.extract 0 ub) d) (s.apS ((A j).body.extract 0 ub) d) (s.apS ((A j).body.extract 0 ub) d) w') ∧ w'.cell? ⟨wr.heap.size, 1, none⟩ = some (.string ((A j).body.extract 0 ub))) := fun _ h => (q_appendR h.out FT.out IV.out Hm.out _ hB).mono fun _ _ c => ⟨c.1, c.2, blk_cell c.2.x (i := 1) rfl⟩
          have BB := hid (QA.out.below (Below.refl _ _).drew)
          have hS := blk_cell QA.out.x (i := 1) rfl
          have FT' := hid (FT.out.append ((A j).body.extract 0 ub))
          have IV' := hid (iv_append IV.out s ((A j).body.extract 0 ub))
          have DZ' := hid (DZ.out.ms (Ms.append s ((A j).body.extract 0 ub) d))
          generalize s.apX ((A j).body.extract 0 ub) d = xx at *
          generalize s.apD ((A j).body.extract 0 ub) d = d' at *
          generalize s.apS ((A j).body.extract 0 ub) d = s' at *
          clear QA
          go_wp2_with fail
          go_region_held3 (fun w' => w'.cell? ⟨wr.heap.size, 1, none⟩ = some (.string ((A j).body.extract 0 ub))) (first | exact hS | go_keep)
            (first | (go_at_call 16; refine (C1.out _ BB).mono ?_; clear BB hS; rintro e w12 ⟨rfl, BB, hS⟩) | (go_at_call 17; refine (C2.out _ BB).mono ?_; clear BB hS; rintro e w13 ⟨rfl, BB, hS⟩))
          clear C1 C2 hS
          go_wp2_with fail
          refine r38a (S' := S') (T' := T') (lf := Sm.left s') (gg := Sm.g s') (fun W' => Qa w (w.heap.size + 1) (w2.heap.size + 1) S' T' wr.heap.size (Obj.cells #[.int .i64 (A j).what, .string ((A j).body.extract 0 ub), .slice (A j).ba un (A j).bc, .int .i64 (A j).on.act, .int .i64 (A j).on.reg, .int .i64 (A j).on.sec, .int .i64 (A j).on.num, .string (A j).on.data, .slice (A j).on.ka (A j).on.K.length (A j).on.kc] 45 (0, 0)) d' d' s' s' W') eA0 (eA1 FT'.out) (eA2 FT'.out) eA3 (hid (BB.out.below (Below.refl _ _).drew)) BB.out.genR ?_
          intro w99 P9
          go_wp2_with fail
          exact ⟨⟨j + 1, by omega, by go_num, .inl ⟨S', T', rfl, rfl, qa_end P9.out FT'.out (iv_le IV'.out (by omega)) DZ'.out⟩⟩, by simp [intOf]; omega⟩
      · obtain ⟨d, qn, iv, dz⟩ := qn_start ln (Obj.cells #[.int .i64 (A j).what, .string ((A j).body.extract 0 ub), .slice (A j).ba un (A j).bc, .int .i64 (A j).on.act, .int .i64 (A j).on.reg, .int .i64 (A j).on.sec, .int .i64 (A j).on.num, .string (A j).on.data, .slice (A j).on.ka (A j).on.K.length (A j).on.kc] 45 (0, 0))
        have QN := hid qn
        have IV := hid iv
        have DZ := hid dz
        clear qn ln iv dz
        rcases tm5 (A j).what with hr | hr | hr | hr | hr | hr | hr | hr | hr
        · as_aux_lemma =>
          go_wp2_with fail
          refine (appendN _ _).mono ?_
          rintro e w12 ⟨rfl, rfl⟩
          go_wp2_with fail
          refine r38d (fun W' => Qn w (w.heap.size + 1) (w2.heap.size + 1) wr.heap.size (Obj.cells #[.int .i64 (A j).what, .string ((A j).body.extract 0 ub), .slice (A j).ba un (A j).bc, .int .i64 (A j).on.act, .int .i64 (A j).on.reg, .int .i64 (A j).on.sec, .int .i64 (A j).on.num, .string (A j).on.data, .slice (A j).on.ka (A j).on.K.length (A j).on.kc] 45 (0, 0)) d d W') eD0 eD1 eD3 (hid (QN.out.below (Below.refl _ _).drew)) trivial ?_
          intro w99 P9
          go_wp2_with fail
          exact ⟨⟨j + 1, by omega, by go_num, .inr ⟨rfl, rfl, qn_end P9.out (iv_le IV.out (by omega)) DZ.out⟩⟩, by simp [intOf]; omega⟩
        · as_aux_lemma =>
          go_wp2_with fail
          refine (resetN _ _ _ _).mono ?_
          rintro e w12 ⟨rfl, rfl⟩
          go_wp2_with fail
          refine r38d (fun W' => Qn w (w.heap.size + 1) (w2.heap.size + 1) wr.heap.size (Obj.cells #[.int .i64 (A j).what, .string ((A j).body.extract 0 ub), .slice (A j).ba un (A j).bc, .int .i64 (A j).on.act, .int .i64 (A j).on.reg, .int .i64 (A j).on.sec, .int .i64 (A j).on.num, .string (A j).on.data, .slice (A j).on.ka (A j).on.K.length (A j).on.kc] 45 (0, 0)) d d W') eD0 eD1 eD3 (hid (QN.out.below (Below.refl _ _).drew)) trivial ?_
          intro w99 P9
          go_wp2_with fail
          exact ⟨⟨j + 1, by omega, by go_num, .inr ⟨rfl, rfl, qn_end P9.out (iv_le IV.out (by omega)) DZ.out⟩⟩, by simp [intOf]; omega⟩
        · as_aux_lemma =>
          go_wp2_with fail
          refine (resetN _ _ _ _).mono ?_
          rintro e w12 ⟨rfl, rfl⟩
          go_wp2_with fail
          refine r38d (fun W' => Qn w (w.heap.size + 1) (w2.heap.size + 1) wr.heap.size (Obj.cells #[.int .i64 (A j).what, .string ((A j).body.extract 0 ub), .slice (A j).ba un (A j).bc, .int .i64 (A j).on.act, .int .i64 (A j).on.reg, .int .i64 (A j).on.sec, .int .i64 (A j).on.num, .string (A j).on.data, .slice (A j).on.ka (A j).on.K.length (A j).on.kc] 45 (0, 0)) d d W') eD0 eD1 eD3 (hid (QN.out.below (Below.refl _ _).drew)) trivial ?_
          intro w99 P9
          go_wp2_with fail
          exact ⟨⟨j + 1, by omega, by go_num, .inr ⟨rfl, rfl, qn_end P9.out (iv_le IV.out (by omega)) DZ.out⟩⟩, by simp [intOf]; omega⟩
        · as_aux_lemma =>
          have CO := hid (p_open QN.out IV.out Hm.out)
          have IV2 := hid (Wdc.iv_open IV.out 0 (DZ.out.2 0 DZ.out.1))
          have DZ2 := hid (DZ.out.ms (ms_open (a := 0) (DZ.out.2 0 DZ.out.1)))
          go_wp2_with fail
          refine CO.out.mono ?_
          rintro e w12 ⟨sv2, b1, m1, e1, rfl, pc⟩
          have CO2 := hid (p_openR pc.out IV.out Hm.out DZ.out)
          clear pc CO
          generalize opX d 0 = x2 at *
          go_wp2_with fail
          refine CO2.out.mono ?_
          rintro e w13 ⟨tv2, b2, m2, e2, rfl, pd⟩
          have EQ := hid (p_equal pd.out e1 e2)
          clear pd CO2
          generalize opD d 0 = d' at *
          go_wp2_with fail
          refine EQ.out.mono ?_
          rintro e w14 ⟨rfl, lx⟩
          clear EQ
          rcases lx.out with ⟨S2, T2, s', rfl, rfl, q14, f14⟩ | ⟨rfl, rfl, q14⟩
          · have BB := hid q14
            have FT' := hid f14
            clear q14 f14 lx
            go_wp2_with fail
            refine r38a (S' := S2) (T' := T2) (lf := Sm.left s') (gg := Sm.g s') (fun W' => Qa w (w.heap.size + 1) (w2.heap.size + 1) S2 T2 wr.heap.size (Obj.cells #[.int .i64 (A j).what, .string ((A j).body.extract 0 ub), .slice (A j).ba un (A j).bc, .int .i64 (A j).on.act, .int .i64 (A j).on.reg, .int .i64 (A j).on.sec, .int .i64 (A j).on.num, .string (A j).on.data, .slice (A j).on.ka (A j).on.K.length (A j).on.kc] 45 (0, 0)) d' d' s' s' W') eA0 (eA1 FT'.out) (eA2 FT'.out) eA3 (hid (BB.out.below (Below.refl _ _).drew)) BB.out.genR ?_
            intro w99 P9
            go_wp2_with fail
            exact ⟨⟨j + 1, by omega, by go_num, .inl ⟨S2, T2, rfl, rfl, qa_end P9.out FT'.out (iv_le IV2.out (by omega)) DZ2.out⟩⟩, by simp [intOf]; omega⟩
          · have BB := hid q14
            clear q14 lx
            go_wp2_with fail
            refine r38d (fun W' => Qn w (w.heap.size + 1) (w2.heap.size + 1) wr.heap.size (Obj.cells #[.int .i64 (A j).what, .string ((A j).body.extract 0 ub), .slice (A j).ba un (A j).bc, .int .i64 (A j).on.act, .int .i64 (A j).on.reg, .int .i64 (A j).on.sec, .int .i64 (A j).on.num, .string (A j).on.data, .slice (A j).on.ka (A j).on.K.length (A j).on.kc] 45 (0, 0)) d' d' W') eD0 eD1 eD3 (hid (BB.out.below (Below.refl _ _).drew)) trivial ?_
            intro w99 P9
            go_wp2_with fail
            exact ⟨⟨j + 1, by omega, by go_num, .inr ⟨rfl, rfl, qn_end P9.out (iv_le IV2.out (by omega)) DZ2.out⟩⟩, by simp [intOf]; omega⟩
        · as_aux_lemma =>
          have CO := hid (p_open QN.out IV.out Hm.out)
          have IV2 := hid (Wdc.iv_open IV.out 0 (DZ.out.2 0 DZ.out.1))
          have DZ2 := hid (DZ.out.ms (ms_open (a := 0) (DZ.out.2 0 DZ.out.1)))
          go_wp2_with fail
          refine CO.out.mono ?_
          rintro e w12 ⟨sv2, b1, m1, e1, rfl, pc⟩
          have CO2 := hid (p_openR pc.out IV.out Hm.out DZ.out)
          clear pc CO
          generalize opX d 0 = x2 at *
          go_wp2_with fail
          refine CO2.out.mono ?_
          rintro e w13 ⟨tv2, b2, m2, e2, rfl, pd⟩
          have EQ := hid (p_equal pd.out e1 e2)
          clear pd CO2
          generalize opD d 0 = d' at *
          go_wp2_with fail
          refine EQ.out.mono ?_
          rintro e w14 ⟨rfl, lx⟩
          clear EQ
          rcases lx.out with ⟨S2, T2, s', rfl, rfl, q14, f14⟩ | ⟨rfl, rfl, q14⟩
          · have BB := hid q14
            have FT' := hid f14
            clear q14 f14 lx
            go_wp2_with fail
            refine r38a (S' := S2) (T' := T2) (lf := Sm.left s') (gg := Sm.g s') (fun W' => Qa w (w.heap.size + 1) (w2.heap.size + 1) S2 T2 wr.heap.size (Obj.cells #[.int .i64 (A j).what, .string ((A j).body.extract 0 ub), .slice (A j).ba un (A j).bc, .int .i64 (A j).on.act, .int .i64 (A j).on.reg, .int .i64 (A j).on.sec, .int .i64 (A j).on.num, .string (A j).on.data, .slice (A j).on.ka (A j).on.K.length (A j).on.kc] 45 (0, 0)) d' d' s' s' W') eA0 (eA1 FT'.out) (eA2 FT'.out) eA3 (hid (BB.out.below (Below.refl _ _).drew)) BB.out.genR ?_
            intro w99 P9
            go_wp2_with fail
            exact ⟨⟨j + 1, by omega, by go_num, .inl ⟨S2, T2, rfl, rfl, qa_end P9.out FT'.out (iv_le IV2.out (by omega)) DZ2.out⟩⟩, by simp [intOf]; omega⟩
          · have BB := hid q14
            clear q14 lx
            go_wp2_with fail
            refine r38d (fun W' => Qn w (w.heap.size + 1) (w2.heap.size + 1) wr.heap.size (Obj.cells #[.int .i64 (A j).what, .string ((A j).body.extract 0 ub), .slice (A j).ba un (A j).bc, .int .i64 (A j).on.act, .int .i64 (A j).on.reg, .int .i64 (A j).on.sec, .int .i64 (A j).on.num, .string (A j).on.data, .slice (A j).on.ka (A j).on.K.length (A j).on.kc] 45 (0, 0)) d' d' W') eD0 eD1 eD3 (hid (BB.out.below (Below.refl _ _).drew)) trivial ?_
            intro w99 P9
            go_wp2_with fail
            exact ⟨⟨j + 1, by omega, by go_num, .inr ⟨rfl, rfl, qn_end P9.out (iv_le IV2.out (by omega)) DZ2.out⟩⟩, by simp [intOf]; omega⟩
        · as_aux_lemma =>
          have CA : Hid (∀ W', Qn w (w.heap.size + 1) (w2.heap.size + 1) wr.heap.size (Obj.cells #[.int .i64 (A j).what, .string ((A j).body.extract 0 ub), .slice (A j).ba un (A j).bc, .int .i64 (A j).on.act, .int .i64 (A j).on.reg, .int .i64 (A j).on.sec, .int .i64 (A j).on.num, .string (A j).on.data, .slice (A j).on.ka (A j).on.K.length (A j).on.kc] 45 (0, 0)) d d W' → Calls Tryz.prog 15 #[.pointer (some ⟨w.heap.size + 1, 0, none⟩), .pointer (some ⟨w2.heap.size + 1, 0, none⟩), .agg #[.int .i64 (A j).on.act, .int .i64 (A j).on.reg, .int .i64 (A j).on.sec, .int .i64 (A j).on.num, .string (A j).on.data, .slice (A j).on.ka (A j).on.K.length (A j).on.kc]] W' fun en w' => en = .returned (.bool true) ∧ ∃ d', Wr.Iv (2061 + j * 2061 + 1) d' ∧ Ms d 1 d' ∧ Qn w (w.heap.size + 1) (w2.heap.size + 1) wr.heap.size (Obj.cells #[.int .i64 (A j).what, .string ((A j).body.extract 0 ub), .slice (A j).ba un (A j).bc, .int .i64 (A j).on.act, .int .i64 (A j).on.reg, .int .i64 (A j).on.sec, .int .i64 (A j).on.num, .string (A j).on.data, .slice (A j).on.ka (A j).on.K.length (A j).on.kc] 45 (0, 0)) d' d' w') := fun _ h => qn_act h IV.out Hm.out (A j).on ok.out.on
          go_wp2_with fail
          refine (CA.out _ QN.out).mono ?_
          rintro e w12 ⟨rfl, d', iv', ms', q12⟩
          have BB := hid q12
          have IV' := hid iv'
          have DZ' := hid (DZ.out.ms ms')
          clear q12 iv' ms' CA QN
          go_wp2_with fail
          refine r38d (fun W' => Qn w (w.heap.size + 1) (w2.heap.size + 1) wr.heap.size (Obj.cells #[.int .i64 (A j).what, .string ((A j).body.extract 0 ub), .slice (A j).ba un (A j).bc, .int .i64 (A j).on.act, .int .i64 (A j).on.reg, .int .i64 (A j).on.sec, .int .i64 (A j).on.num, .string (A j).on.data, .slice (A j).on.ka (A j).on.K.length (A j).on.kc] 45 (0, 0)) d' d' W') eD0 eD1 eD3 (hid (BB.out.below (Below.refl _ _).drew)) trivial ?_
          intro w99 P9
          go_wp2_with fail
          exact ⟨⟨j + 1, by omega, by go_num, .inr ⟨rfl, rfl, qn_end P9.out (iv_le IV'.out (by omega)) DZ'.out⟩⟩, by simp [intOf]; omega⟩
        · as_aux_lemma =>
          have CA : Hid (∀ W', Qn w (w.heap.size + 1) (w2.heap.size + 1) wr.heap.size (Obj.cells #[.int .i64 (A j).what, .string ((A j).body.extract 0 ub), .slice (A j).ba un (A j).bc, .int .i64 (A j).on.act, .int .i64 (A j).on.reg, .int .i64 (A j).on.sec, .int .i64 (A j).on.num, .string (A j).on.data, .slice (A j).on.ka (A j).on.K.length (A j).on.kc] 45 (0, 0)) d d W' → Calls Tryz.prog 15 #[.pointer (some ⟨w.heap.size + 1, 0, none⟩), .pointer (some ⟨w2.heap.size + 1, 0, none⟩), .agg #[.int .i64 (A j).on.act, .int .i64 (A j).on.reg, .int .i64 (A j).on.sec, .int .i64 (A j).on.num, .string (A j).on.data, .slice (A j).on.ka (A j).on.K.length (A j).on.kc]] W' fun en w' => en = .returned (.bool true) ∧ ∃ d', Wr.Iv (2061 + j * 2061 + 1) d' ∧ Ms d 1 d' ∧ Qn w (w.heap.size + 1) (w2.heap.size + 1) wr.heap.size (Obj.cells #[.int .i64 (A j).what, .string ((A j).body.extract 0 ub), .slice (A j).ba un (A j).bc, .int .i64 (A j).on.act, .int .i64 (A j).on.reg, .int .i64 (A j).on.sec, .int .i64 (A j).on.num, .string (A j).on.data, .slice (A j).on.ka (A j).on.K.length (A j).on.kc] 45 (0, 0)) d' d' w') := fun _ h => qn_act h IV.out Hm.out (A j).on ok.out.on
          go_wp2_with fail
          refine (CA.out _ QN.out).mono ?_
          rintro e w12 ⟨rfl, d', iv', ms', q12⟩
          have BB := hid q12
          have IV' := hid iv'
          have DZ' := hid (DZ.out.ms ms')
          clear q12 iv' ms' CA QN
          go_wp2_with fail
          refine r38d (fun W' => Qn w (w.heap.size + 1) (w2.heap.size + 1) wr.heap.size (Obj.cells #[.int .i64 (A j).what, .string ((A j).body.extract 0 ub), .slice (A j).ba un (A j).bc, .int .i64 (A j).on.act, .int .i64 (A j).on.reg, .int .i64 (A j).on.sec, .int .i64 (A j).on.num, .string (A j).on.data, .slice (A j).on.ka (A j).on.K.length (A j).on.kc] 45 (0, 0)) d' d' W') eD0 eD1 eD3 (hid (BB.out.below (Below.refl _ _).drew)) trivial ?_
          intro w99 P9
          go_wp2_with fail
          exact ⟨⟨j + 1, by omega, by go_num, .inr ⟨rfl, rfl, qn_end P9.out (iv_le IV'.out (by omega)) DZ'.out⟩⟩, by simp [intOf]; omega⟩
        · as_aux_lemma =>
          go_wp2_with fail
          refine (appendN _ _).mono ?_
          rintro e w12 ⟨rfl, rfl⟩
          go_wp2_with fail
          refine r38d (fun W' => Qn w (w.heap.size + 1) (w2.heap.size + 1) wr.heap.size (Obj.cells #[.int .i64 (A j).what, .string ((A j).body.extract 0 ub), .slice (A j).ba un (A j).bc, .int .i64 (A j).on.act, .int .i64 (A j).on.reg, .int .i64 (A j).on.sec, .int .i64 (A j).on.num, .string (A j).on.data, .slice (A j).on.ka (A j).on.K.length (A j).on.kc] 45 (0, 0)) d d W') eD0 eD1 eD3 (hid (QN.out.below (Below.refl _ _).drew)) trivial ?_
          intro w99 P9
          go_wp2_with fail
          exact ⟨⟨j + 1, by omega, by go_num, .inr ⟨rfl, rfl, qn_end P9.out (iv_le IV.out (by omega)) DZ.out⟩⟩, by simp [intOf]; omega⟩
        · as_aux_lemma =>
          go_wp2_with fail
          refine (appendN _ _).mono ?_
          rintro e w12 ⟨rfl, rfl⟩
          go_wp2_with fail
          refine r38d (fun W' => Qn w (w.heap.size + 1) (w2.heap.size + 1) wr.heap.size (Obj.cells #[.int .i64 (A j).what, .string ((A j).body.extract 0 ub), .slice (A j).ba un (A j).bc, .int .i64 (A j).on.act, .int .i64 (A j).on.reg, .int .i64 (A j).on.sec, .int .i64 (A j).on.num, .string (A j).on.data, .slice (A j).on.ka (A j).on.K.length (A j).on.kc] 45 (0, 0)) d d W') eD0 eD1 eD3 (hid (QN.out.below (Below.refl _ _).drew)) trivial ?_
          intro w99 P9
          go_wp2_with fail
          exact ⟨⟨j + 1, by omega, by go_num, .inr ⟨rfl, rfl, qn_end P9.out (iv_le IV.out (by omega)) DZ.out⟩⟩, by simp [intOf]; omega⟩
    · have hE : j = kk := by omega
      subst hE
      clear lp
      go_wp2
      go_ret
      exact ⟨rfl, BL.out⟩

end Go.Proofs.YthmholgfnjpgbaaGreat.Wq
