/-
  The walk of the laws' own 'build', its literal: the two values that it returns read alike, in new memory; it goes on through the items by at least one, and by at least as many as the values have inner ones. Conditions: the items can be read.
-/
import Derived.Test.YtainajjklakaeaaCopied
import Derived.Test.YtainajjklakaeaaMathO
import Derived.Test.YtainajjklakaeaaLate
import Derived.Deep.AppendLies
import Derived.Deep.DeepCutAuto
namespace Go.Proofs.Ytainajjklakaeaa.Wn
open Go.ChangeShapes Go.WideShapes Go.ChangeAt Go.RowKit Go.Proofs.Ytainajjklakaeaa.M Go.Proofs.Ytainajjklakaeaa.We

theorem infoR : (Try.prog.info? 40).map (fun i => (i.zero, i.size, i.bytes)) = some (some (.agg #[.int .i64 0, .int .i64 0, .string ⟨#[]⟩, .slice none 0 0]), 4, 56) := by kernel_rfl

/-- The items lie there. -/
def Items (W : World) (gl ol n : Nat) : Prop := ∀ i, i < n → ∃ (k m : Int) (s : ByteArray) (c : Int), W.cell? ⟨gl, ol + i * 4, none⟩ = some (.int .i64 k) ∧ W.cell? ⟨gl, ol + i * 4 + 1, none⟩ = some (.int .i64 m) ∧ W.cell? ⟨gl, ol + i * 4 + 2, none⟩ = some (.string s) ∧ W.cell? ⟨gl, ol + i * 4 + 3, none⟩ = some (.int .i64 c) ∧
  (-9223372036854775808 ≤ k ∧ k < 9223372036854775808) ∧ (-9223372036854775808 ≤ m ∧ m < 9223372036854775808) ∧ s.size ≤ 140737488355328 ∧ (-9223372036854775808 ≤ c ∧ c < 9223372036854775808)

theorem Items.grown {W X : World} {ba gl ol n : Nat} (h : Items W gl ol n) (g : W.grownBy X (some ba)) (hne : gl ≠ ba) : Items X gl ol n := fun i hi => by
  obtain ⟨k, m, s, c, h0, h1, h2, h3, r⟩ := h i hi
  have hn : some gl ≠ some ba := by simpa using hne
  exact ⟨k, m, s, c, g.cell (a := ⟨gl, _, none⟩) h0 hn, g.cell (a := ⟨gl, _, none⟩) h1 hn, g.cell (a := ⟨gl, _, none⟩) h2 hn, g.cell (a := ⟨gl, _, none⟩) h3 hn, r⟩

/-- The conditions on the world while the two appends are under way: what must stay till the second store; till the first; nothing. -/
def Sc (b8 b9 u : Nat) (L1 L2 : Value) (k m : Int) (s : ByteArray) (M1 M2 : Value) : Nat → World → Prop
  | 0, w' => w'.cell? ⟨b9, 3, none⟩ = some L2 ∧ w'.cell? ⟨u, 0, none⟩ = some (.int .i64 k) ∧ w'.cell? ⟨u, 1, none⟩ = some (.int .i64 m) ∧ w'.cell? ⟨u, 2, none⟩ = some (.string s) ∧ w'.cell? ⟨u, 3, none⟩ = some M1 ∧ w'.cell? ⟨u + 1, 0, none⟩ = some (.int .i64 k) ∧ w'.cell? ⟨u + 1, 1, none⟩ = some (.int .i64 m) ∧ w'.cell? ⟨u + 1, 2, none⟩ = some (.string s) ∧ w'.cell? ⟨u + 1, 3, none⟩ = some M2
  | 1, w' => w'.cell? ⟨b8, 3, none⟩ = some L1
  | _, _ => True
/-- Which operation keeps which. -/
def keepsB (c j : Nat) : Bool := if c = 0 then j != 13 else if c = 1 then decide (j < 11) else true

section
variable {base : Nat} {S : Nat → Prop} {X Y : World} {b8 b9 u : Nat} {L1 L2 M1 M2 : Value} {k m : Int} {s : ByteArray}
theorem Sc.far (F : Far base S X Y) (h8 : b8 < base) (h9 : b9 < base) (sa : S u) (sb : S (u + 1)) : ∀ c, Sc b8 b9 u L1 L2 k m s M1 M2 c X → Sc b8 b9 u L1 L2 k m s M1 M2 c Y
  | 0, ⟨q0, q1, q2, q3, q4, q5, q6, q7, q8⟩ => ⟨F.cell q0 (.inl h9), F.cell q1 (.inr sa), F.cell q2 (.inr sa), F.cell q3 (.inr sa), F.cell q4 (.inr sa), F.cell q5 (.inr sb), F.cell q6 (.inr sb), F.cell q7 (.inr sb), F.cell q8 (.inr sb)⟩
  | 1, h => Far.cell (k := b8) (j := 3) F h (.inl h8)
  | _ + 2, _ => trivial
theorem cell_set_far {w : World} {b j o : Nat} {v x : Value} (hc : w.cell? ⟨b, j, none⟩ = some x) (hne : o ≠ b) : (w.setCell ⟨o, 3, none⟩ v).cell? ⟨b, j, none⟩ = some x :=
  (World.cell?_of_block (a := ⟨b, j, none⟩) (Below.heap_setCell _ _ _ _ (fun e => hne e.symm))).trans hc
theorem Sc.store8 {v : Value} (_h : 0 ≤ b8) (h89 : b8 ≠ b9) (hu : b8 ≠ u) (hv : b8 ≠ u + 1) : ∀ c, keepsB c 11 = true → Sc b8 b9 u L1 L2 k m s M1 M2 c X → Sc b8 b9 u L1 L2 k m s M1 M2 c (X.setCell ⟨b8, 3, none⟩ v)
  | 0, _, ⟨q0, q1, q2, q3, q4, q5, q6, q7, q8⟩ => ⟨cell_set_far q0 h89, cell_set_far q1 hu, cell_set_far q2 hu, cell_set_far q3 hu, cell_set_far q4 hu, cell_set_far q5 hv, cell_set_far q6 hv, cell_set_far q7 hv, cell_set_far q8 hv⟩
  | 1, hc, _ => by cases hc
  | _ + 2, _, _ => trivial
theorem Sc.store9 : ∀ c, keepsB c 13 = true → Sc b8 b9 u L1 L2 k m s M1 M2 c X
  | 0, hc => by cases hc
  | 1, hc => by cases hc
  | _ + 2, _ => trivial
end

/-- What the literal gives: two values that read alike, in new memory; and how far it has gone through the items. -/
def Gave (W : World) (ba at_ n : Nat) (e : Ending) (w' : World) : Prop := ∃ (k m : Int) (s : ByteArray) (f : F) (p1 p2 : Option Addr) (c1 c2 a : Nat),
  e = .returned (.tuple #[.agg #[.int .i64 k, .int .i64 m, .string s, .slice p1 f.len c1], .agg #[.int .i64 k, .int .i64 m, .string s, .slice p2 f.len c2]]) ∧
  Rd w' (fun g => W.heap.size ≤ g) (.slice p1 f.len c1) f ∧ Rd w' (fun g => W.heap.size ≤ g) (.slice p2 f.len c2) f ∧ (F.cons k m s f .nil).ok ∧ at_ + 1 + f.nodes ≤ a ∧ a ≤ n ∧ a ≤ 400 ∧
  w'.heap[ba]? = some (.cells #[.int .i64 (a : Int)] 3 (0, 0)) ∧ W.grownBy w' (some ba)

theorem finished {W wr : World} {ba at_ a n : Nat} {k m c : Int} {s : ByteArray} {f : F} {S : Nat → Prop} {q1 q2 : Option Addr} {d1 d2 : Nat} {xs1 xs2 : List Value}
    (hE : Env 3 37 40 60 W ba a k m c s wr) (hI : Inv 37 40 (W.heap.size + 5) S (.slice q1 f.len d1) (.slice q2 f.len d2) f.len f.len xs1 xs2 wr) (f1 : Fits wr S f xs1) (f2 : Fits wr S f xs2)
    (rk : -9223372036854775808 ≤ k ∧ k < 9223372036854775808) (rm : -9223372036854775808 ≤ m ∧ m < 9223372036854775808) (rs : s.size ≤ 140737488355328) (hfo : f.ok) (hno : at_ + 1 + f.nodes ≤ a) (ha2 : a ≤ n) (ha3 : a ≤ 400) (lba : ba < W.heap.size) :
    Gave W ba at_ n (.returned (.tuple #[.agg #[.int .i64 k, .int .i64 m, .string s, .slice q1 f.len d1], .agg #[.int .i64 k, .int .i64 m, .string s, .slice q2 f.len d2]])) (put4 (put4 wr W.heap.size 0 (.int .i64 k) (.int .i64 m) (.string s) (.slice q1 f.len d1)) (W.heap.size + 1) 0 (.int .i64 k) (.int .i64 m) (.string s) (.slice q2 f.len d2)).drew := by
  have ga := put4_kept wr W.heap.size 0 (.int .i64 k) (.int .i64 m) (.string s) (.slice q1 f.len d1)
  have za : (put4 wr W.heap.size 0 (.int .i64 k) (.int .i64 m) (.string s) (.slice q1 f.len d1)).heap.size = wr.heap.size := put4_size
  have oa : ∀ j, j ≠ W.heap.size → (put4 wr W.heap.size 0 (.int .i64 k) (.int .i64 m) (.string s) (.slice q1 f.len d1)).heap[j]? = wr.heap[j]? := fun j h => put4_other h
  generalize put4 wr W.heap.size 0 (.int .i64 k) (.int .i64 m) (.string s) (.slice q1 f.len d1) = V at *
  have gb := put4_kept V (W.heap.size + 1) 0 (.int .i64 k) (.int .i64 m) (.string s) (.slice q2 f.len d2)
  have zb : (put4 V (W.heap.size + 1) 0 (.int .i64 k) (.int .i64 m) (.string s) (.slice q2 f.len d2)).heap.size = V.heap.size := put4_size
  have ob : ∀ j, j ≠ W.heap.size + 1 → (put4 V (W.heap.size + 1) 0 (.int .i64 k) (.int .i64 m) (.string s) (.slice q2 f.len d2)).heap[j]? = V.heap[j]? := fun j h => put4_other h
  generalize put4 V (W.heap.size + 1) 0 (.int .i64 k) (.int .i64 m) (.string s) (.slice q2 f.len d2) = Z at *
  have ho : ∀ j, j ≠ W.heap.size → j ≠ W.heap.size + 1 → Z.heap[j]? = wr.heap[j]? := fun j h1 h2 => (ob j h2).trans (oa j h1)
  have hr : ∀ g, W.heap.size + 5 ≤ g → ∀ o, wr.heap[g]? = some o → Z.drew.heap[g]? = some o := fun g h o hh => (ho g (by omega) (by omega)).trans hh
  obtain ⟨g0, _, h3, _⟩ := hE
  refine ⟨k, m, s, f, q1, q2, d1, d2, a, rfl, ?_, ?_, ⟨rk, rm, rs, hfo, trivial⟩, hno, ha2, ha3, (ho ba (by omega) (by omega)).trans h3, ?_⟩
  · exact rd_of (fun g h => by omega) hr (rd_own hI.own1 f1 (fun g h => (hI.kids g h).1) (fun g h => h))
  · exact rd_of (fun g h => by omega) hr (rd_own hI.own2 f2 (fun g h => (hI.kids g h).1) (fun g h => h))
  · exact ⟨gb.os.trans (ga.os.trans g0.os), gb.tape.trans (ga.tape.trans g0.tape), gb.output.trans (ga.output.trans g0.output), by show W.heap.size ≤ Z.heap.size; rw [zb, za]; exact g0.size, fun j h1 h2 => (ho j (by omega) (by omega)).trans (g0.block j h1 h2)⟩

set_option linter.unusedSimpArgs false in
set_option maxHeartbeats 8000000 in
set_option maxRecDepth 100000 in
theorem next (ba bl bn gl ol n cap : Nat) (N : Nat) : ∀ (W : World) (at_ deep : Nat), deep ≤ 12 → at_ < n → at_ < 400 → 400 - at_ < N → W.heap[ba]? = some (.cells #[.int .i64 (at_ : Int)] 3 (0, 0)) → W.cell? ⟨bl, 0, none⟩ = some (.slice (some ⟨gl, ol, none⟩) n cap) → W.cell? ⟨bn, 0, none⟩ = some (.func (.func 12) #[] #[.pointer (some ⟨ba, 0, none⟩), .pointer (some ⟨bl, 0, none⟩), .pointer (some ⟨bn, 0, none⟩)]) → bl ≠ ba → bn ≠ ba → gl ≠ ba → Items W gl ol n →
    Calls Try.prog 12 #[.int .i64 (deep : Int), .pointer (some ⟨ba, 0, none⟩), .pointer (some ⟨bl, 0, none⟩), .pointer (some ⟨bn, 0, none⟩)] W fun e w' => Gave W ba at_ n e w' := by
  induction N with
  | zero => intro W at_ deep hd h1 h2 hN; omega
  | succ N ih =>
    intro W at_ deep hd h1 h2 hN ha hl hf e1 e2 e3 hI
    have IH : Hid _ := ih
    clear ih
    obtain ⟨k, m, s, c, i0, i1, i2, i3, rk, rm, rs, rc⟩ := hI at_ h1
    have a0 : W.cell? ⟨ba, 0, none⟩ = some (.int .i64 (at_ : Int)) := by simp [World.cell?, ha]
    have z0 := frozen_there ha 0
    have lba := lt_of_heap ha
    have lbl := World.block_lt_of_cell? W _ hl
    have lbn := World.block_lt_of_cell? W _ hf
    have lgl := World.block_lt_of_cell? W _ i0
    simp only at lbl lbn lgl
    have lba1 : ba < W.heap.size + 1 := by omega
    have lba2 : ba < W.heap.size + 1 + 1 := by omega
    have nba0 : ¬ W.heap.size = ba := by omega
    have nba1 : ¬ W.heap.size + 1 = ba := by omega
    have nba2 : ¬ W.heap.size + 1 + 1 = ba := by omega
    have HI : Hid _ := hI
    have HA : Hid _ := ha
    clear hI ha
    go_enter Try.func12, Try.ntmps12
    go_wp2_with fail
    obtain ⟨X, hX⟩ : ∃ X, X = (((W.setCell ⟨ba, 0, none⟩ (.int .i64 ((at_ : Int) + 1))).alloc (.cells #[.int .i64 0, .int .i64 0, .string ⟨#[]⟩, .slice none 0 0] 37)).alloc (.cells #[.int .i64 0, .int .i64 0, .string ⟨#[]⟩, .slice none 0 0] 40)).alloc (.cells #[.int .i64 k, .int .i64 m, .string s, .int .i64 c] 60) := ⟨_, rfl⟩
    rw [← hX]
    obtain ⟨X1, X2, X3, X4, X5, X6⟩ := M.start HA.out hX
    clear hX
    have x0 : X.cell? ⟨W.heap.size + 1 + 1, 0, none⟩ = some (.int .i64 k) := by simp [World.cell?, X6]
    have x1 : X.cell? ⟨W.heap.size + 1 + 1, 1, none⟩ = some (.int .i64 m) := by simp [World.cell?, X6]
    have x2 : X.cell? ⟨W.heap.size + 1 + 1, 2, none⟩ = some (.string s) := by simp [World.cell?, X6]
    have n0 := World.new_ne X _ x0
    have n1 := World.new_ne X _ x1
    have n2 := World.new_ne X _ x2
    go_cut [8, 9] (fun s8 s9 wx => ∃ b8 b9 : Nat, s8 = .pointer (some ⟨b8, 0, none⟩) ∧ s9 = .pointer (some ⟨b9, 0, none⟩) ∧ b8 < W.heap.size + 5 ∧ b9 < W.heap.size + 5 ∧ W.heap.size + 3 ≤ b8 ∧ W.heap.size + 3 ≤ b9 ∧ b8 ≠ b9 ∧ Env 3 37 40 60 W ba (at_ + 1) k m c s wx ∧ St 37 40 (W.heap.size + 5) b8 b9 k m s .nil wx)
    case first =>
      go_region_held3 (fun w' => w'.cell? ⟨W.heap.size + 1 + 1, 0, none⟩ = some (.int .i64 k) ∧ w'.cell? ⟨W.heap.size + 1 + 1, 1, none⟩ = some (.int .i64 m) ∧ w'.cell? ⟨W.heap.size + 1 + 1, 2, none⟩ = some (.string s)) (go_keep) (fail)
      · go_wp2_with fail
        go_meet
        case rel =>
          obtain ⟨y1, y2, y3, y4⟩ := M.begun X1 X2 X3 X4 X5 X6 lba 37 40
          exact ⟨W.heap.size + 3, W.heap.size + 4, rfl, rfl, by omega, by omega, by omega, by omega, by omega, y1.same (grown_drew (grown_refl _ _)) lba, st_nil y2 y3 y4⟩
      · go_wp2_with fail
        go_meet
        case rel =>
          obtain ⟨y1, y2, y3, y4⟩ := M.begun X1 X2 X3 X4 X5 X6 lba 40 37
          exact ⟨W.heap.size + 4, W.heap.size + 3, rfl, rfl, by omega, by omega, by omega, by omega, by omega, y1.same (grown_drew (grown_refl _ _)) lba, st_nil y3 y2 y4⟩
    case rest =>
      obtain ⟨b8, b9, rfl, rfl, l8, l9, g8, g9, h89, hE, hS⟩ := hcut
      have HE : Hid _ := hE
      have HS : Hid _ := hS
      clear hE hS X1 X2 X3 X4 X5 X6 x0 x1 x2 n0 n1 n2 a0 z0
      go_wp2_with fail
      go_loopw [10] (fun iv wr => ∃ (i a : Nat) (f : F), iv = .int .i64 (i : Int) ∧ i ≤ a ∧ a ≤ n ∧ a ≤ 400 ∧ Hid (at_ + 1 + f.nodes ≤ a) ∧ Hid f.ok ∧ Hid (Env 3 37 40 60 W ba a k m c s wr) ∧ Hid (St 37 40 (W.heap.size + 5) b8 b9 k m s f wr)) (fun _ wr => 400 - (intOf ((wr.cell? ⟨ba, 0, none⟩).getD undef)).toNat)
      case atStart => exact ⟨0, at_ + 1, .nil, rfl, by omega, by omega, by omega, Nat.le_refl _, trivial, HE, HS⟩
      case round =>
        obtain ⟨i, a, f, rfl, ha1, ha2, ha3, hno, hfo, hE, hS⟩ := hrel
        have a0 : wr.cell? ⟨ba, 0, none⟩ = some (.int .i64 (a : Int)) := by simp [World.cell?, hE.out.2.2.1]
        have x3 : wr.cell? ⟨W.heap.size + 1 + 1, 3, none⟩ = some (.int .i64 c) := by simp [World.cell?, hE.out.2.2.2.2.2]
        have ll := (hE.out.1.cell (a := ⟨bl, 0, none⟩) hl (by simp; omega))
        have lf := (hE.out.1.cell (a := ⟨bn, 0, none⟩) hf (by simp; omega))
        by_cases hgo : (i : Int) < c ∧ deep < 12 ∧ a < n ∧ a < 400
        · obtain ⟨q1, q2, q3, q4⟩ := hgo
          go_wp2_with fail
          have hcast : (deep : Int) + 1 = ((deep + 1 : Nat) : Int) := by omega
          rw [hcast]
          refine (IH.out wr a (deep + 1) (by omega) q3 q4 (by have := hno.out; omega) hE.out.2.2.1 ll lf e1 e2 e3 (Items.grown HI.out hE.out.1 e3)).mono ?_
          rintro e w2 ⟨k', m', s', l, p1, p2, c1, c2, a', rfl, R1, R2, ok', n', u1, u2, hba, hg⟩
          have hE2 := hE.out.grown hg lba hba
          have hS2 := hS.out.grown hg (by omega : ba < W.heap.size + 5) (by omega) (by omega)
          have wz := hE.out.2.1
          have kR1 : Hid _ := R1
          have kR2 : Hid _ := R2
          have kE : Hid _ := hE2
          have kS : Hid _ := hS2
          have kG : Hid _ := hg
          have ko : Hid _ := ok'
          have kn : Hid _ := n'
          have a0' : Hid _ := a0
          have wz2 : W.heap.size + 5 ≤ w2.heap.size := hE2.2.1
          clear R1 R2 hE2 hS2 hg ok' n' hba hcast a0 x3 ll lf
          go_wp2_with fail
          obtain ⟨X, hX⟩ : ∃ X, X = (w2.alloc (.cells #[.int .i64 k', .int .i64 m', .string s', .slice p1 l.len c1] 37)).alloc (.cells #[.int .i64 k', .int .i64 m', .string s', .slice p2 l.len c2] 40) := ⟨_, rfl⟩
          rw [← hX]
          have hEX := Env.same kE.out (show w2.grownBy X none by rw [hX]; exact grown2 _ _ _) lba
          obtain ⟨S, q1, q2, d1, d2, xs1, xs2, y8, y9, hI0, f1, f2, S1, S2, yu, yv, sa, sb, hXz⟩ := M.joined hS.out kG.out (by omega) (by omega) (by omega) kR1.out kR2.out hX
          have I0 : Hid _ := hI0
          have kEX : Hid _ := hEX
          have kf1 : Hid _ := f1
          have kf2 : Hid _ := f2
          have kS1 : Hid _ := S1
          have kS2 : Hid _ := S2
          have ky8 : Hid _ := y8
          have ky9 : Hid _ := y9
          have flen : f.len ≤ 400 := by have h1 := F.len_nodes f; have h2 := hno.out; omega
          obtain ⟨i1, hi1, hz1, hs1, hb1⟩ := info_parts Wy.infoV
          obtain ⟨i2, hi2, hz2, hs2, hb2⟩ := info_parts infoR
          have e8 : X.cell? ⟨b8, 3, none⟩ = some (.slice q1 f.len d1) := by simp [World.cell?, y8]
          have e9 : X.cell? ⟨b9, 3, none⟩ = some (.slice q2 f.len d2) := by simp [World.cell?, y9]
          have ua0 : X.cell? ⟨w2.heap.size, 0, none⟩ = some (.int .i64 k') := by simp [World.cell?, yu]
          have ua1 : X.cell? ⟨w2.heap.size, 1, none⟩ = some (.int .i64 m') := by simp [World.cell?, yu]
          have ua2 : X.cell? ⟨w2.heap.size, 2, none⟩ = some (.string s') := by simp [World.cell?, yu]
          have ua3 : X.cell? ⟨w2.heap.size, 3, none⟩ = some (.slice p1 l.len c1) := by simp [World.cell?, yu]
          have ub0 : X.cell? ⟨w2.heap.size + 1, 0, none⟩ = some (.int .i64 k') := by simp [World.cell?, yv]
          have ub1 : X.cell? ⟨w2.heap.size + 1, 1, none⟩ = some (.int .i64 m') := by simp [World.cell?, yv]
          have ub2 : X.cell? ⟨w2.heap.size + 1, 2, none⟩ = some (.string s') := by simp [World.cell?, yv]
          have ub3 : X.cell? ⟨w2.heap.size + 1, 3, none⟩ = some (.slice p2 l.len c2) := by simp [World.cell?, yv]
          have fr8 := frozen_there y8
          have fr9 := frozen_there y9
          have ne8 := World.new_ne X _ e8
          have ne9 := World.new_ne X _ e9
          have neu := World.new_ne X _ ua0
          have nev := World.new_ne X _ ub0
          have hu8 : b8 ≠ w2.heap.size := by omega
          have hv8 : b8 ≠ w2.heap.size + 1 := by omega
          have cells := And.intro e8 (And.intro e9 (And.intro ua0 (And.intro ua1 (And.intro ua2 (And.intro ua3 (And.intro ub0 (And.intro ub1 (And.intro ub2 ub3))))))))
          clear hI0 hEX f1 f2 S1 S2 y8 y9 yu yv hX hXz
          refine wp_region_late (Sc b8 b9 w2.heap.size (.slice q1 f.len d1) (.slice q2 f.len d2) k' m' s' (.slice p1 l.len c1) (.slice p2 l.len c2)) keepsB (by kernel_rfl) 14 (by rfl) ?_
          refine wpAnyT_take (i := 0) 2 (.pointer (some ⟨b8, 3, none⟩)) rfl (by kernel_rfl) (by kernel_rfl) (by kernel_rfl) (by kernel_rfl) (fun _ _ _ h => h) (by rfl) ?_ trivial ?_
          · intro w hSw
            simp only [Sc] at hSw
            go_simp
          simp only [List.getElem_toArray, List.getElem_cons_zero, List.getElem_cons_succ, Act.put, List.setIfInBounds_toArray, List.set_cons_zero, List.set_cons_succ]
          refine wpAnyT_take (i := 1) 1 (.slice q1 f.len d1) rfl (by kernel_rfl) (by kernel_rfl) (by kernel_rfl) (by kernel_rfl) (fun _ _ _ h => h) (by rfl) ?_ cells.1 ?_
          · intro w hSw
            simp only [Sc] at hSw
            go_simp
          simp only [List.getElem_toArray, List.getElem_cons_zero, List.getElem_cons_succ, Act.put, List.setIfInBounds_toArray, List.set_cons_zero, List.set_cons_succ]
          refine wpAnyT_take (i := 2) 0 (.agg #[.int .i64 k', .int .i64 m', .string s', .slice p1 l.len c1]) rfl (by kernel_rfl) (by kernel_rfl) (by kernel_rfl) (by kernel_rfl) (fun _ _ _ h => h) (by rfl) ?_ cells.2 ?_
          · intro w hSw
            simp only [Sc] at hSw
            go_simp
          simp only [List.getElem_toArray, List.getElem_cons_zero, List.getElem_cons_succ, Act.put, List.setIfInBounds_toArray, List.set_cons_zero, List.set_cons_succ]
          refine wpAnyT_take (i := 5) 2 (.pointer (some ⟨b9, 3, none⟩)) rfl (by kernel_rfl) (by kernel_rfl) (by kernel_rfl) (by kernel_rfl) (fun _ _ _ h => h) (by rfl) ?_ trivial ?_
          · intro w hSw
            simp only [Sc] at hSw
            go_simp
          simp only [List.getElem_toArray, List.getElem_cons_zero, List.getElem_cons_succ, Act.put, List.setIfInBounds_toArray, List.set_cons_zero, List.set_cons_succ]
          refine wpAnyT_take (i := 6) 0 (.slice q2 f.len d2) rfl (by kernel_rfl) (by kernel_rfl) (by kernel_rfl) (by kernel_rfl) (fun _ _ _ h => h) (by rfl) ?_ cells.2 ?_
          · intro w hSw
            simp only [Sc] at hSw
            go_simp
          simp only [List.getElem_toArray, List.getElem_cons_zero, List.getElem_cons_succ, Act.put, List.setIfInBounds_toArray, List.set_cons_zero, List.set_cons_succ]
          refine wpAnyT_take (i := 7) 0 (.agg #[.int .i64 k', .int .i64 m', .string s', .slice p2 l.len c2]) rfl (by kernel_rfl) (by kernel_rfl) (by kernel_rfl) (by kernel_rfl) (fun _ _ _ h => h) (by rfl) ?_ cells.2 ?_
          · intro w hSw
            simp only [Sc] at hSw
            go_simp
          simp only [List.getElem_toArray, List.getElem_cons_zero, List.getElem_cons_succ, Act.put, List.setIfInBounds_toArray, List.set_cons_zero, List.set_cons_succ]
          refine wpAnyT_two (i := 3) (j := 8) (by kernel_rfl) rfl (by rfl) rfl (by rfl) ?_ ?_
          · intro K hK
            simp only [List.getElem_toArray, List.getElem_cons_zero, List.getElem_cons_succ]
            go_simp
            refine hK _ _ (fun c _ h => Sc.far (far_grow (grown1d X (.cells #[.int .i64 k', .int .i64 m', .string s', .slice p1 l.len c1] 37))) l8 l9 sa sb c h) ?_
            clear hK K
            try simp only [List.getElem_toArray, List.getElem_cons_zero, List.getElem_cons_succ, Act.put, List.setIfInBounds_toArray, List.set_cons_zero, List.set_cons_succ]
            refine wpAnyT_two (i := 4) (j := 8) (by kernel_rfl) rfl (by rfl) rfl (by rfl) ?_ ?_
            · intro K hK
              refine wp_append_lies _ _ _ _ (by rfl) (W.heap.size + 5) 37 i1 _ 4 56 Try.underlying35 hi1 hz1 hs1 hb1 rfl (by omega) (.slice q1 f.len d1) f.len xs1 (by rfl) (I0.out.grow (grown_drew (grown1 X (.cells #[.int .i64 k', .int .i64 m', .string s', .slice p1 l.len c1] 37)))).own1 ⟨X.heap.size, 0, none⟩ 1 1 [.int .i64 k', .int .i64 m', .string s', .slice p1 l.len c1] (by rfl) (by rfl) (World.news_of_block (cs := #[.int .i64 k', .int .i64 m', .string s', .slice p1 l.len c1]) (t := 37) (fr := (0, 0)) (heap_alloc_new X _)) (by simp [Value.oneCell']) (by omega) (by unfold maxLen; omega) (by omega) (I0.out.grow (grown_drew (grown1 X (.cells #[.int .i64 k', .int .i64 m', .string s', .slice p1 l.len c1] 37)))).here _ rfl ?_
              intro j1 t1 Y1 o1 g1 at1 _
              have F0 : Far (W.heap.size + 5) S _ Y1 := far_one (I0.out.grow (grown_drew (grown1 X (.cells #[.int .i64 k', .int .i64 m', .string s', .slice p1 l.len c1] 37)))) g1
              have F1 : Far (W.heap.size + 5) S X Y1 := (far_grow (grown_drew (grown1 X (.cells #[.int .i64 k', .int .i64 m', .string s', .slice p1 l.len c1] 37)))).trans F0
              have I1 : Hid (Inv 37 40 (W.heap.size + 5) S (.slice (some ⟨j1, 0, none⟩) (f.len + 1) t1) (.slice q2 f.len d2) (f.len + 1) f.len (xs1 ++ [.int .i64 k', .int .i64 m', .string s', .slice p1 l.len c1]) xs2 Y1) := (I0.out.grow (grown_drew (grown1 X (.cells #[.int .i64 k', .int .i64 m', .string s', .slice p1 l.len c1] 37)))).one o1 g1 at1
              refine hK _ _ (fun c _ h => Sc.far F0 l8 l9 sa sb c h) ?_
              clear hK K o1 g1 at1 F0
              try simp only [List.getElem_toArray, List.getElem_cons_zero, List.getElem_cons_succ, Act.put, List.setIfInBounds_toArray, List.set_cons_zero, List.set_cons_succ]
              refine wpAnyT_take (i := 10) 2 (.pointer (some ⟨b8, 3, none⟩)) rfl (by kernel_rfl) (by kernel_rfl) (by kernel_rfl) (by kernel_rfl) (fun _ _ _ h => h) (by rfl) ?_ trivial ?_
              · intro w hSw
                go_simp
              simp only [List.getElem_toArray, List.getElem_cons_zero, List.getElem_cons_succ, Act.put, List.setIfInBounds_toArray, List.set_cons_zero, List.set_cons_succ]
              refine wpAnyT_one (i := 8) (by kernel_rfl) rfl (by rfl) ?_
              intro K hK
              simp only [List.getElem_toArray, List.getElem_cons_zero, List.getElem_cons_succ]
              go_simp
              refine hK _ _ (fun c _ h => Sc.far (far_grow (grown1 Y1 (.cells #[.int .i64 k', .int .i64 m', .string s', .slice p2 l.len c2] 40))) l8 l9 sa sb c h) ?_
              clear hK K
              try simp only [List.getElem_toArray, List.getElem_cons_zero, List.getElem_cons_succ, Act.put, List.setIfInBounds_toArray, List.set_cons_zero, List.set_cons_succ]
              refine wpAnyT_one (i := 9) (by kernel_rfl) rfl (by rfl) ?_
              intro K hK
              refine wp_append_lies _ _ _ _ (by rfl) (W.heap.size + 5) 40 i2 _ 4 56 Try.underlying38 hi2 hz2 hs2 hb2 rfl (by omega) (.slice q2 f.len d2) f.len xs2 (by rfl) (I1.out.grow (grown1 Y1 (.cells #[.int .i64 k', .int .i64 m', .string s', .slice p2 l.len c2] 40))).own2 ⟨Y1.heap.size, 0, none⟩ 1 1 [.int .i64 k', .int .i64 m', .string s', .slice p2 l.len c2] (by rfl) (by rfl) (World.news_of_block (cs := #[.int .i64 k', .int .i64 m', .string s', .slice p2 l.len c2]) (t := 40) (fr := (0, 0)) (heap_alloc_new Y1 _)) (by simp [Value.oneCell']) (by omega) (by unfold maxLen; omega) (by omega) (I1.out.grow (grown1 Y1 (.cells #[.int .i64 k', .int .i64 m', .string s', .slice p2 l.len c2] 40))).here _ rfl ?_
              intro j2 t2 Y2 o2 g2 at2 _
              have F3 : Far (W.heap.size + 5) S _ Y2 := far_two (I1.out.grow (grown1 Y1 (.cells #[.int .i64 k', .int .i64 m', .string s', .slice p2 l.len c2] 40))) g2
              have F2 : Hid (Far (W.heap.size + 5) S X Y2) := (F1.trans (far_grow (grown1 Y1 (.cells #[.int .i64 k', .int .i64 m', .string s', .slice p2 l.len c2] 40)))).trans F3
              have I2 : Hid (Inv 37 40 (W.heap.size + 5) S (.slice (some ⟨j1, 0, none⟩) (f.len + 1) t1) (.slice (some ⟨j2, 0, none⟩) (f.len + 1) t2) (f.len + 1) (f.len + 1) (xs1 ++ [.int .i64 k', .int .i64 m', .string s', .slice p1 l.len c1]) (xs2 ++ [.int .i64 k', .int .i64 m', .string s', .slice p2 l.len c2]) Y2) := (I1.out.grow (grown1 Y1 (.cells #[.int .i64 k', .int .i64 m', .string s', .slice p2 l.len c2] 40))).two o2 g2 at2
              refine hK _ _ (fun c _ h => Sc.far F3 l8 l9 sa sb c h) ?_
              clear hK K o2 g2 at2 F3
              have r8 := (F2.out.stay b8 (lt_of_heap ky8.out) (.inl l8)).trans ky8.out
              have r9 := (F2.out.stay b9 (lt_of_heap ky9.out) (.inl l9)).trans ky9.out
              have v8 : Y2.cell? ⟨b8, 3, none⟩ = some (.slice q1 f.len d1) := by simp [World.cell?, r8]
              have z8 := frozen_there r8 3
              have r9' : ∀ v, (Y2.setCell ⟨b8, 3, none⟩ v).heap[b9]? = some (.cells #[.int .i64 k, .int .i64 m, .string s, .slice q2 f.len d2] 40 (0, 0)) := fun v => (Below.heap_setCell _ _ _ _ (fun e => h89 e.symm)).trans r9
              have v9 : ∀ v, (Y2.setCell ⟨b8, 3, none⟩ v).cell? ⟨b9, 3, none⟩ = some (.slice q2 f.len d2) := fun v => by simp [World.cell?, r9' v]
              have z9 : ∀ v, (Y2.setCell ⟨b8, 3, none⟩ v).frozen? ⟨b9, 3, none⟩ = false := fun v => frozen_there (r9' v) 3
              clear r8 r9 r9'
              try simp only [List.getElem_toArray, List.getElem_cons_zero, List.getElem_cons_succ, Act.put, List.setIfInBounds_toArray, List.set_cons_zero, List.set_cons_succ]
              refine wpAnyT_one (i := 11) (by kernel_rfl) rfl (by rfl) ?_
              intro K hK
              simp only [List.getElem_toArray, List.getElem_cons_zero, List.getElem_cons_succ]
              go_simp
              refine hK _ _ (fun c hc h => Sc.store8 (by omega) h89 hu8 hv8 c hc h) ?_
              clear hK K
              try simp only [List.getElem_toArray, List.getElem_cons_zero, List.getElem_cons_succ, Act.put, List.setIfInBounds_toArray, List.set_cons_zero, List.set_cons_succ]
              refine wpAnyT_take (i := 12) 2 (.pointer (some ⟨b9, 3, none⟩)) rfl (by kernel_rfl) (by kernel_rfl) (by kernel_rfl) (by kernel_rfl) (fun _ _ _ h => h) (by rfl) ?_ trivial ?_
              · intro w hSw
                go_simp
              simp only [List.getElem_toArray, List.getElem_cons_zero, List.getElem_cons_succ, Act.put, List.setIfInBounds_toArray, List.set_cons_zero, List.set_cons_succ]
              refine wpAnyT_one (i := 13) (by kernel_rfl) rfl (by rfl) ?_
              intro K hK
              simp only [List.getElem_toArray, List.getElem_cons_zero, List.getElem_cons_succ]
              go_simp
              refine hK _ _ (fun c hc h => Sc.store9 c hc) ?_
              clear hK K
              try simp only [List.getElem_toArray, List.getElem_cons_zero, List.getElem_cons_succ, Act.put, List.setIfInBounds_toArray, List.set_cons_zero, List.set_cons_succ]
              refine wpAnyT_done (by kernel_rfl) (NoPanic.normal ?_) _
              obtain ⟨hSt, hoth⟩ := M.ended (k' := k') (m' := m') (s' := s') (p1 := p1) (p2 := p2) (c1 := c1) (c2 := c2) (l := l) l8 l9 h89 ky8.out ky9.out kf1.out kf2.out kS1.out kS2.out F2.out I2.out
              have kSt : Hid _ := hSt
              have kEn : Hid _ := Env.far (Z := (Y2.setCell ⟨b8, 3, none⟩ (.slice (some ⟨j1, 0, none⟩) (f.len + 1) t1)).setCell ⟨b9, 3, none⟩ (.slice (some ⟨j2, 0, none⟩) (f.len + 1) t2)) (b8 := b8) (b9 := b9) kEX.out F2.out lba g8 g9 (by simp [World.setCell]) rfl rfl rfl hoth
              have aE : _ := kEn.out.2.2.1
              have aC : ((Y2.setCell ⟨b8, 3, none⟩ (.slice (some ⟨j1, 0, none⟩) (f.len + 1) t1)).setCell ⟨b9, 3, none⟩ (.slice (some ⟨j2, 0, none⟩) (f.len + 1) t2)).cell? ⟨ba, 0, none⟩ = some (.int .i64 (a' : Int)) := by simp [World.cell?, aE]
              have AC : Hid _ := aC
              clear hSt hoth aE aC v8 z8 v9 z9
              go_wp2_with fail
              go_roundw
              case rel =>
                refine ⟨i + 1, a', f.app (.cons k' m' s' l .nil), by go_num, by have := kn.out; omega, u1, u2, ?_, F.ok_app hfo.out ko.out, kEn, kSt⟩
                show _ ≤ _
                have h1 := hno.out
                have h2 := kn.out
                rw [F.nodes_app]
                simp only [F.nodes]
                omega
              case measure =>
                have h1 := kn.out
                rw [AC.out, a0'.out]
                simp [intOf]
                omega
            · intro K hK
              simp only [List.getElem_toArray, List.getElem_cons_zero, List.getElem_cons_succ]
              go_simp
              refine hK _ _ (fun c _ h => Sc.far (far_grow (grown1d (X.alloc (.cells #[.int .i64 k', .int .i64 m', .string s', .slice p1 l.len c1] 37)) (.cells #[.int .i64 k', .int .i64 m', .string s', .slice p2 l.len c2] 40))) l8 l9 sa sb c h) ?_
              clear hK K
              try simp only [List.getElem_toArray, List.getElem_cons_zero, List.getElem_cons_succ, Act.put, List.setIfInBounds_toArray, List.set_cons_zero, List.set_cons_succ]
              refine wpAnyT_one (i := 4) (by kernel_rfl) rfl (by rfl) ?_
              intro K hK
              refine wp_append_lies _ _ _ _ (by rfl) (W.heap.size + 5) 37 i1 _ 4 56 Try.underlying35 hi1 hz1 hs1 hb1 rfl (by omega) (.slice q1 f.len d1) f.len xs1 (by rfl) (I0.out.grow (grown_drew (grown2 X (.cells #[.int .i64 k', .int .i64 m', .string s', .slice p1 l.len c1] 37) (.cells #[.int .i64 k', .int .i64 m', .string s', .slice p2 l.len c2] 40)))).own1 ⟨X.heap.size, 0, none⟩ 1 1 [.int .i64 k', .int .i64 m', .string s', .slice p1 l.len c1] (by rfl) (by rfl) (World.news_of_block (cs := #[.int .i64 k', .int .i64 m', .string s', .slice p1 l.len c1]) (t := 37) (fr := (0, 0)) ((Below.heap_alloc _ _ _ (by simp)).trans (heap_alloc_new X _))) (by simp [Value.oneCell']) (by omega) (by unfold maxLen; omega) (by omega) (I0.out.grow (grown_drew (grown2 X (.cells #[.int .i64 k', .int .i64 m', .string s', .slice p1 l.len c1] 37) (.cells #[.int .i64 k', .int .i64 m', .string s', .slice p2 l.len c2] 40)))).here _ rfl ?_
              intro j1 t1 Y1 o1 g1 at1 _
              have F0 : Far (W.heap.size + 5) S _ Y1 := far_one (I0.out.grow (grown_drew (grown2 X (.cells #[.int .i64 k', .int .i64 m', .string s', .slice p1 l.len c1] 37) (.cells #[.int .i64 k', .int .i64 m', .string s', .slice p2 l.len c2] 40)))) g1
              have F1 : Far (W.heap.size + 5) S X Y1 := (far_grow (grown_drew (grown2 X (.cells #[.int .i64 k', .int .i64 m', .string s', .slice p1 l.len c1] 37) (.cells #[.int .i64 k', .int .i64 m', .string s', .slice p2 l.len c2] 40)))).trans F0
              have I1 : Hid (Inv 37 40 (W.heap.size + 5) S (.slice (some ⟨j1, 0, none⟩) (f.len + 1) t1) (.slice q2 f.len d2) (f.len + 1) f.len (xs1 ++ [.int .i64 k', .int .i64 m', .string s', .slice p1 l.len c1]) xs2 Y1) := (I0.out.grow (grown_drew (grown2 X (.cells #[.int .i64 k', .int .i64 m', .string s', .slice p1 l.len c1] 37) (.cells #[.int .i64 k', .int .i64 m', .string s', .slice p2 l.len c2] 40)))).one o1 g1 at1
              have B2 : Hid (Y1.heap[X.heap.size + 1]? = some (.cells #[.int .i64 k', .int .i64 m', .string s', .slice p2 l.len c2] 40 (0, 0))) := (g1.block _ (by simp [World.drew]) (fun e => by have := (I0.out.own1.lt _ e.symm).2; omega)).trans (by have := heap_alloc_new (X.alloc (.cells #[.int .i64 k', .int .i64 m', .string s', .slice p1 l.len c1] 37)) (.cells #[.int .i64 k', .int .i64 m', .string s', .slice p2 l.len c2] 40); rw [World.size_alloc] at this; exact this)
              refine hK _ _ (fun c _ h => Sc.far F0 l8 l9 sa sb c h) ?_
              clear hK K o1 g1 at1 F0
              try simp only [List.getElem_toArray, List.getElem_cons_zero, List.getElem_cons_succ, Act.put, List.setIfInBounds_toArray, List.set_cons_zero, List.set_cons_succ]
              refine wpAnyT_take (i := 10) 2 (.pointer (some ⟨b8, 3, none⟩)) rfl (by kernel_rfl) (by kernel_rfl) (by kernel_rfl) (by kernel_rfl) (fun _ _ _ h => h) (by rfl) ?_ trivial ?_
              · intro w hSw
                go_simp
              simp only [List.getElem_toArray, List.getElem_cons_zero, List.getElem_cons_succ, Act.put, List.setIfInBounds_toArray, List.set_cons_zero, List.set_cons_succ]
              refine wpAnyT_one (i := 9) (by kernel_rfl) rfl (by rfl) ?_
              intro K hK
              refine wp_append_lies _ _ _ _ (by rfl) (W.heap.size + 5) 40 i2 _ 4 56 Try.underlying38 hi2 hz2 hs2 hb2 rfl (by omega) (.slice q2 f.len d2) f.len xs2 (by rfl) I1.out.own2 ⟨X.heap.size + 1, 0, none⟩ 1 1 [.int .i64 k', .int .i64 m', .string s', .slice p2 l.len c2] (by rfl) (by rfl) (World.news_of_block (cs := #[.int .i64 k', .int .i64 m', .string s', .slice p2 l.len c2]) (t := 40) (fr := (0, 0)) B2.out) (by simp [Value.oneCell']) (by omega) (by unfold maxLen; omega) (by omega) I1.out.here _ rfl ?_
              intro j2 t2 Y2 o2 g2 at2 _
              have F3 : Far (W.heap.size + 5) S _ Y2 := far_two I1.out g2
              have F2 : Hid (Far (W.heap.size + 5) S X Y2) := F1.trans F3
              have I2 : Hid (Inv 37 40 (W.heap.size + 5) S (.slice (some ⟨j1, 0, none⟩) (f.len + 1) t1) (.slice (some ⟨j2, 0, none⟩) (f.len + 1) t2) (f.len + 1) (f.len + 1) (xs1 ++ [.int .i64 k', .int .i64 m', .string s', .slice p1 l.len c1]) (xs2 ++ [.int .i64 k', .int .i64 m', .string s', .slice p2 l.len c2]) Y2) := I1.out.two o2 g2 at2
              refine hK _ _ (fun c _ h => Sc.far F3 l8 l9 sa sb c h) ?_
              clear hK K o2 g2 at2 F3
              have r8 := (F2.out.stay b8 (lt_of_heap ky8.out) (.inl l8)).trans ky8.out
              have r9 := (F2.out.stay b9 (lt_of_heap ky9.out) (.inl l9)).trans ky9.out
              have v8 : Y2.cell? ⟨b8, 3, none⟩ = some (.slice q1 f.len d1) := by simp [World.cell?, r8]
              have z8 := frozen_there r8 3
              have r9' : ∀ v, (Y2.setCell ⟨b8, 3, none⟩ v).heap[b9]? = some (.cells #[.int .i64 k, .int .i64 m, .string s, .slice q2 f.len d2] 40 (0, 0)) := fun v => (Below.heap_setCell _ _ _ _ (fun e => h89 e.symm)).trans r9
              have v9 : ∀ v, (Y2.setCell ⟨b8, 3, none⟩ v).cell? ⟨b9, 3, none⟩ = some (.slice q2 f.len d2) := fun v => by simp [World.cell?, r9' v]
              have z9 : ∀ v, (Y2.setCell ⟨b8, 3, none⟩ v).frozen? ⟨b9, 3, none⟩ = false := fun v => frozen_there (r9' v) 3
              clear r8 r9 r9'
              try simp only [List.getElem_toArray, List.getElem_cons_zero, List.getElem_cons_succ, Act.put, List.setIfInBounds_toArray, List.set_cons_zero, List.set_cons_succ]
              refine wpAnyT_one (i := 11) (by kernel_rfl) rfl (by rfl) ?_
              intro K hK
              simp only [List.getElem_toArray, List.getElem_cons_zero, List.getElem_cons_succ]
              go_simp
              refine hK _ _ (fun c hc h => Sc.store8 (by omega) h89 hu8 hv8 c hc h) ?_
              clear hK K
              try simp only [List.getElem_toArray, List.getElem_cons_zero, List.getElem_cons_succ, Act.put, List.setIfInBounds_toArray, List.set_cons_zero, List.set_cons_succ]
              refine wpAnyT_take (i := 12) 2 (.pointer (some ⟨b9, 3, none⟩)) rfl (by kernel_rfl) (by kernel_rfl) (by kernel_rfl) (by kernel_rfl) (fun _ _ _ h => h) (by rfl) ?_ trivial ?_
              · intro w hSw
                go_simp
              simp only [List.getElem_toArray, List.getElem_cons_zero, List.getElem_cons_succ, Act.put, List.setIfInBounds_toArray, List.set_cons_zero, List.set_cons_succ]
              refine wpAnyT_one (i := 13) (by kernel_rfl) rfl (by rfl) ?_
              intro K hK
              simp only [List.getElem_toArray, List.getElem_cons_zero, List.getElem_cons_succ]
              go_simp
              refine hK _ _ (fun c hc h => Sc.store9 c hc) ?_
              clear hK K
              try simp only [List.getElem_toArray, List.getElem_cons_zero, List.getElem_cons_succ, Act.put, List.setIfInBounds_toArray, List.set_cons_zero, List.set_cons_succ]
              refine wpAnyT_done (by kernel_rfl) (NoPanic.normal ?_) _
              obtain ⟨hSt, hoth⟩ := M.ended (k' := k') (m' := m') (s' := s') (p1 := p1) (p2 := p2) (c1 := c1) (c2 := c2) (l := l) l8 l9 h89 ky8.out ky9.out kf1.out kf2.out kS1.out kS2.out F2.out I2.out
              have kSt : Hid _ := hSt
              have kEn : Hid _ := Env.far (Z := (Y2.setCell ⟨b8, 3, none⟩ (.slice (some ⟨j1, 0, none⟩) (f.len + 1) t1)).setCell ⟨b9, 3, none⟩ (.slice (some ⟨j2, 0, none⟩) (f.len + 1) t2)) (b8 := b8) (b9 := b9) kEX.out F2.out lba g8 g9 (by simp [World.setCell]) rfl rfl rfl hoth
              have aE : _ := kEn.out.2.2.1
              have aC : ((Y2.setCell ⟨b8, 3, none⟩ (.slice (some ⟨j1, 0, none⟩) (f.len + 1) t1)).setCell ⟨b9, 3, none⟩ (.slice (some ⟨j2, 0, none⟩) (f.len + 1) t2)).cell? ⟨ba, 0, none⟩ = some (.int .i64 (a' : Int)) := by simp [World.cell?, aE]
              have AC : Hid _ := aC
              clear hSt hoth aE aC v8 z8 v9 z9
              go_wp2_with fail
              go_roundw
              case rel =>
                refine ⟨i + 1, a', f.app (.cons k' m' s' l .nil), by go_num, by have := kn.out; omega, u1, u2, ?_, F.ok_app hfo.out ko.out, kEn, kSt⟩
                show _ ≤ _
                have h1 := hno.out
                have h2 := kn.out
                rw [F.nodes_app]
                simp only [F.nodes]
                omega
              case measure =>
                have h1 := kn.out
                rw [AC.out, a0'.out]
                simp [intOf]
                omega
          · intro K hK
            simp only [List.getElem_toArray, List.getElem_cons_zero, List.getElem_cons_succ]
            go_simp
            refine hK _ _ (fun c _ h => Sc.far (far_grow (grown1d X (.cells #[.int .i64 k', .int .i64 m', .string s', .slice p2 l.len c2] 40))) l8 l9 sa sb c h) ?_
            clear hK K
            try simp only [List.getElem_toArray, List.getElem_cons_zero, List.getElem_cons_succ, Act.put, List.setIfInBounds_toArray, List.set_cons_zero, List.set_cons_succ]
            refine wpAnyT_one (i := 3) (by kernel_rfl) rfl (by rfl) ?_
            intro K hK
            simp only [List.getElem_toArray, List.getElem_cons_zero, List.getElem_cons_succ]
            go_simp
            refine hK _ _ (fun c _ h => Sc.far (far_grow (grown1d (X.alloc (.cells #[.int .i64 k', .int .i64 m', .string s', .slice p2 l.len c2] 40)) (.cells #[.int .i64 k', .int .i64 m', .string s', .slice p1 l.len c1] 37))) l8 l9 sa sb c h) ?_
            clear hK K
            try simp only [List.getElem_toArray, List.getElem_cons_zero, List.getElem_cons_succ, Act.put, List.setIfInBounds_toArray, List.set_cons_zero, List.set_cons_succ]
            refine wpAnyT_one (i := 4) (by kernel_rfl) rfl (by rfl) ?_
            intro K hK
            refine wp_append_lies _ _ _ _ (by rfl) (W.heap.size + 5) 37 i1 _ 4 56 Try.underlying35 hi1 hz1 hs1 hb1 rfl (by omega) (.slice q1 f.len d1) f.len xs1 (by rfl) (I0.out.grow (grown_drew (grown2 X (.cells #[.int .i64 k', .int .i64 m', .string s', .slice p2 l.len c2] 40) (.cells #[.int .i64 k', .int .i64 m', .string s', .slice p1 l.len c1] 37)))).own1 ⟨X.heap.size + 1, 0, none⟩ 1 1 [.int .i64 k', .int .i64 m', .string s', .slice p1 l.len c1] (by rfl) (by rfl) (World.news_of_block (cs := #[.int .i64 k', .int .i64 m', .string s', .slice p1 l.len c1]) (t := 37) (fr := (0, 0)) (by have := heap_alloc_new (X.alloc (.cells #[.int .i64 k', .int .i64 m', .string s', .slice p2 l.len c2] 40)) (.cells #[.int .i64 k', .int .i64 m', .string s', .slice p1 l.len c1] 37); rw [World.size_alloc] at this; exact this)) (by simp [Value.oneCell']) (by omega) (by unfold maxLen; omega) (by omega) (I0.out.grow (grown_drew (grown2 X (.cells #[.int .i64 k', .int .i64 m', .string s', .slice p2 l.len c2] 40) (.cells #[.int .i64 k', .int .i64 m', .string s', .slice p1 l.len c1] 37)))).here _ rfl ?_
            intro j1 t1 Y1 o1 g1 at1 _
            have F0 : Far (W.heap.size + 5) S _ Y1 := far_one (I0.out.grow (grown_drew (grown2 X (.cells #[.int .i64 k', .int .i64 m', .string s', .slice p2 l.len c2] 40) (.cells #[.int .i64 k', .int .i64 m', .string s', .slice p1 l.len c1] 37)))) g1
            have F1 : Far (W.heap.size + 5) S X Y1 := (far_grow (grown_drew (grown2 X (.cells #[.int .i64 k', .int .i64 m', .string s', .slice p2 l.len c2] 40) (.cells #[.int .i64 k', .int .i64 m', .string s', .slice p1 l.len c1] 37)))).trans F0
            have I1 : Hid (Inv 37 40 (W.heap.size + 5) S (.slice (some ⟨j1, 0, none⟩) (f.len + 1) t1) (.slice q2 f.len d2) (f.len + 1) f.len (xs1 ++ [.int .i64 k', .int .i64 m', .string s', .slice p1 l.len c1]) xs2 Y1) := (I0.out.grow (grown_drew (grown2 X (.cells #[.int .i64 k', .int .i64 m', .string s', .slice p2 l.len c2] 40) (.cells #[.int .i64 k', .int .i64 m', .string s', .slice p1 l.len c1] 37)))).one o1 g1 at1
            have B2 : Hid (Y1.heap[X.heap.size]? = some (.cells #[.int .i64 k', .int .i64 m', .string s', .slice p2 l.len c2] 40 (0, 0))) := (g1.block _ (by simp [World.drew]; omega) (fun e => by have := (I0.out.own1.lt _ e.symm).2; omega)).trans ((Below.heap_alloc _ _ _ (by simp)).trans (heap_alloc_new X _))
            refine hK _ _ (fun c _ h => Sc.far F0 l8 l9 sa sb c h) ?_
            clear hK K o1 g1 at1 F0
            try simp only [List.getElem_toArray, List.getElem_cons_zero, List.getElem_cons_succ, Act.put, List.setIfInBounds_toArray, List.set_cons_zero, List.set_cons_succ]
            refine wpAnyT_take (i := 10) 2 (.pointer (some ⟨b8, 3, none⟩)) rfl (by kernel_rfl) (by kernel_rfl) (by kernel_rfl) (by kernel_rfl) (fun _ _ _ h => h) (by rfl) ?_ trivial ?_
            · intro w hSw
              go_simp
            simp only [List.getElem_toArray, List.getElem_cons_zero, List.getElem_cons_succ, Act.put, List.setIfInBounds_toArray, List.set_cons_zero, List.set_cons_succ]
            refine wpAnyT_one (i := 9) (by kernel_rfl) rfl (by rfl) ?_
            intro K hK
            refine wp_append_lies _ _ _ _ (by rfl) (W.heap.size + 5) 40 i2 _ 4 56 Try.underlying38 hi2 hz2 hs2 hb2 rfl (by omega) (.slice q2 f.len d2) f.len xs2 (by rfl) I1.out.own2 ⟨X.heap.size, 0, none⟩ 1 1 [.int .i64 k', .int .i64 m', .string s', .slice p2 l.len c2] (by rfl) (by rfl) (World.news_of_block (cs := #[.int .i64 k', .int .i64 m', .string s', .slice p2 l.len c2]) (t := 40) (fr := (0, 0)) B2.out) (by simp [Value.oneCell']) (by omega) (by unfold maxLen; omega) (by omega) I1.out.here _ rfl ?_
            intro j2 t2 Y2 o2 g2 at2 _
            have F3 : Far (W.heap.size + 5) S _ Y2 := far_two I1.out g2
            have F2 : Hid (Far (W.heap.size + 5) S X Y2) := F1.trans F3
            have I2 : Hid (Inv 37 40 (W.heap.size + 5) S (.slice (some ⟨j1, 0, none⟩) (f.len + 1) t1) (.slice (some ⟨j2, 0, none⟩) (f.len + 1) t2) (f.len + 1) (f.len + 1) (xs1 ++ [.int .i64 k', .int .i64 m', .string s', .slice p1 l.len c1]) (xs2 ++ [.int .i64 k', .int .i64 m', .string s', .slice p2 l.len c2]) Y2) := I1.out.two o2 g2 at2
            refine hK _ _ (fun c _ h => Sc.far F3 l8 l9 sa sb c h) ?_
            clear hK K o2 g2 at2 F3
            have r8 := (F2.out.stay b8 (lt_of_heap ky8.out) (.inl l8)).trans ky8.out
            have r9 := (F2.out.stay b9 (lt_of_heap ky9.out) (.inl l9)).trans ky9.out
            have v8 : Y2.cell? ⟨b8, 3, none⟩ = some (.slice q1 f.len d1) := by simp [World.cell?, r8]
            have z8 := frozen_there r8 3
            have r9' : ∀ v, (Y2.setCell ⟨b8, 3, none⟩ v).heap[b9]? = some (.cells #[.int .i64 k, .int .i64 m, .string s, .slice q2 f.len d2] 40 (0, 0)) := fun v => (Below.heap_setCell _ _ _ _ (fun e => h89 e.symm)).trans r9
            have v9 : ∀ v, (Y2.setCell ⟨b8, 3, none⟩ v).cell? ⟨b9, 3, none⟩ = some (.slice q2 f.len d2) := fun v => by simp [World.cell?, r9' v]
            have z9 : ∀ v, (Y2.setCell ⟨b8, 3, none⟩ v).frozen? ⟨b9, 3, none⟩ = false := fun v => frozen_there (r9' v) 3
            clear r8 r9 r9'
            try simp only [List.getElem_toArray, List.getElem_cons_zero, List.getElem_cons_succ, Act.put, List.setIfInBounds_toArray, List.set_cons_zero, List.set_cons_succ]
            refine wpAnyT_one (i := 11) (by kernel_rfl) rfl (by rfl) ?_
            intro K hK
            simp only [List.getElem_toArray, List.getElem_cons_zero, List.getElem_cons_succ]
            go_simp
            refine hK _ _ (fun c hc h => Sc.store8 (by omega) h89 hu8 hv8 c hc h) ?_
            clear hK K
            try simp only [List.getElem_toArray, List.getElem_cons_zero, List.getElem_cons_succ, Act.put, List.setIfInBounds_toArray, List.set_cons_zero, List.set_cons_succ]
            refine wpAnyT_take (i := 12) 2 (.pointer (some ⟨b9, 3, none⟩)) rfl (by kernel_rfl) (by kernel_rfl) (by kernel_rfl) (by kernel_rfl) (fun _ _ _ h => h) (by rfl) ?_ trivial ?_
            · intro w hSw
              go_simp
            simp only [List.getElem_toArray, List.getElem_cons_zero, List.getElem_cons_succ, Act.put, List.setIfInBounds_toArray, List.set_cons_zero, List.set_cons_succ]
            refine wpAnyT_one (i := 13) (by kernel_rfl) rfl (by rfl) ?_
            intro K hK
            simp only [List.getElem_toArray, List.getElem_cons_zero, List.getElem_cons_succ]
            go_simp
            refine hK _ _ (fun c hc h => Sc.store9 c hc) ?_
            clear hK K
            try simp only [List.getElem_toArray, List.getElem_cons_zero, List.getElem_cons_succ, Act.put, List.setIfInBounds_toArray, List.set_cons_zero, List.set_cons_succ]
            refine wpAnyT_done (by kernel_rfl) (NoPanic.normal ?_) _
            obtain ⟨hSt, hoth⟩ := M.ended (k' := k') (m' := m') (s' := s') (p1 := p1) (p2 := p2) (c1 := c1) (c2 := c2) (l := l) l8 l9 h89 ky8.out ky9.out kf1.out kf2.out kS1.out kS2.out F2.out I2.out
            have kSt : Hid _ := hSt
            have kEn : Hid _ := Env.far (Z := (Y2.setCell ⟨b8, 3, none⟩ (.slice (some ⟨j1, 0, none⟩) (f.len + 1) t1)).setCell ⟨b9, 3, none⟩ (.slice (some ⟨j2, 0, none⟩) (f.len + 1) t2)) (b8 := b8) (b9 := b9) kEX.out F2.out lba g8 g9 (by simp [World.setCell]) rfl rfl rfl hoth
            have aE : _ := kEn.out.2.2.1
            have aC : ((Y2.setCell ⟨b8, 3, none⟩ (.slice (some ⟨j1, 0, none⟩) (f.len + 1) t1)).setCell ⟨b9, 3, none⟩ (.slice (some ⟨j2, 0, none⟩) (f.len + 1) t2)).cell? ⟨ba, 0, none⟩ = some (.int .i64 (a' : Int)) := by simp [World.cell?, aE]
            have AC : Hid _ := aC
            clear hSt hoth aE aC v8 z8 v9 z9
            go_wp2_with fail
            go_roundw
            case rel =>
              refine ⟨i + 1, a', f.app (.cons k' m' s' l .nil), by go_num, by have := kn.out; omega, u1, u2, ?_, F.ok_app hfo.out ko.out, kEn, kSt⟩
              show _ ≤ _
              have h1 := hno.out
              have h2 := kn.out
              rw [F.nodes_app]
              simp only [F.nodes]
              omega
            case measure =>
              have h1 := kn.out
              rw [AC.out, a0'.out]
              simp [intOf]
              omega
        · have hcases : ¬ (i : Int) < c ∨ ((i : Int) < c ∧ ¬ (deep : Int) < 12) ∨ ((i : Int) < c ∧ (deep : Int) < 12 ∧ ¬ a < n) ∨ ((i : Int) < c ∧ (deep : Int) < 12 ∧ a < n ∧ ¬ (a : Int) < 400) := by omega
          clear hgo
          obtain ⟨S, q1, q2, d1, d2, xs1, xs2, y8, y9, hI, f1, f2⟩ := hS.out
          have y5 := hE.out.2.2.2.1
          have y6 := hE.out.2.2.2.2.1
          have v0 : wr.cell? ⟨b8, 0, none⟩ = some (.int .i64 k) := by simp [World.cell?, y8]
          have v1 : wr.cell? ⟨b8, 1, none⟩ = some (.int .i64 m) := by simp [World.cell?, y8]
          have v2 : wr.cell? ⟨b8, 2, none⟩ = some (.string s) := by simp [World.cell?, y8]
          have v3 : wr.cell? ⟨b8, 3, none⟩ = some (.slice q1 f.len d1) := by simp [World.cell?, y8]
          have t0 : wr.cell? ⟨b9, 0, none⟩ = some (.int .i64 k) := by simp [World.cell?, y9]
          have t1 : wr.cell? ⟨b9, 1, none⟩ = some (.int .i64 m) := by simp [World.cell?, y9]
          have t2 : wr.cell? ⟨b9, 2, none⟩ = some (.string s) := by simp [World.cell?, y9]
          have t3 : wr.cell? ⟨b9, 3, none⟩ = some (.slice q2 f.len d2) := by simp [World.cell?, y9]
          have r0 : wr.cell? ⟨W.heap.size, 0, none⟩ = some (.int .i64 0) := by simp [World.cell?, y5]
          have r1 : wr.cell? ⟨W.heap.size, 1, none⟩ = some (.int .i64 0) := by simp [World.cell?, y5]
          have r2 : wr.cell? ⟨W.heap.size, 2, none⟩ = some (.string ⟨#[]⟩) := by simp [World.cell?, y5]
          have r3 : wr.cell? ⟨W.heap.size, 3, none⟩ = some (.slice none 0 0) := by simp [World.cell?, y5]
          have o0 : wr.cell? ⟨W.heap.size + 1, 0, none⟩ = some (.int .i64 0) := by simp [World.cell?, y6]
          have o1 : wr.cell? ⟨W.heap.size + 1, 1, none⟩ = some (.int .i64 0) := by simp [World.cell?, y6]
          have o2 : wr.cell? ⟨W.heap.size + 1, 2, none⟩ = some (.string ⟨#[]⟩) := by simp [World.cell?, y6]
          have o3 : wr.cell? ⟨W.heap.size + 1, 3, none⟩ = some (.slice none 0 0) := by simp [World.cell?, y6]
          have z5 := frozen_there y5
          have z6 := frozen_there y6
          have ne1 : ¬ W.heap.size = b8 := by omega
          have ne2 : ¬ W.heap.size = b9 := by omega
          have ne3 : ¬ W.heap.size + 1 = b8 := by omega
          have ne4 : ¬ W.heap.size + 1 = b9 := by omega
          have G : Hid _ := finished hE.out hI f1 f2 rk rm rs hfo.out hno.out ha2 ha3 lba
          clear hI f1 f2 y5 y6 y8 y9
          rcases hcases with w1 | ⟨w1, w2⟩ | ⟨w1, w2, w3⟩ | ⟨w1, w2, w3, w4⟩
          all_goals
            go_wp2_with fail
            go_region_held3 (fun w' => w'.cell? ⟨b8, 0, none⟩ = some (.int .i64 k) ∧ w'.cell? ⟨b8, 1, none⟩ = some (.int .i64 m) ∧ w'.cell? ⟨b8, 2, none⟩ = some (.string s) ∧ w'.cell? ⟨b8, 3, none⟩ = some (.slice q1 f.len d1) ∧ w'.cell? ⟨b9, 0, none⟩ = some (.int .i64 k) ∧ w'.cell? ⟨b9, 1, none⟩ = some (.int .i64 m) ∧ w'.cell? ⟨b9, 2, none⟩ = some (.string s) ∧ w'.cell? ⟨b9, 3, none⟩ = some (.slice q2 f.len d2)) (go_keep) (fail)
            go_wp2_with fail
            exact bodyPost_ret (v := .tuple #[.agg #[.int .i64 k, .int .i64 m, .string s, .slice q1 f.len d1], .agg #[.int .i64 k, .int .i64 m, .string s, .slice q2 f.len d2]]) (by simp [results, Try.results12, go_sem, r0, r1, r2, r3, o0, o1, o2, o3]) rfl G.out

end Go.Proofs.Ytainajjklakaeaa.Wn
