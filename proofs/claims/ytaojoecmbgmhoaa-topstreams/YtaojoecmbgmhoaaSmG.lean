/-
  The walks of a stream's small methods, and of its lay: data stands in the cells of a half, from an index on, and lasts. Conditions: the stream and its disk lie in memory, as 'Sw' says.
-/
import Derived.Test.YtaojoecmbgmhoaaSmE
import Derived.Test.YtaojoecmbgmhoaaWd
namespace Go.Proofs.Ytaojoecmbgmhoaa.Wst
open Go.ChangeShapes Go.WideShapes Go.ChangeAt Go.RowKit Go.Proofs.Ytaojoecmbgmhoaa.M Go.Proofs.Ytaojoecmbgmhoaa.Wd

/-- A stream that fits its disk. -/
structure Sw (d : Dk) (s : Sm) : Prop where
  hi : s.i < d.k
  n3 : 3 ≤ (d.r s.i).n
  h : s.h = ((d.r s.i).n - 1) / 2
  half : s.half < 2
  g : 0 ≤ s.g ∧ s.g ≤ 281474976710655
  cap : (frs s.L).size + 1 ≤ 55 * s.h
theorem Sw.secs {d : Dk} {s : Sm} (h : Sw d s) : d.secs (s.i : Int) = (d.r s.i).n := by
  have := h.hi
  unfold Dk.secs Dk.has
  rw [if_pos (decide_eq_true ⟨by omega, by omega⟩), Int.toNat_natCast]
theorem Sw.capN {d : Dk} {s : Sm} (h : Sw d s) (hn : (d.r s.i).n ≤ 4096) : (if ((d.r s.i).n : Int) < 3 then 0 else Wst.capN (min ((d.r s.i).n : Int) 4096).toNat) = 55 * (s.h : Int) - 1 := by
  have := h.n3
  rw [if_neg (by omega), show (min ((d.r s.i).n : Int) 4096).toNat = (d.r s.i).n by omega, h.h]
  rfl

set_option maxRecDepth 100000 in
theorem usable {w : World} {S D : Nat} {s : Sm} {F : Nat → Prop} (hS : StL w S D s F) :
    Calls Try.prog 22 #[.pointer (some ⟨S, 0, none⟩)] w fun e w' => e = .returned (.int .i64 (if s.br = true then 13 else 0)) ∧ w = w' := by
  have k6 := hS.cell (i := 6) (v := .bool s.br) rfl
  clear hS
  by_cases c : s.br = true
  · rw [if_pos c]
    rw [c] at k6
    clear c
    go_enter Try.func22, Try.ntmps22
    go_wp2
    go_ret
    exact ⟨rfl, rfl⟩
  · rw [if_neg c]
    have c2 : s.br = false := by simpa using c
    rw [c2] at k6
    clear c c2
    go_enter Try.func22, Try.ntmps22
    go_wp2
    go_ret
    exact ⟨rfl, rfl⟩

set_option maxRecDepth 100000 in
theorem usableN (w : World) :
    Calls Try.prog 22 #[.pointer none] w fun e w' => e = .returned (.int .i64 1) ∧ w = w' := by
  go_enter Try.func22, Try.ntmps22
  go_wp2
  go_ret
  exact ⟨rfl, rfl⟩

set_option maxRecDepth 100000 in
theorem leftN (w : World) :
    Calls Try.prog 13 #[.pointer none] w fun e w' => e = .returned (.int .i64 0) ∧ w = w' := by
  go_enter Try.func13, Try.ntmps13
  go_wp2
  go_ret
  exact ⟨rfl, rfl⟩

set_option maxRecDepth 100000 in
set_option maxHeartbeats 400000 in
theorem capM {w : World} {S D : Nat} {s : Sm} {d : Dk} {F : Nat → Prop} {L : Ly} (h : DkL w D d F L) (hS : StL w S D s F) (hs : Sw d s) :
    Calls Try.prog 26 #[.pointer (some ⟨S, 0, none⟩)] w fun e w' => e = .returned (.int .i64 (55 * (s.h : Int) - 1)) ∧ Below w.heap.size w w' := by
  have k0 := hS.cell (i := 0) (v := .pointer (some ⟨D, 0, none⟩)) rfl
  have k1 := hS.cell (i := 1) (v := .int .i64 (s.i : Int)) rfl
  have C1 := hid (sectorsD (h.below ((Below.refl w.heap.size w).drew)) (s.i : Int))
  rw [hs.secs] at C1
  unfold dp at C1
  have C2 := hid fun w => capacity ((d.r s.i).n : Int) w
  rw [hs.capN (h.ok.r s.i hs.hi).n] at C2
  have hn := (h.ok.r s.i hs.hi).n
  have kk := And.intro k0 k1
  generalize 55 * (s.h : Int) - 1 = X at *
  generalize (d.r s.i).n = n at *
  clear h hS hs
  go_enter Try.func26, Try.ntmps26
  go_wp2_with fail
  go_region_held3 (fun w' => w'.cell? ⟨S, 0, none⟩ = some (.pointer (some ⟨D, 0, none⟩)) ∧ w'.cell? ⟨S, 1, none⟩ = some (.int .i64 (s.i : Int)))
    (first | exact kk | go_keep)
    (first | (go_at_call 18; refine C1.out.mono ?_; rintro e w1 ⟨rfl, rfl⟩) | (go_at_call 44; refine (C2.out _).mono ?_; rintro e w1 ⟨rfl, rfl⟩))
  go_wp2
  go_ret
  exact ⟨rfl, (Below.refl _ _).drew⟩

set_option maxRecDepth 100000 in
set_option maxHeartbeats 400000 in
theorem left {w : World} {S D : Nat} {s : Sm} {d : Dk} {F : Nat → Prop} {L : Ly} (h : DkL w D d F L) (hS : StL w S D s F) (hs : Sw d s) :
    Calls Try.prog 13 #[.pointer (some ⟨S, 0, none⟩)] w fun e w' => e = .returned (.int .i64 s.left) ∧ Below w.heap.size w w' := by
  have k4 := hS.cell (i := 4) (v := .int .i64 ((frs s.L).size : Int)) rfl
  have hl := hS.lt
  have C1 : Hid (Calls Try.prog 26 #[.pointer (some ⟨S, 0, none⟩)] w.drew fun e w' => e = .returned (.int .i64 (55 * (s.h : Int) - 1)) ∧ Hid (Below w.heap.size w w') ∧ w'.cell? ⟨S, 4, none⟩ = some (.int .i64 ((frs s.L).size : Int))) := by
    have b0 := (Below.refl w.heap.size w).drew
    refine (capM (h.below b0) (hS.below b0) hs).mono fun e w' ⟨q1, q2⟩ => ?_
    have q := b0.trans (q2.mono b0.size)
    exact ⟨q1, q, (q.cell hl).trans k4⟩
  have hn := (h.ok.r s.i hs.hi).n
  have hc := hs.cap
  have hh := hs.h
  have HX : Hid (s.left = 55 * (s.h : Int) - 1 - ((frs s.L).size : Int)) := rfl
  have hb : s.h ≤ 2047 := by rw [hh]; omega
  clear h hS hs hh hl
  generalize s.h = H at *
  generalize (frs s.L).size = z at *
  have wl : IntKind.i64.wrap (55 * (H : Int) - 1 - (z : Int)) = 55 * (H : Int) - 1 - (z : Int) := by rw [IntKind.wrap_i64]; omega
  go_enter Try.func13, Try.ntmps13
  go_wp2_with fail
  go_region_held3 (fun w' => w'.cell? ⟨S, 4, none⟩ = some (.int .i64 (z : Int)))
    (first | exact k4 | go_keep)
    ((go_at_call 26; refine C1.out.mono ?_; rintro e w1 ⟨rfl, hB, k4⟩))
  go_wp2
  go_ret
  refine ⟨?_, hB.out⟩
  rw [HX.out]
  rfl

/-- A row of texts that was made behind F and the stream. -/
theorem own_ap {w : World} {base e k S : Nat} {v : Value} {xs : List Value} {f : Nat → ByteArray} {F : Nat → Prop} (h : w.ownsRow base e 1 v k xs) (hx : ∀ j, j < k → xs[j]? = some (.string (f j))) (hF : ∀ b, F b → b < base) (hS : S < base) :
    ∃ a cap, v = .slice a k cap ∧ k ≤ cap ∧ cap ≤ maxLen ∧ Ap w F S a k f := by
  obtain ⟨a, cap, h1, h2, h3, h4⟩ := War.own_lies h hx
  refine ⟨a, cap, h1, h2, h3, ?_⟩
  rcases h4 with h4 | ⟨b, off, h5, h6, h7⟩
  · exact .inl h4
  · have hl := h.lt b (by rw [h1, h5]; rfl)
    exact .inr ⟨b, off, h5, h6, fun e => by have := hF b e; omega, by omega, h7⟩
theorem Ap.below {w w' : World} {F : Nat → Prop} {S : Nat} {p : Option Addr} {m : Nat} {c : Nat → ByteArray} (h : Ap w F S p m c) (b : Below w.heap.size w w') : Ap w' F S p m c := by
  rcases h with h | ⟨b0, off, h1, h2, h3, h4, h5⟩
  · exact .inl h
  · exact .inr ⟨b0, off, h1, Nat.lt_of_lt_of_le h2 b.size, h3, h4, fun i hi => (b.cell h2).trans (h5 i hi)⟩
/-- What is made ahead of a write. -/
theorem WrP.pull {F : Nat → Prop} {S D : Nat} {s : Sm} {X : Int} {Y : Dk} {w w1 w' : World} {e : Ending} (h : WrP F S D s X Y w1 e w') (b : Below w.heap.size w w1) (hS : S < w.heap.size) (hF : ¬ F S) : WrP F S D s X Y w e w' := by
  obtain ⟨h1, ⟨L', h2⟩, h3, h4⟩ := h
  have gg : ∀ b, Gr F w1 w' b → Gr F w w' b := fun i hi => hi.elim .inl fun hi => .inr ⟨Nat.le_trans b.size hi.1, hi.2⟩
  refine ⟨h1, ⟨L', h2.more gg fun i hi => ?_⟩, ⟨h3.at_, fun e => e.elim hF fun e => by omega⟩, ?_⟩
  · rcases hi with hi | hi
    · exact h2.lt i (.inl hi)
    · exact hi.2
  · exact (Kept.of_below (F := Fs F S) b).trans (h4.mono fun i _ hi => .inl hi)

set_option maxRecDepth 100000 in
set_option maxHeartbeats 800000 in
theorem lay {w : World} {S D : Nat} {s : Sm} {d : Dk} {F : Nat → Prop} {L : Ly} (h : DkL w D d F L) (hS : StL w S D s F) (hs : Sw d s) (hq : ∀ j, j < d.k → (d.r j).q.length ≤ 1000000) (g : Int) (half f : Nat) (data : ByteArray) (hg : 1 ≤ g ∧ g ≤ 281474976710655) (hh : half < 2) (hf : f ≤ 2100) (hd : data.size ≤ 118000) :
    Calls Try.prog 24 #[.pointer (some ⟨S, 0, none⟩), hv g half, .int .i64 (f : Int), .string data] w fun e w' => WrP F S D s (layX s.i (1 + half * s.h + f) (sp g (f : Int) data) 0 (data.size / 55 + 1) d) (layD s.i (1 + half * s.h + f) (sp g (f : Int) data) 0 (data.size / 55 + 1) d) w e w' := by
  obtain ⟨X, hX⟩ : ∃ X, X = w.alloc (.cells #[.int .i64 g, .int .i64 (half : Int)] 64) := ⟨_, rfl⟩
  have bX : Below w.heap.size w X := by rw [hX]; exact (Below.refl _ _).alloc (Nat.le_refl _) _
  have zX : X.heap.size = w.heap.size + 1 := by rw [hX]; simp
  have hx : X.heap[w.heap.size]? = some (.cells #[.int .i64 g, .int .i64 (half : Int)] 64 (0, 0)) := by rw [hX]; exact heap_alloc_last w _
  have xc0 := blk_cell (l := [.int .i64 g, .int .i64 (half : Int)]) hx (i := 0) rfl
  have HX := hid hX
  clear hX
  have sOk : sE g (f : Int) data = 0 ∧ sN g (f : Int) data = data.size / 55 + 1 := War.s_ok ⟨hg.1, hg.2, by omega, by omega⟩ (by omega)
  have CS := hid (War.split g (f : Int) data X (by omega))
  rw [sOk.1, sOk.2] at CS
  have hn := (h.ok.r s.i hs.hi).n
  have hb : s.h ≤ 2047 := by rw [hs.h]; omega
  have hbb : half * s.h ≤ 2047 := by
    rcases (by omega : half = 0 ∨ half = 1) with rfl | rfl <;> omega
  obtain ⟨m, hm⟩ : ∃ m, m = data.size / 55 + 1 := ⟨_, rfl⟩
  have m5 : m ≤ 5000 := by omega
  rw [← hm] at CS ⊢
  have lt := h.lt
  have sl := hS.lt
  have GET := hid fun j (hj : j < m) => spv_get g (f : Int) data (n := m) (j := j) hj
  generalize spv g (f : Int) data m = xs at CS GET
  have START := hid (startOf half (d.r s.i).n)
  have NEXT : Hid (∀ W p cap, Below X.heap.size X W → Ap W F S p m (sp g (f : Int) data) → Calls Try.prog 18 #[.pointer (some ⟨D, 0, none⟩), .int .i64 (s.i : Int)] W.drew (fun e w' => e = .returned (.int .i64 ((d.r s.i).n : Int)) ∧ W.drew = w') ∧ (∀ z, z = ((1 + half * s.h + f : Nat) : Int) → Calls Try.prog 38 #[.pointer (some ⟨S, 0, none⟩), .int .i64 z, .slice p m cap] W.drew fun e w' => e = .returned (.int .i64 (layX s.i (1 + half * s.h + f) (sp g (f : Int) data) 0 m d)) ∧ Hid (WrP F S D s (layX s.i (1 + half * s.h + f) (sp g (f : Int) data) 0 m d) (layD s.i (1 + half * s.h + f) (sp g (f : Int) data) 0 m d) w e w') ∧ (w'.cell? ⟨S, 0, none⟩ = some (.pointer (some ⟨D, 0, none⟩)) ∧ w'.cell? ⟨S, 1, none⟩ = some (.int .i64 (s.i : Int)) ∧ w'.cell? ⟨w.heap.size, 1, none⟩ = some (.int .i64 (half : Int)))) ∧ (W.cell? ⟨S, 0, none⟩ = some (.pointer (some ⟨D, 0, none⟩)) ∧ W.cell? ⟨S, 1, none⟩ = some (.int .i64 (s.i : Int)) ∧ W.cell? ⟨w.heap.size, 1, none⟩ = some (.int .i64 (half : Int)))) := fun W p cap hW hA => by
    have bW : Below w.heap.size w W := bX.trans (hW.mono bX.size)
    have bD : Below w.heap.size w W.drew := bW.drew
    have bw : Below W.heap.size W W.drew := (Below.refl _ _).drew
    have hxW : W.heap[w.heap.size]? = some (.cells #[.int .i64 g, .int .i64 (half : Int)] 64 (0, 0)) := (hW.block _ (by omega)).trans hx
    refine ⟨?_, fun z hz => ?_, ?_⟩
    · have C := sectorsD (h.below bD) (s.i : Int)
      rw [hs.secs] at C
      exact C
    · subst hz
      refine (write (h.below bD) (hS.below bD) hq (1 + half * s.h + f) m (by omega) m5 p cap _ (hA.below bw)).mono ?_
      rintro e w' hw
      have hp := hw.pull bD sl hS.nf
      refine ⟨hw.1, hp, hw.2.2.1.cell (i := 0) rfl, hw.2.2.1.cell (i := 1) rfl, ?_⟩
      have := (hw.2.2.2.block w.heap.size (show w.heap.size < W.drew.heap.size from blk_lt hxW) (fun e => e.elim (fun e => by have := lt _ e; omega) fun e => by omega)).trans hxW
      exact blk_cell (l := [.int .i64 g, .int .i64 (half : Int)]) this rfl
    · exact ⟨(hS.below bW).cell (i := 0) rfl, (hS.below bW).cell (i := 1) rfl, blk_cell (l := [.int .i64 g, .int .i64 (half : Int)]) hxW rfl⟩
  have OA := hid fun (W : World) (v : Value) (own : W.ownsRow X.heap.size 9 1 v m xs) => own_ap (S := S) (F := F) own GET.out (fun b hb => by have := lt b hb; omega) (by omega)
  have hz : ((1 + half * ((((d.r s.i).n - 1) / 2)) : Nat) : Int) + (f : Int) = ((1 + half * s.h + f : Nat) : Int) := by rw [hs.h]; omega
  have h3 := hs.n3
  rw [hs.h] at hbb
  generalize layX s.i (1 + half * s.h + f) (sp g (f : Int) data) 0 m d = RX at *
  generalize layD s.i (1 + half * s.h + f) (sp g (f : Int) data) 0 m d = RD at *
  generalize sp g (f : Int) data = c at *
  generalize (d.r s.i).n = n at *
  generalize half * ((n - 1) / 2) = hb2 at *
  clear h hS hs lt sl GET bX zX hx sOk hm
  unfold hv
  go_enter Try.func24, Try.ntmps24
  go_wp2_with fail
  rw [← HX.out]
  refine CS.out.mono ?_
  rintro e w1 ⟨v, rfl, own, b1⟩
  obtain ⟨p, cap, rfl, _, _, hA⟩ := OA.out w1 v own
  obtain ⟨N1, N2, kk⟩ := NEXT.out w1 p cap b1 hA
  have N1 := hid N1
  have N2 := hid (N2 (1 + (hb2 : Int) + (f : Int)) (by rw [← hz]; omega))
  clear NEXT OA own hA CS
  have wr1 : IntKind.i64.wrap (1 + (hb2 : Int) + (f : Int)) = 1 + (hb2 : Int) + (f : Int) := by rw [IntKind.wrap_i64]; omega
  have ST1 := hid fun w => START.out w (by omega) (by omega) (by omega)
  clear START
  go_wp2_with fail
  go_region_held3 (fun w' => w'.cell? ⟨S, 0, none⟩ = some (.pointer (some ⟨D, 0, none⟩)) ∧ w'.cell? ⟨S, 1, none⟩ = some (.int .i64 (s.i : Int)) ∧ w'.cell? ⟨w.heap.size, 1, none⟩ = some (.int .i64 (half : Int)))
    (first | exact kk | go_keep)
    (first | (go_at_call 18; refine N1.out.mono ?_; rintro e w2 ⟨rfl, rfl⟩) | (go_at_call 33; refine (ST1.out _).mono ?_; rintro e w2 ⟨rfl, rfl⟩) | (go_at_call 38; refine N2.out.mono ?_; rintro e w2 ⟨rfl, hB, kk⟩))
  go_wp2
  go_ret
  exact hB.out

end Go.Proofs.Ytaojoecmbgmhoaa.Wst
