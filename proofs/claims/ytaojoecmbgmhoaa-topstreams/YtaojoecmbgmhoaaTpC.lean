/-
  An Append of the law TopStreams, what is left of room, and the law's memory at its start. Conditions: the law's memory is as its predicate says, the regions are as the plain one says.
-/
import Derived.Test.YtaojoecmbgmhoaaTpO
namespace Go.Proofs.Ytaojoecmbgmhoaa.Wtp
open Go.ChangeShapes Go.WideShapes Go.ChangeAt Go.RowKit Go.Proofs.Ytaojoecmbgmhoaa.M Go.Proofs.Ytaojoecmbgmhoaa.Wd Go.Proofs.Ytaojoecmbgmhoaa.Wst

section
variable {V w : World} {P C D lost : Nat} {d : Dk} {s : Nat → Sm} {L : Nat → List ByteArray} {m : Nat → ByteArray} {F G : Nat → Prop} {SP : Nat → Nat} {sv v : Nat → Value}

/-- An Append that went well; one that was refused; one in which the power failed. -/
def AyP (V : World) (P C D lost k : Nat) (L : Nat → List ByteArray) (m : Nat → ByteArray) (SP : Nat → Nat) (sv v : Nat → Value) (g : Int) (b : ByteArray) (w' : World) : Prop :=
  ∃ d' s' F' G', Tp V w' P C D 2 2 lost d' s' L m F' G' SP sv v ∧ Pq 2 d' s' (upd L k (L k ++ [b])) m g
def AzP (V : World) (P C D lost : Nat) (d : Dk) (s : Nat → Sm) (L : Nat → List ByteArray) (m : Nat → ByteArray) (SP : Nat → Nat) (sv v : Nat → Value) (w' : World) : Prop :=
  ∃ F' G', Tp V w' P C D 2 2 lost d s L m F' G' SP sv v
def AnP (V : World) (P C D lost k : Nat) (L : Nat → List ByteArray) (m : Nat → ByteArray) (SP : Nat → Nat) (sv v : Nat → Value) (g : Int) (b : ByteArray) (w' : World) : Prop :=
  ∃ d' s' F' G', Tp V w' P C D 0 0 lost d' s' L m F' G' SP sv v ∧ Pq 0 d'.on s' L (upd m k b) g
theorem Pq.any {d : Dk} {s s' : Nat → Sm} {L : Nat → List ByteArray} {m : Nat → ByteArray} {g : Int} (h : Pq 0 d s L m g) : Pq 0 d s' L m g := ⟨h.kk, fun j hj => absurd hj (Nat.not_lt_zero j), h.rest⟩

theorem tapp (h : Tp V w P C D 2 2 lost d s L m F G SP sv v) {g : Int} (q : Pq 2 d s L m g) {k : Nat} (hk : k < 2) (b : ByteArray) (hb : b.size ≤ 200) :
    Calls Try.prog 12 #[.pointer (some ⟨SP k, 0, none⟩), .string b] w fun e w' =>
      (e = .returned (.int .i64 0) ∧ Hid (AyP V P C D lost k L m SP sv v g b w')) ∨
      (e = .returned (.int .i64 2) ∧ b.size = 0 ∧ Hid (AzP V P C D lost d s L m SP sv v w')) ∨
      (e = .returned (.int .i64 12) ∧ ¬ b.size = 0 ∧ (s k).left < (b.size : Int) + 6 ∧ Hid (AzP V P C D lost d s L m SP sv v w')) ∨
      (e = .returned (.int .i64 11) ∧ Hid (AnP V P C D lost k L m SP sv v g b w')) := by
  obtain ⟨o, hi, hL, hg, hm⟩ := q.on k hk
  obtain ⟨st, hV, _, _⟩ := h.st k hk
  have ss : Ss V w (SP k) D (s k) d F := ⟨h.o, st, hV⟩
  refine (append_on ss o (fun j hj _ => q.q j hj) b (by unfold maxLen; omega)).mono fun e w' c => ?_
  obtain ⟨kp, c⟩ := c
  have hE := apE_of o b
  rcases c with ⟨q1, e1, s1⟩ | ⟨q1, e1, d', s1, on, oth, k1, _⟩ | ⟨q1, e1, _, d', s', s1, dn, k1, oth⟩
  · have T := h.call (i := k) hk s1 kp
    have T' : Tp V w' P C D 2 2 lost d s L m (Gr F w w') (Gr G w w') SP sv v := by
      have : upd s k (s k) = s := funext fun j => upd_congr rfl j
      rw [this] at T
      exact T
    by_cases cb : b.size = 0
    · right; left
      have : (s k).apE b = 2 := by
        rw [hE]
        have hf : frE b = 2 := if_pos cb
        rw [hf, if_neg (by decide)]
      rw [this] at e1
      exact ⟨e1, cb, _, _, T'⟩
    · right; right; left
      have hf : frE b = 0 := frE_ok.2 ⟨by omega, by omega⟩
      rw [if_pos hf] at hE
      by_cases cl : (s k).left < (b.size : Int) + 6
      · rw [if_pos cl] at hE
        rw [hE] at e1
        exact ⟨e1, cb, cl, _, _, T'⟩
      · rw [if_neg cl] at hE
        exact absurd hE q1
  · left
    have T := h.call (i := k) hk s1 kp
    exact ⟨e1, d', _, _, _, T, q.put hk on k1 (fun j hj => oth j (by rw [hi]; exact hj))⟩
  · right; right; right
    have T := h.call (i := k) hk s1 kp
    have hb1 : ¬ b.size = 0 := fun cb => by
      have hf : frE b = 2 := if_pos cb
      rw [hf, if_neg (by decide)] at hE
      rw [hE] at q1
      cases q1
    rw [hi, hL] at dn
    have oth' : ∃ K, ∀ j, j ≠ k → d'.r j = (d.r j).set (kb K j) := by
      obtain ⟨K, hK⟩ := oth
      exact ⟨K, fun j hj => hK j (by rw [hi]; exact hj)⟩
    have fin : ∀ X, Down d' k 61 X (s k).g → (X = L k ∨ (¬ (upd m k b k).size = 0 ∧ X = L k ++ [upd m k b k])) → Pq 0 d'.on s L (upd m k b) g := fun X dn hX => by
      have dn' : Down d' k 61 X g := by
        obtain ⟨y, h1, h2, h3⟩ := dn.r
        exact ⟨dn.off, dn.ask, dn.hi, dn.hn, ⟨y, h1, h2, by omega⟩, dn.cap⟩
      exact (q.fails hk (Int.le_refl g) dn' k1 oth' hX fun j hj => upd_off _ _ hj).1
    refine ⟨e1, d', _, _, _, T.fewer 0 0 (by omega) (by omega) (Nat.le_refl _), Pq.any (s := s) ?_⟩
    rcases dn with dn | dn
    · exact fin _ dn (.inl rfl)
    · exact fin _ dn (.inr ⟨by rw [upd_at]; exact hb1, by rw [upd_at]⟩)

theorem tleft (h : Tp V w P C D 2 2 lost d s L m F G SP sv v) {g : Int} (q : Pq 2 d s L m g) {k : Nat} (hk : k < 2) :
    Calls Try.prog 13 #[.pointer (some ⟨SP k, 0, none⟩)] w fun e w' => e = .returned (.int .i64 (s k).left) ∧ Hid (AzP V P C D lost d s L m SP sv v w') := by
  obtain ⟨o, _⟩ := q.on k hk
  obtain ⟨st, _⟩ := h.st k hk
  obtain ⟨Ly, l⟩ := h.o.at_
  exact (left l st (On.sw o).1).mono fun e w' ⟨e1, b⟩ => ⟨e1, _, _, h.below b⟩
end

/-- The law's memory at its start. -/
theorem tp_start {V w : World} {C D : Nat} {d : Dk} {F : Nat → Prop} (o : One V w D d F) : let P := w.heap.size
    let o0 : Obj := .cells #[.pointer (some ⟨D, 0, none⟩)] 25
    let o1 : Obj := .cells #[.pointer none, .pointer none] 28
    let o2 : Obj := .cells #[.slice none 0 0, .slice none 0 0] 30
    let o3 : Obj := .cells #[.string ⟨#[]⟩, .string ⟨#[]⟩] 31
    let o4 : Obj := .cells #[.int .i64 0] 3
    let o5 : Obj := .cells #[.func (.func 6) #[] #[.pointer (some ⟨P + 4, 0, none⟩), .pointer (some ⟨C, 0, none⟩), .pointer (some ⟨P, 0, none⟩)]] 1
    Tp V ((((((w.alloc o0).alloc o1).alloc o2).alloc o3).alloc o4).alloc o5) P C D 0 0 0 d (fun _ => ⟨0, 0, 0, 0, [], false⟩) (fun _ => []) (fun _ => ⟨#[]⟩) F (fun b => F b ∨ (P ≤ b ∧ b < P + 6)) (fun _ => 0) (fun _ => .pointer none) (fun _ => .slice none 0 0) := by
  intro P o0 o1 o2 o3 o4 o5
  have bel : Below w.heap.size w ((((((w.alloc o0).alloc o1).alloc o2).alloc o3).alloc o4).alloc o5) := ((((((Below.refl _ _).alloc (Nat.le_refl _) _).alloc (by simp) _).alloc (by simp; omega) _).alloc (by simp; omega) _).alloc (by simp; omega) _).alloc (by simp; omega) _
  have hz : ((((((w.alloc o0).alloc o1).alloc o2).alloc o3).alloc o4).alloc o5).heap.size = w.heap.size + 6 := by simp
  have al : ∀ (W : World) (o : Obj) (k : Nat) (x : Obj), W.heap[k]? = some x → (W.alloc o).heap[k]? = some x := fun W o k x h => by
    rw [heap_alloc_old W o (blk_lt h)]
    exact h
  have la : ∀ (W : World) (o : Obj) (k : Nat), W.heap.size = k → (W.alloc o).heap[k]? = some o := fun W o k h => by
    rw [← h]
    exact heap_alloc_last W o
  have z0 : (w.alloc o0).heap.size = P + 1 := by simp [P]
  have z1 : ((w.alloc o0).alloc o1).heap.size = P + 2 := by simp [P]
  have z2 : (((w.alloc o0).alloc o1).alloc o2).heap.size = P + 3 := by simp [P]
  have z3 : ((((w.alloc o0).alloc o1).alloc o2).alloc o3).heap.size = P + 4 := by simp [P]
  have z4 : (((((w.alloc o0).alloc o1).alloc o2).alloc o3).alloc o4).heap.size = P + 5 := by simp [P]
  exact { o := o.below bel, p := al _ _ _ _ (al _ _ _ _ (al _ _ _ _ (al _ _ _ _ (al _ _ _ _ (la w o0 _ rfl))))), hs := al _ _ _ _ (al _ _ _ _ (al _ _ _ _ (al _ _ _ _ (la _ o1 _ z0)))), ht := al _ _ _ _ (al _ _ _ _ (al _ _ _ _ (la _ o2 _ z1))), hm := al _ _ _ _ (al _ _ _ _ (la _ o3 _ z2)), hl := al _ _ _ _ (la _ o4 _ z3), ha := la _ o5 _ z4,
          st := fun j hj => absurd hj (Nat.not_lt_zero j), sp := fun j hj => absurd hj (Nat.not_lt_zero j), ne := fun i j hi => absurd hi (Nat.not_lt_zero i), hn := Nat.le_refl _, r := fun k _ => Rw.nil _ _ _, dis := fun i j b _ _ _ hb => (by cases hb), gF := fun b h => .inl h,
          gP := fun b h1 h2 => ⟨.inr ⟨h1, h2⟩, fun c => by have := one_lt o c; show False; omega⟩, glt := fun b hb => by
            rw [hz]
            rcases hb with hb | hb
            · have := one_lt o hb
              omega
            · exact hb.2
          hV := o.bel.size }

/-- A disk of two regions. -/
theorem newTwo {W w : World} (bel : Below W.heap.size W w) :
    Calls Try.prog 5 #[.slice (some ⟨w.heap.size, 0, none⟩) 2 2] (w.alloc (.cells #[.int .i64 61, .int .i64 61] 3)) fun e w' => e = .returned (.pointer (some ⟨w.heap.size + 1, 0, none⟩)) ∧ Hid (∃ F, One W w' (w.heap.size + 1) (newD (fun _ => 61) 2) F) := by
  have bA : Below w.heap.size w (w.alloc (.cells #[.int .i64 61, .int .i64 61] 3)) := (Below.refl _ _).alloc (Nat.le_refl _) _
  have C := One.new (bel.trans (bA.mono bel.size)) (some ⟨w.heap.size, 0, none⟩) 2 2 (fun _ => 61) (by omega) (by omega) (fun j hj => ⟨w.heap.size, 0, rfl, by simp, by
    match j, hj with
    | 0, _ => exact blk_cell (l := [_, _]) (heap_alloc_last w _) rfl
    | 1, _ => exact blk_cell (l := [_, _]) (heap_alloc_last w _) rfl⟩)
  rw [show (w.alloc (.cells #[.int .i64 61, .int .i64 61] 3)).heap.size = w.heap.size + 1 by simp] at C
  exact C.mono fun e w' ⟨h1, h2, _⟩ => ⟨h1, _, h2⟩

end Go.Proofs.Ytaojoecmbgmhoaa.Wtp
