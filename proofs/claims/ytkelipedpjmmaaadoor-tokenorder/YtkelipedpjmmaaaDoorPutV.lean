/-
  The walks of pack.bytesOf, of the literal in pack.Put, and of pack.Put: the bytes that 'enc1' says of the value that is handed in, and 0; or no bytes, and the first error. Nothing that was in memory has turned. Conditions: the value can be read and fits a machine, and all bytes are at most 2^47.
-/
import Derived.Test.YtkelipedpjmmaaaDoorWriteL
import Derived.Test.YtkelipedpjmmaaaDoorCaught
namespace Go.Proofs.YtkelipedpjmmaaaDoor.Wu
open Go.ChangeShapes Go.WideShapes Go.ChangeAt Go.RowKit Go.Proofs.YtkelipedpjmmaaaDoor.M Go.Proofs.YtkelipedpjmmaaaDoor.Wf Go.Proofs.YtkelipedpjmmaaaDoor.We Go.Proofs.YtkelipedpjmmaaaDoor.Ww

/-- A value's bytes, or its first error. -/
def encV (k n : Int) (s : ByteArray) (f : F) : Except Int (List UInt8) := enc1 k n s f.len 0 (encF f 1)

theorem enc1_some {k n : Int} {s : ByteArray} {len d : Nat} {x : Except Int (List UInt8)} {a : List UInt8} (h : enc1 k n s len d x = .ok a) : a ≠ [] := by
  unfold enc1 at h
  split at h
  · cases h; simp [numB]
  · split at h
    · split at h
      · cases h
      · cases h; simp
    · split at h
      · split at h
        · cases h
        · cases x with
          | ok b => cases h; simp
          | error e => cases h
      · cases h

theorem fresh (w : World) : Bd (w.alloc (.cells #[.pointer none, .slice none 0 0] 107)) w.heap.size [] :=
  .inl ⟨Nat.le_refl _, .slice none 0 0, heap_alloc_new w _, World.ownsRow_nil _ _ _ _, by simp [Value.ownBlock]⟩

/-- How a making of bytes ends. -/
def gaveOf : Except Int (List UInt8) → Ending
  | .ok a => .returned (.string ⟨a.toArray⟩)
  | .error c => .panicked (flt c)

theorem bytesOf (k n : Int) (s : ByteArray) (f : F) (p : Option Addr) (cap : Nat) (A : Nat → Prop) (w : World) (hok : (F.cons k n s f .nil).ok) (hL : Rd w A (.slice p f.len cap) f) (hl : wt1 k n s f.wt ≤ 140737488355328) (r : Except Int (List UInt8)) (hr : Hid (r = encV k n s f)) :
    Calls Tryd.prog 38 #[.agg #[.int .i64 k, .int .i64 n, .string s, .slice p f.len cap]] w fun e w' => Below w.heap.size w w' ∧ e = gaveOf r := by
  have CC : Hid (∀ W0 W, Below w.heap.size w W0 → W0.heap.size = w.heap.size + 1 → W = W0.alloc (.cells #[.pointer none, .slice none 0 0] 107) → Calls Tryd.prog 53 #[.pointer (some ⟨w.heap.size + 1, 0, none⟩), .agg #[.int .i64 k, .int .i64 n, .string s, .slice p f.len cap], .int .i64 0] W fun e w' => Wrote r (w.heap.size + 1) [] W e w') :=
    fun W0 W h0 hz hW => by
      rw [hr.out]
      have hb : Bd W (w.heap.size + 1) [] := by rw [hW, ← hz]; exact fresh W0
      have h2 : Below w.heap.size w W := by rw [hW]; exact h0.alloc (by omega) _
      have hL' : Rd W (fun g => g < w.heap.size + 1) (.slice p f.len cap) f := rd_of (fun g h => by omega) (fun g h o ho => (h2.block g h.2).trans ho) (rd_size hL)
      exact value0 (w.heap.size + 1) [] k n s f p cap 0 W hok hb (by simpa using hl) (fun hk W' hW' => by
        subst hk
        have e0 : ∀ x, enc1 2 n s f.len 0 x = enc1 2 0 ⟨#[]⟩ f.len 0 x := fun x => by simp [enc1]
        rw [e0]
        exact Ww.list (f.nodes + 1) f _ 0 _ [] W' (Nat.lt_succ_self _) hok.2.2.2.1 (by omega) (rd_below hL' hW') (hb.below hW') (by simpa [wt1] using hl))
  have HE : Hid (∀ a, r = .ok a → a ≠ []) := fun a h => enc1_some (show enc1 k n s f.len 0 (encF f 1) = .ok a from by rw [← h, hr.out]; rfl)
  clear hr hL hl hok
  go_enter Tryd.func38, Tryd.ntmps38
  go_wp2_with fail
  refine (CC.out _ _ ((Below.refl _ _).alloc (Nat.le_refl _) _) (by simp) rfl).mono ?_
  rintro e w1 ⟨b1, h1⟩
  have hb : Below w.heap.size w w1 := (((Below.refl _ _).alloc (Nat.le_refl _) _).alloc (by simp) _).trans (b1.mono (by omega))
  cases r with
  | ok a =>
    obtain ⟨rfl, d1⟩ := h1
    have D1 : Hid _ := d1
    have hne : Hid _ := HE.out a rfl
    clear d1
    go_wp2_with fail
    refine (Wd.string _ _ a _ D1.out hne.out).mono ?_
    rintro e w2 ⟨rfl, b2⟩
    go_wp2_with fail
    go_ret
    exact ⟨hb.trans (b2.mono (by omega)), rfl⟩
  | error c =>
    simp only at h1
    subst h1
    go_wp2_with fail
    exact ⟨rfl, hb, rfl⟩

/-- What the literal leaves: the text in its cell, or nothing. -/
def Left1 (bs : Nat) (r : Except Int (List UInt8)) (W w' : World) : Prop := match r with
  | .ok a => ∃ w0, Below W.heap.size W w0 ∧ w' = w0.setCell ⟨bs, 0, none⟩ (.string ⟨a.toArray⟩)
  | .error _ => Below W.heap.size W w'

theorem lit (bv bs : Nat) (k n : Int) (s : ByteArray) (f : F) (p : Option Addr) (cap : Nat) (A : Nat → Prop) (w : World) (t : ByteArray) (hok : (F.cons k n s f .nil).ok) (hL : Rd w A (.slice p f.len cap) f) (hl : wt1 k n s f.wt ≤ 140737488355328) (r : Except Int (List UInt8)) (hr : Hid (r = encV k n s f))
    (hv : w.heap[bv]? = some (.cells #[.int .i64 k, .int .i64 n, .string s, .slice p f.len cap] 50 (0, 0))) (hs : w.heap[bs]? = some (.cells #[.string t] 9 (0, 0))) :
    Calls Tryd.prog 37 #[.pointer (some ⟨bv, 0, none⟩), .pointer (some ⟨bs, 0, none⟩)] w fun e w' => Left1 bs r w w' ∧ e = endOf r := by
  have CC : Hid (Calls Tryd.prog 38 #[.agg #[.int .i64 k, .int .i64 n, .string s, .slice p f.len cap]] w fun e w' => Below w.heap.size w w' ∧ e = gaveOf r) := bytesOf k n s f p cap A w hok hL hl r hr
  have v0 : w.cell? ⟨bv, 0, none⟩ = some (.int .i64 k) := by simp [World.cell?, hv]
  have v1 : w.cell? ⟨bv, 1, none⟩ = some (.int .i64 n) := by simp [World.cell?, hv]
  have v2 : w.cell? ⟨bv, 2, none⟩ = some (.string s) := by simp [World.cell?, hv]
  have v3 : w.cell? ⟨bv, 3, none⟩ = some (.slice p f.len cap) := by simp [World.cell?, hv]
  have hlt := lt_of_heap hs
  have HS : Hid _ := hs
  clear hok hL hl hr hv hs
  go_enter Tryd.func37, Tryd.ntmps37
  go_wp2_with fail
  refine CC.out.mono ?_
  rintro e w1 ⟨b1, h1⟩
  cases r with
  | ok a =>
    have h1' : e = .returned (.string ⟨a.toArray⟩) := h1
    clear h1
    subst h1'
    have s1 := (b1.block bs hlt).trans HS.out
    have c1 : w1.cell? ⟨bs, 0, none⟩ = some (.string t) := by simp [World.cell?, s1]
    have f1 := frozen_there s1 0
    clear s1
    go_wp2_with fail
    go_end0
    exact ⟨⟨w1, b1, rfl⟩, rfl⟩
  | error c =>
    have h1' : e = .panicked (flt c) := h1
    clear h1
    subst h1'
    go_wp2_with fail
    exact ⟨rfl, b1, rfl⟩

/-- The bytes that are told. -/
def bytesB : Except Int (List UInt8) → ByteArray
  | .ok a => ⟨a.toArray⟩
  | .error _ => ⟨#[]⟩

theorem enters : ∀ args u, (callFunc 37 args).run Tryd.prog u = .ok (.enter 37 args) u := enters_of Tryd.func37 (by kernel_rfl) rfl

theorem left_size {bs : Nat} {r : Except Int (List UInt8)} {W w' : World} (h : Left1 bs r W w') : W.heap.size ≤ w'.heap.size := by
  cases r with
  | ok a => obtain ⟨w0, h0, rfl⟩ := h; simpa [World.setCell] using h0.size
  | error c => exact h.size
theorem left_block {bs : Nat} {r : Except Int (List UInt8)} {W w' : World} (h : Left1 bs r W w') {k : Nat} (hk : k < W.heap.size) (hne : k ≠ bs) : w'.heap[k]? = W.heap[k]? := by
  cases r with
  | ok a => obtain ⟨w0, h0, rfl⟩ := h; exact (Below.heap_setCell _ _ _ _ hne).trans (h0.block k hk)
  | error c => exact h.block k hk
theorem left_world {bs : Nat} {r : Except Int (List UInt8)} {W w' : World} (h : Left1 bs r W w') : w'.os = W.os ∧ w'.tape = W.tape ∧ w'.output = W.output := by
  cases r with
  | ok a => obtain ⟨w0, h0, rfl⟩ := h; exact ⟨h0.os, h0.tape, h0.output⟩
  | error c => exact ⟨h.os, h.tape, h.output⟩
theorem left_cell {bs : Nat} {r : Except Int (List UInt8)} {W w' : World} (h : Left1 bs r W w') (hs : W.heap[bs]? = some (.cells #[.string ⟨#[]⟩] 9 (0, 0))) : w'.cell? ⟨bs, 0, none⟩ = some (.string (bytesB r)) := by
  have hlt := lt_of_heap hs
  cases r with
  | ok a =>
    obtain ⟨w0, h0, rfl⟩ := h
    have h1 := heap_set1 ((h0.block bs hlt).trans hs) 0 (.string ⟨a.toArray⟩)
    simp [World.cell?, h1, bytesB]
  | error c =>
    have h1 := (h.block bs hlt).trans hs
    simp [World.cell?, h1, bytesB]

set_option maxHeartbeats 400000 in
theorem put (k n : Int) (s : ByteArray) (f : F) (p : Option Addr) (cap : Nat) (A : Nat → Prop) (w : World) (hok : (F.cons k n s f .nil).ok) (hL : Rd w A (.slice p f.len cap) f) (hl : wt1 k n s f.wt ≤ 140737488355328) :
    Calls Tryd.prog 22 #[.agg #[.int .i64 k, .int .i64 n, .string s, .slice p f.len cap]] w fun e w' => e = .returned (.tuple #[.string (bytesB (encV k n s f)), .int .i64 (codeOf (encV k n s f))]) ∧ Below w.heap.size w w' := by
  have hmf : ∀ (fn : Fn) (first cap : Array Value) (w : World), (Instr.makeFunc fn first cap).run Tryd.prog w = .ok (.func fn first cap) w := fun _ _ _ _ => rfl
  obtain ⟨r, hr⟩ : ∃ r, Hid (r = encV k n s f) := ⟨_, rfl⟩
  rw [← hr.out]
  have CC : Hid (∀ w2, w2 = (w.alloc (.cells #[.int .i64 k, .int .i64 n, .string s, .slice p f.len cap] 50)).alloc (.cells #[.string ⟨#[]⟩] 9) →
      Calls Tryd.prog 25 #[.func (.func 37) #[] #[.pointer (some ⟨w.heap.size, 0, none⟩), .pointer (some ⟨w.heap.size + 1, 0, none⟩)]] w2 fun e w' => e = .returned (.int .i64 (codeOf r)) ∧ w'.cell? ⟨w.heap.size + 1, 0, none⟩ = some (.string (bytesB r)) ∧ Below w.heap.size w w') :=
    fun w2 h2 => by
      have hz : w2.heap.size = w.heap.size + 2 := by rw [h2]; simp
      have hb : Below w.heap.size w w2 := by rw [h2]; exact ((Below.refl _ _).alloc (Nat.le_refl _) _).alloc (by simp) _
      have hv : w2.heap[w.heap.size]? = some (.cells #[.int .i64 k, .int .i64 n, .string s, .slice p f.len cap] 50 (0, 0)) := by rw [h2]; exact (Below.heap_alloc _ _ _ (by simp)).trans (heap_alloc_new w _)
      have hs : w2.heap[w.heap.size + 1]? = some (.cells #[.string ⟨#[]⟩] 9 (0, 0)) := by
        have := heap_alloc_new (w.alloc (.cells #[.int .i64 k, .int .i64 n, .string s, .slice p f.len cap] 50)) (.cells #[.string ⟨#[]⟩] 9)
        rw [h2]; simpa using this
      refine (Wf.caught 37 _ r (Left1 (w.heap.size + 1) r) w2 (fun W hW hlt => ?_) enters).mono ?_
      · have hvW := (hW.block _ (by omega)).trans hv
        have hsW := (hW.block _ (by omega)).trans hs
        refine (lit w.heap.size (w.heap.size + 1) k n s f p cap A W _ hok (rd_below (rd_below hL hb) hW) hl r hr hvW hsW).mono (fun e w' h => ⟨h.1, left_size h.1, left_block h.1 hlt (by omega), h.2⟩)
      · rintro e w' ⟨he, W, w1, hW, hWz, hK, hs1, hg⟩
        have hsW := (hW.block _ (by omega)).trans hs
        have hc := left_cell hK hsW
        have hbk := hg.block (w.heap.size + 1) (by omega) (by simp; omega)
        refine ⟨he, (World.cell?_of_block (a := ⟨w.heap.size + 1, 0, none⟩) hbk).trans hc, ?_⟩
        obtain ⟨o1, o2, o3⟩ := left_world hK
        have hbW := hb.trans (hW.mono (by omega))
        refine hbW.trans ⟨hg.os.trans o1, hg.tape.trans o2, hg.output.trans o3, Nat.le_trans hs1 hg.size, fun j hj => ?_⟩
        exact (hg.block j (by omega) (by simp; omega)).trans (left_block hK (by omega) (by omega))
  clear hr hok hL hl
  go_enter Tryd.func22, Tryd.ntmps22
  go_wp2_with fail
  refine (CC.out _ rfl).mono ?_
  rintro e w1 ⟨rfl, c1, b1⟩
  go_wp2_with fail
  go_ret2
  exact ⟨rfl, b1⟩

end Go.Proofs.YtkelipedpjmmaaaDoor.Wu
