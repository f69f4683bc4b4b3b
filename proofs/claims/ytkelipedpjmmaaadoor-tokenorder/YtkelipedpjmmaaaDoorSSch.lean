/-
  The walk of sha.schedule: it returns the words that 'sch' says, and nothing that was in memory has turned. Conditions: the block has 64 bytes.
-/
import Derived.Test.YtkelipedpjmmaaaDoorRows
import Derived.Test.YtkelipedpjmmaaaDoorSRnd
import Derived.Test.YtkelipedpjmmaaaDoorGet
import Derived.WalkKit
import Derived.ProofKit
import Derived.OpenShut
import Derived.Deep.RegionHeld3
namespace Go.Proofs.YtkelipedpjmmaaaDoor.Wh
open Go.ChangeShapes Go.WideShapes Go.ChangeAt Go.RowKit Go.Proofs.YtkelipedpjmmaaaDoor.M

theorem info64w : (Tryd.prog.info? 74).map (·.size) = some 64 := by kernel_rfl
theorem info64b : (Tryd.prog.info? 113).map (·.size) = some 64 := by kernel_rfl

/-- The bytes of a block as a text. -/
def bsB (b : List Nat) : ByteArray := ⟨(b.map UInt8.ofNat).toArray⟩
theorem bsB_size (b : List Nat) : (bsB b).size = b.length := by
  show (b.map UInt8.ofNat).toArray.size = _
  simp
theorem bsB_bt (b : List Nat) (hb : ∀ i, b.getD i 0 < 256) (i : Nat) : bt (bsB b) i = ((b.getD i 0 : Nat) : Int) := by
  unfold bt
  by_cases h : i < b.length
  · have hh : i < (bsB b).size := by rw [bsB_size]; exact h
    rw [dif_pos hh]
    have e : (bsB b)[i]'hh = UInt8.ofNat (b.getD i 0) := by
      show (b.map UInt8.ofNat).toArray[i]'(by simpa using h) = _
      simp [List.getD, h]
    have hh := hb i
    rw [e, UInt8.toNat_ofNat', Nat.mod_eq_of_lt (by simpa using hh)]
  · have hh : ¬ i < (bsB b).size := by rw [bsB_size]; exact h
    rw [dif_neg hh]
    simp [List.getD, h]
theorem num_wdk (b : List Nat) (hb : ∀ i, b.getD i 0 < 256) (t : Nat) : ∀ i, i ≤ 4 → num (bsB b) (4 * t) i = ((wdk b t i : Nat) : Int) ∧ wdk b t i < 256 ^ i
  | 0, _ => ⟨rfl, (by decide : (0 : Nat) < 256 ^ 0)⟩
  | i + 1, hi => by
    obtain ⟨h1, h2⟩ := num_wdk b hb t i (by omega)
    have h3 := hb (4 * t + i)
    have h4 : 256 ^ i ≤ 256 ^ 3 := Nat.pow_le_pow_right (by decide) (by omega)
    have h5 : wdk b t (i + 1) = wdk b t i * 256 + b.getD (4 * t + i) 0 := by
      show (wdk b t i * 256 + b.getD (4 * t + i) 0) % 4294967296 = _
      rw [Nat.mod_eq_of_lt]
      have : (256 : Nat) ^ 3 = 16777216 := by decide
      omega
    constructor
    · show num (bsB b) (4 * t) i * 256 + bt (bsB b) (4 * t + i) = _
      rw [bsB_bt b hb, h1, h5]
      omega
    · rw [h5, Nat.pow_succ]
      omega
theorem get_word (b : List Nat) (hl : b.length = 64) (hb : ∀ i, b.getD i 0 < 256) (t : Nat) (ht : t < 16) : gN (bsB b) ((t : Int) * 4) 4 = ((wdk b t 4 : Nat) : Int) := by
  have hs := bsB_size b
  obtain ⟨_, h2, _⟩ := g_ok (s := bsB b) (at_ := (t : Int) * 4) (width := 4) (by omega) (by omega)
  rw [h2, show ((t : Int) * 4).toNat = 4 * t by omega]
  exact (num_wdk b hb t 4 (by decide)).1

theorem zeros64 : c32 (List.replicate 64 0) = #[.int .u32 0, .int .u32 0, .int .u32 0, .int .u32 0, .int .u32 0, .int .u32 0, .int .u32 0, .int .u32 0, .int .u32 0, .int .u32 0, .int .u32 0, .int .u32 0, .int .u32 0, .int .u32 0, .int .u32 0, .int .u32 0, .int .u32 0, .int .u32 0, .int .u32 0, .int .u32 0, .int .u32 0, .int .u32 0, .int .u32 0, .int .u32 0, .int .u32 0, .int .u32 0, .int .u32 0, .int .u32 0, .int .u32 0, .int .u32 0, .int .u32 0, .int .u32 0, .int .u32 0, .int .u32 0, .int .u32 0, .int .u32 0, .int .u32 0, .int .u32 0, .int .u32 0, .int .u32 0, .int .u32 0, .int .u32 0, .int .u32 0, .int .u32 0, .int .u32 0, .int .u32 0, .int .u32 0, .int .u32 0, .int .u32 0, .int .u32 0, .int .u32 0, .int .u32 0, .int .u32 0, .int .u32 0, .int .u32 0, .int .u32 0, .int .u32 0, .int .u32 0, .int .u32 0, .int .u32 0, .int .u32 0, .int .u32 0, .int .u32 0, .int .u32 0] := rfl

theorem add_zero_at (g j : Nat) : (⟨g, 0, none⟩ : Addr).add j = ⟨g, j, none⟩ := Wp.add_at g j
theorem text_of_block {W : World} {p : Nat} {b : List Nat} {t : Nat} (hb : ∀ i, b.getD i 0 < 256) (h : W.heap[p]? = some (.cells (c8 b) t (0, 0))) :
    (convert 42 9 (.slice (some ⟨p, 0, none⟩) b.length b.length)).run Tryd.prog W = .ok (.string (bsB b)) W := by
  have k := run_convert_bytes_back (P := Tryd.prog) W 42 9 5 ⟨p, 0, none⟩ b.length (b.map UInt8.ofNat) Tryd.underlying42 Tryd.underlying5 Tryd.underlying9 (fun j hj => by
    have hj' : j < b.length := by simpa using hj
    have hh := hb j
    rw [add_zero_at, cell_of_row W p j _ _ _ h, c8_get b j hj']
    have e : (b.map UInt8.ofNat)[j]'hj = UInt8.ofNat (b.getD j 0) := by simp [List.getD, hj']
    rw [e, UInt8.toNat_ofNat', Nat.mod_eq_of_lt (by simpa using hh)])
  rw [List.length_map] at k
  exact k

theorem below_setRow {w : World} {B g : Nat} {cs : Array Value} (h : B ≤ g) : Below B w (w.setRow g cs) :=
  ⟨rfl, rfl, rfl, by simp, fun k hk => setRow_other w g k cs (by omega)⟩
theorem keep_cell {w : World} {p t a : Nat} {v x : Value} (h : ¬ a = t) (hc : w.cell? ⟨p, a, none⟩ = some x) : ((w.setCell ⟨p, t, none⟩ v).drew).cell? ⟨p, a, none⟩ = some x := by
  show (w.setCell ⟨p, t, none⟩ v).cell? ⟨p, a, none⟩ = some x
  have e : (⟨p, t, none⟩ : Addr) ≠ ⟨p, a, none⟩ := fun e => h (by injection e with _ e2 _; exact e2.symm)
  exact (World.cell?_setCell_other w _ _ _ e).trans hc

set_option maxRecDepth 100000 in
set_option maxHeartbeats 4000000 in
theorem schedule (b : List Nat) (w : World) (hl : b.length = 64) (hb : ∀ i, b.getD i 0 < 256) :
    Calls Tryd.prog 76 #[.agg (c8 b)] w fun e w' => e = .returned (.agg (c32 (sch b 64))) ∧ Below w.heap.size w w' := by
  have HL : Hid (b.length = 64) := hl
  have HB : Hid (∀ i, b.getD i 0 < 256) := hb
  have hcv : ∀ o1 o2, (convert 42 9 (.slice (some ⟨w.heap.size, 0, none⟩) 64 64)).run Tryd.prog (((w.alloc (.cells (c8 b) 113)).alloc o1).alloc o2) = .ok (.string (bsB b)) (((w.alloc (.cells (c8 b) 113)).alloc o1).alloc o2) := by
    intro o1 o2
    have k := text_of_block (W := ((w.alloc (.cells (c8 b) 113)).alloc o1).alloc o2) (p := w.heap.size) (t := 113) hb (by
      rw [heap_alloc_old _ _ (by simp; omega)]
      exact heap_alloc2_old w _ _)
    rw [hl] at k
    exact k
  have hts : (bsB b).size = 64 := by rw [bsB_size, hl]
  clear hl hb
  go_enter Tryd.func76, Tryd.ntmps76
  go_wp2
  clear hcv
  go_loopw [11] (fun iv wr => ∃ t : Nat, t ≤ 64 ∧ iv = .int .i64 (t : Int) ∧ wr.heap[w.heap.size + 1 + 1]? = some (.cells (c32 (sch b t)) 74 (0, 0)) ∧ wr.heap[w.heap.size + 1]? = some (.cells (c32 (List.replicate 64 0)) 74 (0, 0)) ∧ Below w.heap.size w wr) (fun i _ => 64 - (intOf i).toNat)
  case atStart =>
    refine ⟨0, Nat.zero_le _, rfl, ?_, ?_, (((Below.refl _ _).alloc (Nat.le_refl _) _).alloc (by simp) _).alloc (by simp; omega) _⟩
    · show _ = some (Obj.cells (c32 (List.replicate 64 0)) _ _)
      rw [zeros64]
      have := heap_alloc2_new (w.alloc (.cells (c8 b) 113))
      simpa using this _ _
    · rw [zeros64, heap_alloc_old _ _ (by simp)]
      exact heap_alloc2_new w _ _
  case round =>
    obtain ⟨t, ht, rfl, hg, hz, hbel⟩ := hrel
    by_cases hlt : t < 64
    · have hc := (cell_of_row wr (w.heap.size + 1 + 1) t _ _ _ hg).trans (c32_get (sch b t) t (by rw [sch_len]; exact hlt))
      have hf := frozen_of_row wr (w.heap.size + 1 + 1) t _ _ hg
      have HG : Hid _ := hg
      have HZ : Hid _ := hz
      have ht0 : (0 : Int) ≤ (t : Int) := by omega
      have ht1 : (t : Int) < 64 := by omega
      clear hg hz
      by_cases h16 : t < 16
      · have hwd := get_word b HL.out HB.out t h16
        have hwl := wdk_lt b t 4
        have hs1 : sch b (t + 1) = (sch b t).set t (wdk b t 4) := by simp [sch, wS, h16]
        generalize wdk b t 4 = v at hwd hwl hs1
        have HS : Hid _ := hs1
        clear hs1
        go_wp2_with fail
        refine (Wg.get _ _ _ _ ?_ ?_ ?_).mono ?_
        · rw [hts]; decide
        · omega
        · omega
        rintro e w1 ⟨rfl, rfl⟩
        rw [hwd]
        go_wp2
        go_roundw
        case rel =>
          refine ⟨t + 1, by omega, by go_num, ?_, ?_, hbel.setCell (p := ⟨_, _, none⟩) (by simp; omega) _⟩
          · rw [heap_setCell_same _ _ _ _ _ _ HG.out, c32_set, HS.out]
          · rw [heap_setCell_other _ _ _ _ (by simp)]
            exact HZ.out
        case measure => simp [intOf] <;> omega
      · obtain ⟨a, ha⟩ : ∃ a : Nat, (t : Int) - 2 = (a : Int) := ⟨t - 2, by omega⟩
        obtain ⟨c, hc7⟩ : ∃ c : Nat, (t : Int) - 7 = (c : Int) := ⟨t - 7, by omega⟩
        obtain ⟨d, hd⟩ : ∃ d : Nat, (t : Int) - 15 = (d : Int) := ⟨t - 15, by omega⟩
        obtain ⟨f, hf16⟩ : ∃ f : Nat, (t : Int) - 16 = (f : Int) := ⟨t - 16, by omega⟩
        have K : ∀ j, j < 64 → wr.cell? ⟨w.heap.size + 1 + 1, j, none⟩ = some (.int .u32 (((sch b t).getD j 0 : Nat) : Int)) := fun j hj => (cell_of_row wr (w.heap.size + 1 + 1) j _ _ _ HG.out).trans (c32_get (sch b t) j (by rw [sch_len]; exact hj))
        have ka := K a (by omega)
        have kc := K c (by omega)
        have kd := K d (by omega)
        have kf := K f (by omega)
        have la := sch_W b t a
        have ld := sch_W b t d
        have hs1 : sch b (t + 1) = (sch b t).set t (ad (ad (ad (sg1 ((sch b t).getD a 0)) ((sch b t).getD c 0)) (sg0 ((sch b t).getD d 0))) ((sch b t).getD f 0)) := by
          simp only [sch, wS, nx]
          rw [if_neg h16, show t - 2 = a by omega, show t - 7 = c by omega, show t - 15 = d by omega, show t - 16 = f by omega]
        generalize (sch b t).getD a 0 = x2 at ka la hs1
        generalize (sch b t).getD c 0 = x7 at kc hs1
        generalize (sch b t).getD d 0 = x15 at kd ld hs1
        generalize (sch b t).getD f 0 = x16 at kf hs1
        have C1 : Hid (∀ w, Calls Tryd.prog 89 #[.int .u32 (x2 : Int)] w fun e w' => e = .returned (.int .u32 ((sg1 x2 : Nat) : Int)) ∧ w = w') := fun w => sigma1 x2 w la
        have C2 : Hid (∀ w, Calls Tryd.prog 90 #[.int .u32 (x15 : Int)] w fun e w' => e = .returned (.int .u32 ((sg0 x15 : Nat) : Int)) ∧ w = w') := fun w => sigma0 x15 w ld
        generalize sg1 x2 = y2 at C1 hs1
        generalize sg0 x15 = y15 at C2 hs1
        have q1 := wrap_ad y2 x7
        have q2 := wrap_ad (ad y2 x7) y15
        have q3 := wrap_ad (ad (ad y2 x7) y15) x16
        generalize ad y2 x7 = z1 at q1 q2 q3 hs1
        generalize ad z1 y15 = z2 at q2 q3 hs1
        generalize ad z2 x16 = z3 at q3 hs1
        have HS : Hid _ := hs1
        have ba : (a : Int) < 64 := by omega
        have bc : (c : Int) < 64 := by omega
        have bd : (d : Int) < 64 := by omega
        have bf : (f : Int) < 64 := by omega
        have wa : IntKind.i64.wrap ((t : Int) - 2) = (a : Int) := by rw [IntKind.wrap_i64]; omega
        have wc : IntKind.i64.wrap ((t : Int) - 7) = (c : Int) := by rw [IntKind.wrap_i64]; omega
        have wd : IntKind.i64.wrap ((t : Int) - 15) = (d : Int) := by rw [IntKind.wrap_i64]; omega
        have wf : IntKind.i64.wrap ((t : Int) - 16) = (f : Int) := by rw [IntKind.wrap_i64]; omega
        have na : (0 : Int) ≤ (a : Int) := by omega
        have nc : (0 : Int) ≤ (c : Int) := by omega
        have nd : (0 : Int) ≤ (d : Int) := by omega
        have nf : (0 : Int) ≤ (f : Int) := by omega
        have ea : ¬ a = t := by omega
        have ec : ¬ c = t := by omega
        have ed : ¬ d = t := by omega
        have ef : ¬ f = t := by omega
        clear hs1 K la ld ha hc7 hd hf16
        go_wp2
        go_region_held3 (fun w' => w'.cell? ⟨w.heap.size + 1 + 1, a, none⟩ = some (.int .u32 (x2 : Int)) ∧ w'.cell? ⟨w.heap.size + 1 + 1, c, none⟩ = some (.int .u32 (x7 : Int)) ∧ w'.cell? ⟨w.heap.size + 1 + 1, d, none⟩ = some (.int .u32 (x15 : Int)) ∧ w'.cell? ⟨w.heap.size + 1 + 1, f, none⟩ = some (.int .u32 (x16 : Int))) (first | exact ⟨keep_cell ea ka, keep_cell ec kc, keep_cell ed kd, keep_cell ef kf⟩ | go_keep)
          (first
            | (go_at_call 89; refine (C1.out _).mono ?_; rintro e w1 ⟨rfl, rfl⟩)
            | (go_at_call 90; refine (C2.out _).mono ?_; rintro e w1 ⟨rfl, rfl⟩))
        go_wp2
        go_roundw
        case rel =>
          refine ⟨t + 1, by omega, by go_num, ?_, ?_, ?_⟩
          · rw [heap_drew, heap_setCell_same _ _ _ _ _ _ HG.out, c32_set, HS.out]
          · rw [heap_drew, heap_setCell_other _ _ _ _ (by simp)]
            exact HZ.out
          · exact (hbel.setCell (p := ⟨_, _, none⟩) (by simp; omega) _).drew
        case measure => simp [intOf] <;> omega
    · have h64 : t = 64 := by omega
      subst h64
      have HG : Hid _ := hg
      have HZ : Hid _ := hz
      have i1 : Hid ((Tryd.prog.info? 74).map (·.size) = some (c32 (sch b 64)).size) := by rw [c32_size, sch_len]; exact info64w
      clear hg hz
      go_wp2_with (first
        | (refine wpList_load_row rfl 74 _ rfl (w.heap.size + 1 + 1) rfl 74 (c32 (sch b 64)) (0, 0) _ HG.out Tryd.underlying74 rfl i1.out ?_)
        | (refine wpList_store_row rfl 74 _ _ rfl (w.heap.size + 1) (c32 (sch b 64)) rfl rfl 74 _ HZ.out i1.out (by rw [c32_size, c32_size, sch_len]; rfl) (c32_one _) ?_))
      exact bodyPost_ret (v := .agg (c32 (sch b 64))) (results_cell_row Tryd.results76 _ _ (w.heap.size + 1) 74 (c32 (sch b 64)) (0, 0) _ rfl (setRow_heap wr _ _ _ _ _ HZ.out) Tryd.underlying74 rfl i1.out) rfl ⟨rfl, hbel.trans (below_setRow (by omega))⟩

end Go.Proofs.YtkelipedpjmmaaaDoor.Wh
