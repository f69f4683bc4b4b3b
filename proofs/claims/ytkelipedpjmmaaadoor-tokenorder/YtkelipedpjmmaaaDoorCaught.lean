/-
  The walks of pack.caught and its deferred literal: what the work leaves by as a fault is told as its number; where it returns, 0 is told. Nothing that was in memory has turned but by the work itself. Conditions: what the work does is known.
-/
import Derived.Test.YtkelipedpjmmaaaDoorFail
import Derived.Test.YtkelipedpjmmaaaDoorQb
import Derived.Defers
import Derived.Recover
namespace Go.Proofs.YtkelipedpjmmaaaDoor.Wf
open Go.ChangeShapes Go.WideShapes Go.ChangeAt Go.RowKit Go.Proofs.YtkelipedpjmmaaaDoor.M

theorem idle (p : Addr) (w : World) :
    CallsD Tryd.prog 40 #[.pointer (some p)] .returning w fun e u' w' => e = .returned (.tuple #[]) ∧ u' = .returning ∧ w' = w := by
  refine callsD_of_wpS Tryd.func40 rfl fun c₀ cs hu => ?_
  apply wpS_seq
  apply wpS_region
  simp [wpOpsS, go_sem, recoverD, hu, Tryd.ntmps40, Exit.thenS]
  change Code.wpS Tryd.prog _ _ ⟨#[.pointer (some p), .nilIface, undef, undef, .nilIface, undef, undef, undef, undef, undef, undef, undef, undef, undef, undef, undef, undef], []⟩ _ _
  refine wpS_of_wp ?_
  go_wp2
  exact ⟨rfl, .returning, by cases c₀; simp_all, .tuple #[], by simp [results, Tryd.results40, go_sem], rfl, rfl, rfl⟩

theorem asserts (c : Int) (w : World) : (Instr.typeAssert (.iface 80 (.agg #[.int .i64 c])) 20 80 true).run Tryd.prog w = .ok (.tuple #[.agg #[.int .i64 c], .bool true]) w := by
  simp [Instr.typeAssert, go_sem]

set_option maxRecDepth 100000 in
theorem rescue (b : Nat) (c : Int) (x : Int) (w : World) (hc : w.cell? ⟨b, 0, none⟩ = some (.int .i64 x)) (hz : w.frozen? ⟨b, 0, none⟩ = false) :
    CallsD Tryd.prog 40 #[.pointer (some ⟨b, 0, none⟩)] (.panicking (flt c)) w fun e u' w' => e = .returned (.tuple #[]) ∧ u' = .panicking [{ v := .iface 80 (.agg #[.int .i64 c]), recovered := true }] ∧ w' = (w.setCell ⟨b, 0, none⟩ (.int .i64 c)).alloc (.cells #[.int .i64 c] 80) := by
  refine callsD_of_wpS Tryd.func40 rfl fun c₀ cs hu => ?_
  apply wpS_seq
  apply wpS_region
  simp [wpOpsS, go_sem, recoverD, hu, Tryd.ntmps40, Exit.thenS, flt]
  change Code.wpS Tryd.prog _ _ ⟨#[.pointer (some ⟨b, 0, none⟩), .iface 80 (.agg #[.int .i64 c]), undef, undef, .iface 80 (.agg #[.int .i64 c]), undef, undef, undef, undef, undef, undef, undef, undef, undef, undef, undef, undef], []⟩ _ _
  refine wpS_of_wp ?_
  have ha := asserts c
  have hb : b < w.heap.size := World.block_lt_of_cell? w ⟨b, 0, none⟩ hc
  have hc' : ∀ o, (w.alloc o).cell? ⟨b, 0, none⟩ = some (.int .i64 x) := fun o => (World.cell?_of_block (a := ⟨b, 0, none⟩) (Below.heap_alloc w o b hb)).trans hc
  have hz' : ∀ o, (w.alloc o).frozen? ⟨b, 0, none⟩ = false := fun o => (World.frozen?_of_block (a := ⟨b, 0, none⟩) (Below.heap_alloc w o b hb)).trans hz
  go_wp2_with fail
  exact ⟨rfl, _, rfl, .tuple #[], by simp [results, Tryd.results40, go_sem], rfl, rfl, rfl⟩

/-- The number that is told. -/
def codeOf {α : Type} : Except Int α → Int
  | .ok _ => 0
  | .error c => c
/-- How the work ends. -/
def endOf {α : Type} : Except Int α → Ending
  | .ok _ => .returned (.tuple #[])
  | .error c => .panicked (flt c)

theorem grown_set {w : World} {b : Nat} (v : Value) : w.grownBy (w.setCell ⟨b, 0, none⟩ v) (some b) :=
  ⟨rfl, rfl, rfl, by simp [World.setCell], fun k _ hk => Below.heap_setCell _ _ _ _ (fun e => hk (by simp [e]))⟩
theorem grown_alloc {w w' : World} {r : Option Nat} (h : w.grownBy w' r) (o : Obj) : w.grownBy (w'.alloc o) r :=
  ⟨h.os, h.tape, h.output, Nat.le_trans h.size (by simp), fun k hk hn => (Below.heap_alloc w' o k (Nat.lt_of_lt_of_le hk h.size)).trans (h.block k hk hn)⟩

/-- What the work, a function's value G with what it captures, comes to: it returns, or leaves by a fault; K says of the memory what holds behind both. -/
theorem caught {α : Type} (G : Nat) (cap : Array Value) (r : Except Int α) (K : World → World → Prop) (w : World)
    (C : Hid (∀ W, Below w.heap.size w W → w.heap.size < W.heap.size → Calls Tryd.prog G cap W fun e w' => K W w' ∧ W.heap.size ≤ w'.heap.size ∧ w'.heap[w.heap.size]? = W.heap[w.heap.size]? ∧ e = endOf r))
    (E : ∀ args u, (callFunc G args).run Tryd.prog u = .ok (.enter G args) u) :
    Calls Tryd.prog 25 #[.func (.func G) #[] cap] w fun e w' => e = .returned (.int .i64 (codeOf r)) ∧ ∃ W w1, Below w.heap.size w W ∧ W.heap.size = w.heap.size + 1 ∧ K W w1 ∧ W.heap.size ≤ w1.heap.size ∧ w1.grownBy w' (some w.heap.size) := by
  have hmf : ∀ (fn : Fn) (first cap : Array Value) (w : World), (Instr.makeFunc fn first cap).run Tryd.prog w = .ok (.func fn first cap) w := fun _ _ _ _ => rfl
  have hW : Hid (Below w.heap.size w (w.alloc (.cells #[.int .i64 0] 24))) := (Below.refl _ _).alloc (Nat.le_refl _) _
  cases r with
  | ok a =>
    go_enter_defers Tryd.func25, Tryd.ntmps25
    go_wp2_with fail
    refine (C.out _ hW.out (by simp)).mono ?_
    rintro e w1 ⟨hK, hs, hrow, he⟩
    have he' : e = .returned (.tuple #[]) := he
    clear he
    subst he'
    have hrow' : w1.heap[w.heap.size]? = some (.cells #[.int .i64 0] 24 (0, 0)) := hrow.trans (heap_alloc_new w _)
    have hc : w1.cell? ⟨w.heap.size, 0, none⟩ = some (.int .i64 0) := by simp [World.cell?, hrow']
    have hz : w1.frozen? ⟨w.heap.size, 0, none⟩ = false := frozen_there hrow' 0
    have HK : Hid _ := hK
    have HS : Hid _ := hs
    clear hK hs hrow hrow'
    go_wp2_with fail
    refine leaves_cons (f := 40) (args := #[.pointer (some ⟨w.heap.size, 0, none⟩)]) (by simp) (by simp [go_sem]) ?_
    refine (idle ⟨w.heap.size, 0, none⟩ _).mono ?_
    rintro e u' w'' ⟨rfl, rfl, rfl⟩
    simp only [Leaves, settle]
    refine ⟨.int .i64 0, by simp [results, Tryd.results25, go_sem, hc], rfl, _, w1, hW.out, by simp, HK.out, HS.out, grown_set _⟩
  | error c =>
    go_enter_defers Tryd.func25, Tryd.ntmps25
    go_wp2_with fail
    refine (C.out _ hW.out (by simp)).mono ?_
    rintro e w1 ⟨hK, hs, hrow, he⟩
    have he' : e = .panicked (flt c) := he
    clear he
    subst he'
    have hrow' : w1.heap[w.heap.size]? = some (.cells #[.int .i64 0] 24 (0, 0)) := hrow.trans (heap_alloc_new w _)
    have hc : w1.cell? ⟨w.heap.size, 0, none⟩ = some (.int .i64 0) := by simp [World.cell?, hrow']
    have hz : w1.frozen? ⟨w.heap.size, 0, none⟩ = false := frozen_there hrow' 0
    have HK : Hid _ := hK
    have HS : Hid _ := hs
    clear hK hs hrow
    go_wp2_with fail
    refine leaves_cons (f := 40) (args := #[.pointer (some ⟨w.heap.size, 0, none⟩)]) (by simp) (by simp [go_sem]) ?_
    refine (rescue w.heap.size c 0 _ hc hz).mono ?_
    rintro e u' w'' ⟨rfl, rfl, rfl⟩
    have hcc : ((w1.setCell ⟨w.heap.size, 0, none⟩ (.int .i64 c)).alloc (.cells #[.int .i64 c] 80)).cell? ⟨w.heap.size, 0, none⟩ = some (.int .i64 c) := by
      have h1 := heap_set1 hrow' 0 (.int .i64 c)
      have h2 := (Below.heap_alloc _ (.cells #[.int .i64 c] 80) _ (lt_of_heap h1)).trans h1
      simp [World.cell?, h2]
    simp only [settle]
    refine ⟨.int .i64 c, by simp [results, Tryd.results25, go_sem, hcc], rfl, _, w1, hW.out, by simp, HK.out, HS.out, grown_alloc (grown_set _) _⟩

end Go.Proofs.YtkelipedpjmmaaaDoor.Wf
