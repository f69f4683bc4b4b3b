/-
  The library's contracts for slices.SortFunc at this program (of grants by compareKeys, of edges by their first number) and for slices.Sort of ints, said of rows that a call has built. Nothing is asked but what each fact names.
-/
import Derived.Test.YtpbbamoeaalolaaGtC
import Derived.Shelf.SlSortCmp.NoneTotal
import Derived.Maps.OwnSet
namespace Go.Proofs.Ytpbbamoeaalolaa
open Go.Shelf Go.Proofs
def Try.sortK_ren : Go.Shelf.Ren := ⟨fun | 6 => 25 | 15 => 34 | 14 => 33 | 28 => 52 | 29 => 53 | 20 => 44 | 21 => 45 | 22 => 46 | 23 => 47 | 24 => 48 | 25 => 49 | 26 => 50 | 27 => 51 | 46 => 66 | 47 => 67 | 48 => 68 | 49 => 69 | 50 => 70 | 57 => 83 | n => n, fun | 22 => 46 | 24 => 38 | 25 => 69 | 3 => 3 | 39 => 79 | 0 => 0 | 53 => 97 | 55 => 99 | 4 => 4 | 46 => 91 | 45 => 90 | 50 => 85 | 5 => 5 | 9 => 9 | 66 => 110 | 70 => 114 | 76 => 123 | 77 => 124 | n => n, fun | n => n⟩
theorem Try.sortK : Go.Proofs.SlLaysF0.n6 Try.prog Try.sortK_ren := {
  mixed := by kernel_rfl
  f6 := ⟨Try.f25.name, by decide, Try.func25.trans (congrArg some (by kernel_rfl))⟩
  f14 := ⟨Try.f33.name, by decide, Try.func33.trans (congrArg some (by kernel_rfl))⟩
  f15 := Try.func34.trans (congrArg some (by kernel_rfl))
  f20 := ⟨Try.f44.name, by decide, Try.func44.trans (congrArg some (by kernel_rfl))⟩
  f21 := ⟨Try.f45.name, by decide, Try.func45.trans (congrArg some (by kernel_rfl))⟩
  f22 := ⟨Try.f46.name, by decide, Try.func46.trans (congrArg some (by kernel_rfl))⟩
  f23 := ⟨Try.f47.name, by decide, Try.func47.trans (congrArg some (by kernel_rfl))⟩
  f24 := ⟨Try.f48.name, by decide, Try.func48.trans (congrArg some (by kernel_rfl))⟩
  f25 := ⟨Try.f49.name, by decide, Try.func49.trans (congrArg some (by kernel_rfl))⟩
  f26 := ⟨Try.f50.name, by decide, Try.func50.trans (congrArg some (by kernel_rfl))⟩
  f27 := ⟨Try.f51.name, by decide, Try.func51.trans (congrArg some (by kernel_rfl))⟩
  f28 := Try.func52.trans (congrArg some (by kernel_rfl))
  f29 := Try.func53.trans (congrArg some (by kernel_rfl))
  f46 := ⟨Try.f66.name, by decide, Try.func66.trans (congrArg some (by kernel_rfl))⟩
  f47 := Try.func67.trans (congrArg some (by kernel_rfl))
  f48 := Try.func68.trans (congrArg some (by kernel_rfl))
  f49 := ⟨Try.f69.name, by decide, Try.func69.trans (congrArg some (by kernel_rfl))⟩
  f50 := ⟨Try.f70.name, by decide, Try.func70.trans (congrArg some (by kernel_rfl))⟩
  f57 := ⟨Try.f83.name, by decide, Try.func83.trans (congrArg some (by kernel_rfl))⟩
  t0 := Try.underlying0
  a0 := Try.isAgg0
  z0 := Try.sizeOf0
  v0 := Try.zeroValue0
  t3 := Try.underlying3
  a3 := Try.isAgg3
  z3 := Try.sizeOf3
  v3 := Try.zeroValue3
  t4 := Try.underlying4
  a4 := Try.isAgg4
  z4 := Try.sizeOf4
  v4 := Try.zeroValue4
  t5 := Try.underlying5
  a5 := Try.isAgg5
  z5 := Try.sizeOf5
  v5 := Try.zeroValue5
  t9 := Try.underlying9
  a9 := Try.isAgg9
  z9 := Try.sizeOf9
  v9 := Try.zeroValue9
  t22 := Try.underlying46
  a22 := Try.isAgg46
  z22 := Try.sizeOf46
  v22 := Try.zeroValue46
  t25 := Try.underlying69
  a25 := Try.isAgg69
  z25 := Try.sizeOf69
  v25 := Try.zeroValue69
  t39 := Try.underlying79
  a39 := Try.isAgg79
  z39 := Try.sizeOf79
  v39 := Try.zeroValue79
  t45 := Try.underlying90
  a45 := Try.isAgg90
  z45 := Try.sizeOf90
  v45 := Try.zeroValue90
  t46 := Try.underlying91
  a46 := Try.isAgg91
  z46 := Try.sizeOf91
  v46 := Try.zeroValue91
  t50 := Try.underlying85
  a50 := Try.isAgg85
  z50 := Try.sizeOf85
  v50 := Try.zeroValue85
  t53 := Try.underlying97
  a53 := Try.isAgg97
  z53 := Try.sizeOf97
  v53 := Try.zeroValue97
  t55 := Try.underlying99
  a55 := Try.isAgg99
  z55 := Try.sizeOf99
  v55 := Try.zeroValue99
  t66 := Try.underlying110
  a66 := Try.isAgg110
  z66 := Try.sizeOf110
  v66 := Try.zeroValue110
  t70 := Try.underlying114
  a70 := Try.isAgg114
  z70 := Try.sizeOf114
  v70 := Try.zeroValue114
  t76 := Try.underlying123
  a76 := Try.isAgg123
  z76 := Try.sizeOf123
  v76 := Try.zeroValue123
  t77 := Try.underlying124
  a77 := Try.isAgg124
  z77 := Try.sizeOf124
  v77 := Try.zeroValue124 }

def Try.sortE_ren : Go.Shelf.Ren := ⟨fun | 6 => 38 | 15 => 34 | 14 => 56 | 28 => 52 | 29 => 53 | 20 => 72 | 21 => 73 | 22 => 74 | 23 => 75 | 24 => 76 | 25 => 77 | 26 => 78 | 27 => 79 | 46 => 84 | 47 => 67 | 48 => 68 | 49 => 85 | 50 => 86 | 57 => 88 | n => n, fun | 22 => 50 | 24 => 52 | 25 => 84 | 3 => 3 | 39 => 79 | 0 => 0 | 53 => 97 | 55 => 99 | 4 => 4 | 46 => 91 | 45 => 90 | 50 => 85 | 5 => 5 | 9 => 9 | 66 => 110 | 70 => 114 | 76 => 123 | 77 => 124 | n => n, fun | n => n⟩
theorem Try.sortE : Go.Proofs.SlLaysF0.n6 Try.prog Try.sortE_ren := {
  mixed := by kernel_rfl
  f6 := ⟨Try.f38.name, by decide, Try.func38.trans (congrArg some (by kernel_rfl))⟩
  f14 := ⟨Try.f56.name, by decide, Try.func56.trans (congrArg some (by kernel_rfl))⟩
  f15 := Try.func34.trans (congrArg some (by kernel_rfl))
  f20 := ⟨Try.f72.name, by decide, Try.func72.trans (congrArg some (by kernel_rfl))⟩
  f21 := ⟨Try.f73.name, by decide, Try.func73.trans (congrArg some (by kernel_rfl))⟩
  f22 := ⟨Try.f74.name, by decide, Try.func74.trans (congrArg some (by kernel_rfl))⟩
  f23 := ⟨Try.f75.name, by decide, Try.func75.trans (congrArg some (by kernel_rfl))⟩
  f24 := ⟨Try.f76.name, by decide, Try.func76.trans (congrArg some (by kernel_rfl))⟩
  f25 := ⟨Try.f77.name, by decide, Try.func77.trans (congrArg some (by kernel_rfl))⟩
  f26 := ⟨Try.f78.name, by decide, Try.func78.trans (congrArg some (by kernel_rfl))⟩
  f27 := ⟨Try.f79.name, by decide, Try.func79.trans (congrArg some (by kernel_rfl))⟩
  f28 := Try.func52.trans (congrArg some (by kernel_rfl))
  f29 := Try.func53.trans (congrArg some (by kernel_rfl))
  f46 := ⟨Try.f84.name, by decide, Try.func84.trans (congrArg some (by kernel_rfl))⟩
  f47 := Try.func67.trans (congrArg some (by kernel_rfl))
  f48 := Try.func68.trans (congrArg some (by kernel_rfl))
  f49 := ⟨Try.f85.name, by decide, Try.func85.trans (congrArg some (by kernel_rfl))⟩
  f50 := ⟨Try.f86.name, by decide, Try.func86.trans (congrArg some (by kernel_rfl))⟩
  f57 := ⟨Try.f88.name, by decide, Try.func88.trans (congrArg some (by kernel_rfl))⟩
  t0 := Try.underlying0
  a0 := Try.isAgg0
  z0 := Try.sizeOf0
  v0 := Try.zeroValue0
  t3 := Try.underlying3
  a3 := Try.isAgg3
  z3 := Try.sizeOf3
  v3 := Try.zeroValue3
  t4 := Try.underlying4
  a4 := Try.isAgg4
  z4 := Try.sizeOf4
  v4 := Try.zeroValue4
  t5 := Try.underlying5
  a5 := Try.isAgg5
  z5 := Try.sizeOf5
  v5 := Try.zeroValue5
  t9 := Try.underlying9
  a9 := Try.isAgg9
  z9 := Try.sizeOf9
  v9 := Try.zeroValue9
  t22 := Try.underlying50
  a22 := Try.isAgg50
  z22 := Try.sizeOf50
  v22 := Try.zeroValue50
  t25 := Try.underlying84
  a25 := Try.isAgg84
  z25 := Try.sizeOf84
  v25 := Try.zeroValue84
  t39 := Try.underlying79
  a39 := Try.isAgg79
  z39 := Try.sizeOf79
  v39 := Try.zeroValue79
  t45 := Try.underlying90
  a45 := Try.isAgg90
  z45 := Try.sizeOf90
  v45 := Try.zeroValue90
  t46 := Try.underlying91
  a46 := Try.isAgg91
  z46 := Try.sizeOf91
  v46 := Try.zeroValue91
  t50 := Try.underlying85
  a50 := Try.isAgg85
  z50 := Try.sizeOf85
  v50 := Try.zeroValue85
  t53 := Try.underlying97
  a53 := Try.isAgg97
  z53 := Try.sizeOf97
  v53 := Try.zeroValue97
  t55 := Try.underlying99
  a55 := Try.isAgg99
  z55 := Try.sizeOf99
  v55 := Try.zeroValue99
  t66 := Try.underlying110
  a66 := Try.isAgg110
  z66 := Try.sizeOf110
  v66 := Try.zeroValue110
  t70 := Try.underlying114
  a70 := Try.isAgg114
  z70 := Try.sizeOf114
  v70 := Try.zeroValue114
  t76 := Try.underlying123
  a76 := Try.isAgg123
  z76 := Try.sizeOf123
  v76 := Try.zeroValue123
  t77 := Try.underlying124
  a77 := Try.isAgg124
  z77 := Try.sizeOf124
  v77 := Try.zeroValue124 }


end Go.Proofs.Ytpbbamoeaalolaa
namespace Go.Proofs.Ytpbbamoeaalolaa.Wg
open Go.ChangeShapes Go.WideShapes Go.ChangeAt Go.RowKit Go.Proofs.Ytpbbamoeaalolaa.M Go.Sort Go.Shelf

/-! ### rows of two cells an element -/
section
variable {α : Type} [Inhabited α]
/-- From a place on a block's cells read as these elements. -/
def Rd (enc : α → List Value) (w : World) (g off : Nat) (l : List α) : Prop := ∀ i x, l[i]? = some x → ∀ t v, (enc x)[t]? = some v → w.cell? ⟨g, off + i * 2 + t, none⟩ = some v
omit [Inhabited α] in
theorem flat_get {enc : α → List Value} (hk : ∀ x, (enc x).length = 2) : ∀ (l : List α) (i t : Nat), t < 2 → (l.flatMap enc)[i * 2 + t]? = (l[i]?).bind fun x => (enc x)[t]?
  | [], i, t, _ => by simp
  | x :: r, 0, t, ht => by
    rw [List.flatMap_cons, List.getElem?_append_left (by rw [hk]; omega)]
    simp
  | x :: r, i + 1, t, ht => by
    rw [List.flatMap_cons, List.getElem?_append_right (by rw [hk]; omega), hk, show (i + 1) * 2 + t - 2 = i * 2 + t by omega, flat_get hk r i t ht]
    simp
omit [Inhabited α] in
theorem length_flat {enc : α → List Value} (hk : ∀ x, (enc x).length = 2) (l : List α) : (l.flatMap enc).length = l.length * 2 := by
  induction l with
  | nil => rfl
  | cons x r ih => rw [List.flatMap_cons, List.length_append, hk, ih, List.length_cons]; omega
theorem holds_of_own {enc : α → List Value} (hk : ∀ x, (enc x).length = 2) {w : World} {base e g cap : Nat} {l : List α} (h : w.ownsRow base e 2 (.slice (some ⟨g, 0, none⟩) l.length cap) l.length (l.flatMap enc)) : HoldsK enc 2 w g 0 l.toArray := by
  intro j hj
  rw [size_flatK] at hj
  have hj' : j < l.length * 2 := by simpa using hj
  rw [get_flatK _ _ _ _ hj]
  have hi : j / 2 < l.length := by omega
  have e1 := flat_get hk l (j / 2) (j % 2) (by omega)
  rw [show j / 2 * 2 + j % 2 = j by omega, List.getElem?_eq_getElem hi] at e1
  have hx : l.toArray[j / 2]! = l[j / 2] := by rw [getElem!_pos l.toArray (j / 2) (by simpa using hi)]; simp
  rw [hx]
  have hlt : j % 2 < (enc l[j / 2]).length := by rw [hk]; omega
  simp only [Option.bind_some] at e1
  rcases h.2 with ⟨h0, _⟩ | ⟨g', cap', cur, hv, hb, hg, hn, hc, hs, ht⟩
  · cases h0
  cases hv
  refine ⟨?_, ?_⟩
  · rw [Nat.zero_add, h.cellAt j hj', e1, List.getElem?_eq_getElem hlt, getElem!_pos (enc l[j / 2]) (j % 2) hlt]
    rfl
  · show w.frozen? ⟨g, 0 + j, none⟩ = false
    simp [World.frozen?, hg]
theorem rd_of_holds {enc : α → List Value} (hk : ∀ x, (enc x).length = 2) {w : World} {g off : Nat} {d : Array α} (h : HoldsK enc 2 w g off d) : Rd enc w g off d.toList := by
  intro i x hx t v hv
  have hi : i < d.size := by
    have := (List.getElem?_eq_some_iff.1 hx).1
    simpa using this
  have ht : t < 2 := by
    have := (List.getElem?_eq_some_iff.1 hv).1
    rwa [hk] at this
  have hj : i * 2 + t < (flatK enc 2 d).size := by rw [size_flatK]; omega
  have h1 := (h (i * 2 + t) hj).1
  rw [get_flatK _ _ _ _ (by rwa [size_flatK] at hj), show (i * 2 + t) / 2 = i by omega, show (i * 2 + t) % 2 = t by omega] at h1
  have hxe : d[i]! = x := by
    rw [getElem!_pos d i hi]
    have := hx
    rw [List.getElem?_eq_getElem (by simpa using hi)] at this
    simpa using this
  have hve : (enc x)[t]! = v := by
    rw [getElem!_pos (enc x) t (by rw [hk]; exact ht)]
    rw [List.getElem?_eq_getElem (by rw [hk]; exact ht)] at hv
    simpa using hv
  rw [hxe, hve, ← Nat.add_assoc] at h1
  exact h1
theorem grown_sorted {enc : α → List Value} {w : World} {g n : Nat} {os : Array Obj} (d : Array α) : w.grownBy (sortWorldK enc 2 w g 0 n d os) (some g) := by
  unfold sortWorldK putRowK
  refine ⟨rfl, rfl, rfl, by simp, fun k hk hne => ?_⟩
  rw [heap_grow_old _ _ (by simpa using hk)]
  have : g ≠ k := fun e => hne (by rw [e])
  simp [putRow, mapBlock, Sort.ahead, Array.getElem?_modify, this]
theorem perm_of {d d' : Array α} (h : PermIn 0 d.size d d') : d'.toList.Perm d.toList := by
  obtain ⟨h1, _, h3⟩ := h
  have e1 : d'.extract 0 d.size = d' := by rw [← h1]; simp
  have e2 : d.extract 0 d.size = d := by simp
  rwa [e1, e2] at h3
theorem pairs_of {lt : α → α → Bool} {d : Array α} {n : Nat} (hn : d.size = n) (h : SortedIn lt 0 n d) : d.toList.Pairwise fun a b => lt b a = false := by
  rw [List.pairwise_iff_getElem]
  intro i j hi hj hij
  have := h i j (Nat.zero_le _) hij (by rw [← hn]; simpa using hj)
  rw [getElem!_pos d i (by simpa using hi), getElem!_pos d j (by simpa using hj)] at this
  simpa using this
end

/-! ### the sorts -/
instance : Inhabited Ky := ⟨(0, ⟨#[]⟩)⟩
theorem kcf_is (x y : Ky) : ltOf kcf x y = kLt x y := kcf_lt x y
theorem kcf_swo : SWO (ltOf kcf) where
  irrefl x := by rw [kcf_is]; exact kLt_irrefl x
  trans x y z h1 h2 := by rw [kcf_is] at *; exact kLt_trans h1 h2
  ntrans x y z h1 h2 := by
    rw [kcf_is] at *
    cases h : kLt x z
    · rfl
    · cases h' : kLt y x
      · have := kLt_tri h1 h'
        subst this
        rw [h] at h2
        cases h2
      · have := kLt_trans h' h
        rw [this] at h2
        cases h2
theorem kC_len (x : Ky) : (kC x).length = 2 := rfl
theorem eC_len (x : Ed) : (eC x).length = 2 := rfl
/-- A row of grants, each once, sorted: what it reads as then. -/
theorem sortKeys {w : World} {base g cap : Nat} {l L : List Ky} (h : w.ownsRow base 38 2 (.slice (some ⟨g, 0, none⟩) l.length cap) l.length (l.flatMap kC)) (hn : l.Nodup) (hL : Rsg L) (hm : ∀ x, x ∈ l ↔ x ∈ L) (hsz : l.length < 4611686018427387904) :
    Calls Try.prog 25 #[.slice (some ⟨g, 0, none⟩) l.length cap, .func (.func 26) #[] #[]] w fun e w' => e = .returned (.tuple #[]) ∧ w.grownBy w' (some g) ∧ Rd kC w' g 0 L ∧ l.length = L.length := by
  have hg : g < w.heap.size := by
    rcases h.2 with ⟨h0, _⟩ | ⟨g', cap', cur, hv, hb, hg, _⟩
    · cases h0
    · cases hv; exact (Array.getElem?_eq_some_iff.1 hg).1
  have hH := holds_of_own kC_len h
  have eg : ∀ args w, (callFunc 26 args).run Try.prog w = .ok (.enter 26 args) w := enters_of Try.func26 (by kernel_rfl) rfl
  have hcmp : CmpLays Try.prog 26 #[] kC 2 kcf g 0 l.toArray.size w := fun _ _ _ _ x y => compareKeys x y _
  have con := AnyQ.slices_SortFunc Try.sortK 2 Try.isAgg38 Try.sizeOf38 kC kC_len (fun x v hv => by simp [kC] at hv; rcases hv with rfl | rfl <;> rfl) kcf kcf_swo 26 #[] g 0 cap l.toArray w eg hcmp hH hg (by simpa using hsz)
  change Calls Try.prog 25 _ _ _ at con
  have e0 : l.toArray.size = l.length := by simp
  rw [e0] at con
  refine con.mono ?_
  rintro e w' ⟨rfl, d', n, os, hp, hs, rfl⟩
  have hp' := perm_of (d := l.toArray) (by rw [e0]; exact hp)
  have hds : d'.size = l.toArray.size := by have := hp.1; simpa using this
  have hpr := pairs_of (n := l.length) (by rw [hds, e0]) hs
  have hR : Rsg d'.toList := by
    have nd : d'.toList.Nodup := hp'.symm.nodup hn
    refine (List.Pairwise.and hpr nd).imp ?_
    rintro a b ⟨h1, h2⟩
    rw [kcf_is] at h1
    cases h3 : kLt a b
    · exact absurd (kLt_tri h3 h1) h2
    · rfl
  have hdL : d'.toList = L := rsg_ext hR hL fun x => (hp'.mem_iff).trans (by simpa using hm x)
  have hh := holdsK_sortWorldK_c kC 2 w g 0 l.toArray d' n os hH hg hds
  refine ⟨rfl, grown_sorted d', ?_, ?_⟩
  · rw [← hdL]
    exact rd_of_holds kC_len hh
  · rw [← hdL]
    simp [hds]
/-- A nil row. -/
theorem sortNone (p : Option Addr) (cap : Nat) (fv : Value) (w : World) : Calls Try.prog 25 #[.slice p 0 cap, fv] w fun e w' => e = .returned (.tuple #[]) ∧ w' = w := AnyF.slices_SortFunc_none Try.sortK p cap fv w

end Go.Proofs.Ytpbbamoeaalolaa.Wg
