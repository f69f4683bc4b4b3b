/-
  A value's bytes, whole, cut off, or with more behind them: what all of them are read as. No Go text is in sight.
-/
import Derived.Test.YtkelipedpjmmaaaDoorQb
import Derived.Test.YtkelipedpjmmaaaDoorPutV
namespace Go.Proofs.YtkelipedpjmmaaaDoor.M
open Go.Proofs.YtkelipedpjmmaaaDoor.Wu

theorem here_all (s : ByteArray) : Here s 0 s.data.toList := ⟨Nat.zero_le _, rfl⟩
section
variable {k n : Int} {t : ByteArray} {l : F} {b : List UInt8}
theorem enc_read (ho : (F.cons k n t l .nil).ok) (hb : encV k n t l = .ok b) {s : ByteArray} {r : List UInt8} (h : s.data.toList = b ++ r) : valR s 8 0 = .ok (nrm1 k n t (nrm l), (b.length : Int)) := by
  have h0 := here_all s
  rw [h] at h0
  have := val_full (m := 8) (d := 0) ho.2.1 rfl hb (fun m' a bl r hm hx hh => row_full l m' 1 a bl r ho.2.2.2.1 (by omega) hx hh) h0
  simpa using this
theorem all_more (ho : (F.cons k n t l .nil).ok) (hb : encV k n t l = .ok b) (more : ByteArray) : allR (⟨b.toArray⟩ ++ more) = if more.size = 0 then .ok (nrm1 k n t (nrm l)) else .error 4 := by
  have e := enc_read (s := ⟨b.toArray⟩ ++ more) (r := more.data.toList) ho hb (by simp)
  unfold allR
  rw [e]
  have hz : ((⟨b.toArray⟩ : ByteArray) ++ more).size = b.length + more.size := by
    rw [size_app]
    show b.toArray.size + more.size = _
    rw [List.size_toArray]
  simp only [hz]
  by_cases c : more.size = 0
  · rw [if_pos (by omega), if_pos c]
  · rw [if_neg (by omega), if_neg c]
theorem all_same (ho : (F.cons k n t l .nil).ok) (hb : encV k n t l = .ok b) : allR ⟨b.toArray⟩ = .ok (nrm1 k n t (nrm l)) := by
  have e := enc_read (s := ⟨b.toArray⟩) (r := []) ho hb (by simp)
  unfold allR
  rw [e]
  have hz : (⟨b.toArray⟩ : ByteArray).size = b.length := by
    show b.toArray.size = _
    rw [List.size_toArray]
  simp only [hz, if_true]
theorem all_cut (ho : (F.cons k n t l .nil).ok) (hb : encV k n t l = .ok b) {i : Nat} (hi : i < b.length) : allR ((⟨b.toArray⟩ : ByteArray).extract 0 i) = .error 3 := by
  have e0 : ((⟨b.toArray⟩ : ByteArray).extract 0 i).data.toList = b.take i := by
    rw [ByteArray.data_extract]
    simp
  have h0 := here_all ((⟨b.toArray⟩ : ByteArray).extract 0 i)
  rw [e0] at h0
  have := val_cut (m := 8) (d := 0) ho.2.1 rfl hb (fun m' a bl c c' hm hx hh hcc hnn => row_cut l m' 1 a bl c c' ho.2.2.2.1 (by omega) hx hh hcc hnn) h0 (List.take_append_drop i b) (by
    intro h
    have h2 := congrArg List.length h
    rw [List.length_drop] at h2
    simp at h2
    omega)
  have this' : valR ((⟨b.toArray⟩ : ByteArray).extract 0 i) 8 0 = .error 3 := this
  unfold allR
  rw [this']
end

theorem nrm_eq : ∀ f : F, (∃ d b, encF f d = .ok b) → eqF f (nrm f) = true
  | .nil, _ => rfl
  | .cons k n s l r, ⟨d, b, h⟩ => by
    simp only [encF] at h
    obtain ⟨b1, b2, h1, h2, _⟩ := cat_ok h
    have e2 := nrm_eq r ⟨d, b2, h2⟩
    unfold nrm eqF
    rw [e2, Bool.and_true]
    unfold enc1 at h1
    unfold nrm1 eq1
    split at h1
    · rename_i c; subst c; simp
    split at h1
    · rename_i c; subst c; simp
    split at h1
    · rename_i c
      subst c
      split at h1
      · cases h1
      cases hx : encF l (d + 1) with
      | error e => rw [hx] at h1; cases h1
      | ok bl =>
        have e1 := nrm_eq l ⟨d + 1, bl, hx⟩
        simpa using e1
    · cases h1
theorem nrm1_eq {k n : Int} {t : ByteArray} {l : F} {b : List UInt8} (hb : encV k n t l = .ok b) : eq1 k n t (nrm1 k n t (nrm l)).k (nrm1 k n t (nrm l)).n (nrm1 k n t (nrm l)).s (eqF l (nrm1 k n t (nrm l)).l) = true := by
  have h := nrm_eq (.cons k n t l .nil) ⟨0, b ++ [], by
    simp only [encF]
    have : enc1 k n t l.len 0 (encF l (0 + 1)) = .ok b := hb
    rw [this]; rfl⟩
  simp only [nrm, eqF, Bool.and_true] at h
  exact h

end Go.Proofs.YtkelipedpjmmaaaDoor.M
