/-
  The document's workflow as a value: the contracts of Str, Num, list and Value. Conditions: the nodes lie in memory, their numbers fit a machine.
-/
import Derived.Test.YtainajjklakaeaaGpUv
import Derived.Test.YtainajjklakaeaaGpF
namespace Go.Proofs.Ytainajjklakaeaa.Wgx
open Go.ChangeShapes Go.WideShapes Go.ChangeAt Go.RowKit Go.Proofs.Ytainajjklakaeaa.M Go.Proofs.Ytainajjklakaeaa.Wgp Go.Proofs.Ytainajjklakaeaa.Wgf

theorem alloc2 (w : World) (a b : Obj) : ∀ X, X = (w.alloc a).alloc b → X.heap[w.heap.size]? = some a ∧ X.heap[w.heap.size + 1]? = some b ∧ X.heap.size = w.heap.size + 2 ∧ Below w.heap.size w X := by
  intro X hX
  have y1 := heap_alloc_new w a
  have y2 := heap_alloc_new (w.alloc a) b
  rw [World.size_alloc] at y2
  subst hX
  exact ⟨by rw [Below.heap_alloc _ _ _ (by simp), y1], y2, by simp, ((Below.refl _ _).alloc (Nat.le_refl _) _).alloc (by simp) _⟩
theorem hid {p : Prop} (h : p) : Hid p := h
theorem ret_b {a b : Bool} (h : a = b) : Ending.returned (.bool a) = .returned (.bool b) := by rw [h]
theorem strRef (s : ByteArray) (w : World) : Calls Try.prog 23 #[.string s] w fun e w' => e = .returned (.agg #[.int .i64 1, .int .i64 0, .string s, .slice none 0 0]) ∧ Below w.heap.size w w' := by
  go_enter Try.func23, Try.ntmps23
  go_wp2_with fail
  exact bodyPost_ret (v := .agg #[.int .i64 1, .int .i64 0, .string s, .slice none 0 0]) (by simp [results, Try.results23, go_sem]) rfl ⟨rfl, (Below.refl _ _).alloc (Nat.le_refl _) _⟩
theorem numRef (n : Int) (w : World) : Calls Try.prog 25 #[.int .i64 n] w fun e w' => e = .returned (.agg #[.int .i64 0, .int .i64 n, .string ⟨#[]⟩, .slice none 0 0]) ∧ Below w.heap.size w w' := by
  go_enter Try.func25, Try.ntmps25
  go_wp2_with fail
  exact bodyPost_ret (v := .agg #[.int .i64 0, .int .i64 n, .string ⟨#[]⟩, .slice none 0 0]) (by simp [results, Try.results25, go_sem]) rfl ⟨rfl, (Below.refl _ _).alloc (Nat.le_refl _) _⟩
theorem listRef (p : Option Addr) (n c : Nat) (w : World) : Calls Try.prog 24 #[.slice p n c] w fun e w' => e = .returned (.agg #[.int .i64 2, .int .i64 0, .string ⟨#[]⟩, .slice p n c]) ∧ Below w.heap.size w w' := by
  go_enter Try.func24, Try.ntmps24
  go_wp2_with fail
  exact bodyPost_ret (v := .agg #[.int .i64 2, .int .i64 0, .string ⟨#[]⟩, .slice p n c]) (by simp [results, Try.results24, go_sem]) rfl ⟨rfl, (Below.refl _ _).alloc (Nat.le_refl _) _⟩
theorem infoV : (Try.prog.info? 40).map (fun i => (i.zero, i.size, i.bytes)) = some (some (.agg #[.int .i64 0, .int .i64 0, .string ⟨#[]⟩, .slice none 0 0]), 4, 56) := by kernel_rfl

theorem smallRef (n : Int) (w : World) : Calls Try.prog 16 #[.int .i64 n] w fun e w' => e = .returned (.bool (sm n)) ∧ w = w' := by
  obtain ⟨r, hr⟩ : ∃ r, Hid (sm n = r) := ⟨_, rfl⟩
  rw [hr.out]
  by_cases h1 : -2147483648 ≤ n
  · by_cases h2 : n ≤ 2147483647
    · have R := hid (hr.out.symm.trans (decide_eq_true (show -2147483648 ≤ n ∧ n ≤ 2147483647 from ⟨h1, h2⟩)))
      go_enter Try.func16, Try.ntmps16
      go_wp2_with fail
      go_ret
      exact ⟨ret_b R.out.symm, rfl⟩
    · have R := hid (hr.out.symm.trans (decide_eq_false (show ¬ (-2147483648 ≤ n ∧ n ≤ 2147483647) by omega)))
      have e2 : decide (n ≤ 2147483647) = false := decide_eq_false h2
      go_enter Try.func16, Try.ntmps16
      go_wp2_with fail
      go_ret
      exact ⟨(by first | exact ret_b R.out.symm | (rw [e2]; exact ret_b R.out.symm)), rfl⟩
  · have R := hid (hr.out.symm.trans (decide_eq_false (show ¬ (-2147483648 ≤ n ∧ n ≤ 2147483647) by omega)))
    have e1 : decide (-2147483648 ≤ n) = false := decide_eq_false h1
    go_enter Try.func16, Try.ntmps16
    go_wp2_with fail
    go_ret
    exact ⟨(by first | exact ret_b R.out.symm | (rw [e1]; exact ret_b R.out.symm)), rfl⟩

/-- A row that reads without inner ones. -/
def NoA : Nat → Prop := fun _ => False
theorem fits_no {w w' : World} {f : F} {xs : List Value} (h : Fits w NoA f xs) : Fits w' NoA f xs := fits_of (fun _ h => h) (fun _ h => h.elim) h
theorem take_snoc {l : List ByteArray} {i : Nat} {d : ByteArray} (hd : l[i]? = some d) : l.take (i + 1) = l.take i ++ [d] := by
  rw [List.take_add_one, hd]
  rfl
theorem take_snocN {l : List Nd} {i : Nat} {d : Nd} (hd : l[i]? = some d) : l.take (i + 1) = l.take i ++ [d] := by
  rw [List.take_add_one, hd]
  rfl
theorem own_slice {X : World} {base e n : Nat} {v : Value} {xs : List Value} (h : X.ownsRow base e 4 v n xs) : ∃ q d, v = .slice q n d ∧ n ≤ d ∧ d ≤ maxLen := by
  rcases h.2 with ⟨rfl, hn⟩ | ⟨g, cap, cur, rfl, hb, hg, hc, hm, hs, ht⟩
  · rw [hn]; exact ⟨none, 0, rfl, Nat.le_refl _, by unfold maxLen; omega⟩
  · exact ⟨_, _, rfl, hc, hm⟩
theorem below_ownG {B : Nat} {a X X' : World} {e n : Nat} {v : Value} {xs : List Value} (h : Below B a X) (hB : B ≤ X.heap.size) (ho : X.ownsRow B e 4 v n xs) (g : X.grownBy X' v.ownBlock) : Below B a X' :=
  h.trans (⟨g.os, g.tape, g.output, g.size, fun k hk => g.block k (by omega) (fun e => by have := (ho.lt k e.symm).1; omega)⟩ : Below B X X')
theorem below_ownG2 {B base : Nat} {a X X' : World} {e n : Nat} {v : Value} {xs : List Value} (h : Below B a X) (hB : B ≤ base) (hB2 : B ≤ X.heap.size) (ho : X.ownsRow base e 4 v n xs) (g : X.grownBy X' v.ownBlock) : Below B a X' :=
  h.trans (⟨g.os, g.tape, g.output, g.size, fun k hk => g.block k (by omega) (fun e => by have := (ho.lt k e.symm).1; omega)⟩ : Below B X X')
theorem four {w : World} {b : Nat} {x0 x1 x2 x3 : Value} {T : TypeId} (h : w.heap[b]? = some (.cells #[x0, x1, x2, x3] T (0, 0))) : w.cell? ⟨b, 0, none⟩ = some x0 ∧ w.cell? ⟨b, 1, none⟩ = some x1 ∧ w.cell? ⟨b, 2, none⟩ = some x2 ∧ w.cell? ⟨b, 3, none⟩ = some x3 := by
  simp [World.cell?, h]
theorem six {w : World} {b : Nat} {x0 x1 x2 x3 x4 x5 : Value} {T : TypeId} (h : w.heap[b]? = some (.cells #[x0, x1, x2, x3, x4, x5] T (0, 0))) : w.cell? ⟨b, 0, none⟩ = some x0 ∧ w.cell? ⟨b, 1, none⟩ = some x1 ∧ w.cell? ⟨b, 2, none⟩ = some x2 ∧ w.cell? ⟨b, 3, none⟩ = some x3 ∧ w.cell? ⟨b, 4, none⟩ = some x4 ∧ w.cell? ⟨b, 5, none⟩ = some x5 := by
  simp [World.cell?, h]

set_option maxRecDepth 100000 in
set_option maxHeartbeats 6400000 in
theorem value {w : World} {a : Option Addr} {L : List Nd} {cap : Nat} (nm : ByteArray) (hN : Ns w a L) (hl : L.length ≤ 400) (hok : ∀ x ∈ L, NdOk x) :
    Calls Try.prog 11 #[.agg #[.string nm, .slice a L.length cap]] w fun e w' =>
      ∃ p c, e = .returned (.agg #[.int .i64 2, .int .i64 0, .string ⟨#[]⟩, .slice p 2 c]) ∧ Rd w' (fun g => w.heap.size ≤ g) (.slice p 2 c) (flowF nm L) ∧ Below w.heap.size w w' := by
  obtain ⟨i0, hi0, hz0, hs0, hb0⟩ := info_parts infoV
  have HX := hid hok
  have HS := hid hN
  have ST := hid strRef
  have NM := hid numRef
  have LS := hid listRef
  clear hok hN
  go_enter Try.func11, Try.ntmps11
  go_wp2_with fail
  obtain ⟨X, hX⟩ : ∃ X, X = (w.alloc (.cells #[.string nm, .slice a L.length cap] 31)).alloc (.cells #[.int .i64 0, .int .i64 0, .string ⟨#[]⟩, .slice none 0 0] 40) := ⟨_, rfl⟩
  rw [← hX]
  obtain ⟨x1, x2, zX, bX⟩ := alloc2 _ _ _ X hX
  have X1 := hid x1
  have X2 := hid x2
  have BX := hid bX
  have I0 := hid (show Inv 40 40 (w.heap.size + 2) (fun _ => False) (.slice none 0 0) (.slice none 0 0) 0 0 [] [] X from ⟨World.ownsRow_nil _ _ _ _, World.ownsRow_nil _ _ _ _, .inl rfl, fun _ h => h.elim, by omega⟩)
  clear hX x1 x2 bX
  go_loopw [3, 4] (fun nv iv wr => ∃ (i : Nat) (q : Option Addr) (d : Nat) (xs : List Value) (S : Nat → Prop), i ≤ L.length ∧ iv = .int .i64 (i : Int) ∧ nv = .slice q i d ∧ Hid (Below w.heap.size w wr) ∧ w.heap.size + 2 ≤ wr.heap.size ∧ Hid (wr.heap[w.heap.size]? = some (.cells #[.string nm, .slice a L.length cap] 31 (0, 0))) ∧ Hid (wr.heap[w.heap.size + 1]? = some (.cells #[.int .i64 0, .int .i64 0, .string ⟨#[]⟩, .slice none 0 0] 40 (0, 0))) ∧ Hid (Inv 40 40 (w.heap.size + 2) S (.slice q i d) (.slice none 0 0) i 0 xs [] wr) ∧ Hid (Fits wr S (nodesF (L.take i)) xs)) (fun _ iv _ => L.length - (intOf iv).toNat)
  case atStart => exact ⟨0, none, 0, [], _, Nat.zero_le _, rfl, rfl, BX, by omega, X1, X2, I0, hid (by simp [nodesF, Fits])⟩
  case round =>
    clear X1 X2 BX I0 zX
    obtain ⟨i, q, d, xs, S, hi, rfl, rfl, hb, hz, hP, hR, hI, hF⟩ := hrel
    obtain ⟨wo, rfl⟩ : ∃ wo, wo = wr := ⟨_, rfl⟩
    have y0 : wo.cell? ⟨w.heap.size, 0, none⟩ = some (.string nm) := by simp [World.cell?, hP.out]
    have y1 : wo.cell? ⟨w.heap.size, 1, none⟩ = some (.slice a L.length cap) := by simp [World.cell?, hP.out]
    by_cases ci : i < L.length
    · obtain ⟨x, hx⟩ : ∃ x, L[i]? = some x := ⟨L[i], List.getElem?_eq_getElem ci⟩
      have hsn := hid (take_snocN hx)
      have hxk := hid (HX.out x (List.mem_of_getElem? hx))
      obtain ⟨g, da, dc, rfl, hg, h6, hD⟩ := (HS.out.below hb.out).at hx
      obtain ⟨n0, n1, n2, n3, n4, n5⟩ := h6
      have hdl := hxk.out.2.2.2.1
      have HD := hid hD
      clear hx hD
      go_wp2_with fail
      obtain ⟨Y, hY⟩ : ∃ Y, Y = wo.alloc (.cells #[.string x.name, .slice da x.deps.length dc, .int .i64 x.tries, .int .i64 x.lease, .int .i64 x.tenant, .string x.flow] 57) := ⟨_, rfl⟩
      rw [← hY]
      have bY := hid (show Below wo.heap.size wo Y by rw [hY]; exact al wo _)
      have zY : Y.heap.size = wo.heap.size + 1 := by rw [hY]; simp
      have nY := hid (show Y.heap[wo.heap.size]? = some (.cells #[.string x.name, .slice da x.deps.length dc, .int .i64 x.tries, .int .i64 x.lease, .int .i64 x.tenant, .string x.flow] 57 (0, 0)) by rw [hY]; exact heap_alloc_new wo _)
      have DY := hid (HD.out.below bY.out)
      clear hY HD n0 n1 n2 n3 n4 n5
      go_loopw [6, 7] (fun dv kv wi => ∃ (k : Nat) (q' : Option Addr) (d' : Nat) (ys : List Value), k ≤ x.deps.length ∧ kv = .int .i64 (k : Int) ∧ dv = .slice q' k d' ∧ Hid (Below Y.heap.size Y wi) ∧ Y.heap.size ≤ wi.heap.size ∧ Hid (wi.ownsRow Y.heap.size 40 4 (.slice q' k d') k ys) ∧ Hid (Fits wi NoA (strsF (x.deps.take k)) ys)) (fun _ kv _ => x.deps.length - (intOf kv).toNat)
      case atStart => exact ⟨0, none, 0, [], Nat.zero_le _, rfl, rfl, hid (Below.refl _ _), Nat.le_refl _, hid (World.ownsRow_nil _ _ _ _), hid (by simp [strsF, Fits])⟩
      case round =>
        obtain ⟨k, q', d', ys, hk, rfl, rfl, hbi, hzi, hoi, hfi⟩ := hrel
        have nyi := (hbi.out.block _ (by omega)).trans nY.out
        have u1 : wr.cell? ⟨wo.heap.size, 1, none⟩ = some (.slice da x.deps.length dc) := by simp [World.cell?, nyi]
        by_cases ck : k < x.deps.length
        · obtain ⟨dd, hdd⟩ : ∃ dd, x.deps[k]? = some dd := ⟨x.deps[k], List.getElem?_eq_getElem ck⟩
          obtain ⟨gd, rfl, hgd, yd⟩ := (DY.out.2.2.below hbi.out).at hdd
          have hsk := hid (take_snoc hdd)
          clear hdd
          go_wp2_with fail
          refine (ST.out _ _).mono ?_
          rintro e w2 ⟨rfl, b2⟩
          have z2 : wr.heap.size ≤ w2.heap.size := b2.size
          have B2 := hid (b2.trans ((al2 w2 (.cells #[.int .i64 1, .int .i64 0, .string dd, .slice none 0 0] 40) (.cells #[.int .i64 1, .int .i64 0, .string dd, .slice none 0 0] 40)).mono b2.size))
          have O2 := hid (hoi.out.kept (grown_below B2.out) (by cases hv : (Value.slice q' k d').ownBlock <;> simp))
          have N2 := hid (show ((w2.alloc (.cells #[.int .i64 1, .int .i64 0, .string dd, .slice none 0 0] 40)).alloc (.cells #[.int .i64 1, .int .i64 0, .string dd, .slice none 0 0] 40)).heap[w2.heap.size + 1]? = some (.cells #[.int .i64 1, .int .i64 0, .string dd, .slice none 0 0] 40 (0, 0)) by have h := heap_alloc_new (w2.alloc (.cells #[.int .i64 1, .int .i64 0, .string dd, .slice none 0 0] 40)) (.cells #[.int .i64 1, .int .i64 0, .string dd, .slice none 0 0] 40); rw [World.size_alloc] at h; exact h)
          have C2 := hid (show ∀ u ∈ [Value.int .i64 1, .int .i64 0, .string dd, .slice none 0 0], u.oneCell' = true from fun u hu => by simp at hu; rcases hu with rfl | rfl | rfl | rfl <;> rfl)
          have h63 : k + 1 ≤ maxLen := by unfold maxLen; omega
          have hby : (k + 1) * 56 ≤ 140737488355328 := by omega
          have hba : Y.heap.size ≤ ((w2.alloc (.cells #[.int .i64 1, .int .i64 0, .string dd, .slice none 0 0] 40)).alloc (.cells #[.int .i64 1, .int .i64 0, .string dd, .slice none 0 0] 40)).heap.size := by simp; omega
          have D2 := hid (show ∀ b, some (⟨w2.heap.size + 1, 0, none⟩ : Addr) = some b → ∀ j u, [Value.int .i64 1, .int .i64 0, .string dd, .slice none 0 0][j]? = some u → ((w2.alloc (.cells #[.int .i64 1, .int .i64 0, .string dd, .slice none 0 0] 40)).alloc (.cells #[.int .i64 1, .int .i64 0, .string dd, .slice none 0 0] 40)).cell? (b.add j) = some u from fun b hb => by injection hb with hb; subst hb; exact World.news_of_block N2.out)
          clear b2 yd u1 nyi
          go_wp2_with (at_builtin; (refine wpList_append_any _ rfl _ _ 38 rfl Y.heap.size 40 i0 _ 4 56 Try.underlying38 hi0 hz0 hs0 hb0 rfl (by decide) (.slice q' k d') k ys rfl O2.out (some ⟨w2.heap.size + 1, 0, none⟩) 1 1 [.int .i64 1, .int .i64 0, .string dd, .slice none 0 0] rfl (by simp) (by simp) D2.out C2.out h63 hby hba ?_; intro v' w' o' g'; obtain ⟨q2, d2, rfl, l1, l2⟩ := own_slice o'; go_frame))
          go_roundw
          case rel =>
            have hzz : Y.heap.size ≤ w'.heap.size := by have := g'.size; simp at this; omega
            refine ⟨k + 1, q2, d2, _, ck, by go_num, rfl, hid (below_ownG (hbi.out.trans (B2.out.mono hzi)) hba O2.out g'), hzz, hid o', hid ?_⟩
            rw [hsk.out, strsF_snoc]
            exact fits_app (fits_no hfi.out) (fits_one (rd_nil _ _))
          case measure => simp [intOf]; omega
        · have ek : k = x.deps.length := by omega
          subst ek
          rw [List.take_length] at hfi
          have HB0 := hid (show Below Y.heap.size Y wr from hbi.out)
          obtain ⟨u0, u1', u2, u3, u4, u5⟩ := six nyi
          clear u1
          go_wp2_with fail
          refine (ST.out _ _).mono ?_
          rintro e v1 ⟨rfl, b1⟩
          have G1 := hid b1
          have HB1 := hid (HB0.out.trans (G1.out.mono hzi))
          have lo1 : wo.heap.size < v1.heap.size := by have := G1.out.size; omega
          clear b1 u0 u1' u2 u3 u4 u5
          obtain ⟨u0, u1', u2, u3, u4, u5⟩ := six ((HB1.out.block _ (by omega)).trans nY.out)
          go_wp2_with fail
          refine (LS.out _ _ _ _).mono ?_
          rintro e v2 ⟨rfl, b2⟩
          have G2 := hid (G1.out.trans (((al v1 (.cells #[.int .i64 1, .int .i64 0, .string x.name, .slice none 0 0] 40)).trans (b2.mono (by simp))).mono G1.out.size))
          have E1 := hid ((b2.block v1.heap.size (by simp)).trans (heap_alloc_new v1 (.cells #[.int .i64 1, .int .i64 0, .string x.name, .slice none 0 0] 40)))
          have l1 : v1.heap.size < v2.heap.size := by have := b2.size; simp at this; omega
          have HB2 := hid (HB0.out.trans (G2.out.mono hzi))
          have lo2 : wo.heap.size < v2.heap.size := by have := G2.out.size; omega
          clear b2 u0 u1' u2 u3 u4 u5
          obtain ⟨u0, u1', u2, u3, u4, u5⟩ := six ((HB2.out.block _ (by omega)).trans nY.out)
          clear HB1 lo1
          go_wp2_with fail
          refine (NM.out _ _).mono ?_
          rintro e v3 ⟨rfl, b3⟩
          have G3 := hid (G2.out.trans (((al v2 (.cells #[.int .i64 2, .int .i64 0, .string ⟨#[]⟩, .slice q' x.deps.length d'] 40)).trans (b3.mono (by simp))).mono G2.out.size))
          have E2 := hid ((b3.block v2.heap.size (by simp)).trans (heap_alloc_new v2 (.cells #[.int .i64 2, .int .i64 0, .string ⟨#[]⟩, .slice q' x.deps.length d'] 40)))
          have l2 : v2.heap.size < v3.heap.size := by have := b3.size; simp at this; omega
          have E1' := hid ((b3.block v1.heap.size (by simp; omega)).trans ((Below.heap_alloc v2 (.cells #[.int .i64 2, .int .i64 0, .string ⟨#[]⟩, .slice q' x.deps.length d'] 40) v1.heap.size (by omega)).trans E1.out))
          clear E1
          have E1 := E1'
          clear E1'
          have HB3 := hid (HB0.out.trans (G3.out.mono hzi))
          have lo3 : wo.heap.size < v3.heap.size := by have := G3.out.size; omega
          clear b3 u0 u1' u2 u3 u4 u5
          obtain ⟨u0, u1', u2, u3, u4, u5⟩ := six ((HB3.out.block _ (by omega)).trans nY.out)
          clear HB2 lo2
          go_wp2_with fail
          refine (NM.out _ _).mono ?_
          rintro e v4 ⟨rfl, b4⟩
          have G4 := hid (G3.out.trans (((al v3 (.cells #[.int .i64 0, .int .i64 x.tries, .string ⟨#[]⟩, .slice none 0 0] 40)).trans (b4.mono (by simp))).mono G3.out.size))
          have E3 := hid ((b4.block v3.heap.size (by simp)).trans (heap_alloc_new v3 (.cells #[.int .i64 0, .int .i64 x.tries, .string ⟨#[]⟩, .slice none 0 0] 40)))
          have l3 : v3.heap.size < v4.heap.size := by have := b4.size; simp at this; omega
          have E1' := hid ((b4.block v1.heap.size (by simp; omega)).trans ((Below.heap_alloc v3 (.cells #[.int .i64 0, .int .i64 x.tries, .string ⟨#[]⟩, .slice none 0 0] 40) v1.heap.size (by omega)).trans E1.out))
          clear E1
          have E1 := E1'
          clear E1'
          have E2' := hid ((b4.block v2.heap.size (by simp; omega)).trans ((Below.heap_alloc v3 (.cells #[.int .i64 0, .int .i64 x.tries, .string ⟨#[]⟩, .slice none 0 0] 40) v2.heap.size (by omega)).trans E2.out))
          clear E2
          have E2 := E2'
          clear E2'
          have HB4 := hid (HB0.out.trans (G4.out.mono hzi))
          have lo4 : wo.heap.size < v4.heap.size := by have := G4.out.size; omega
          clear b4 u0 u1' u2 u3 u4 u5
          obtain ⟨u0, u1', u2, u3, u4, u5⟩ := six ((HB4.out.block _ (by omega)).trans nY.out)
          clear HB3 lo3
          go_wp2_with fail
          refine (NM.out _ _).mono ?_
          rintro e v5 ⟨rfl, b5⟩
          have G5 := hid (G4.out.trans (((al v4 (.cells #[.int .i64 0, .int .i64 x.lease, .string ⟨#[]⟩, .slice none 0 0] 40)).trans (b5.mono (by simp))).mono G4.out.size))
          have E4 := hid ((b5.block v4.heap.size (by simp)).trans (heap_alloc_new v4 (.cells #[.int .i64 0, .int .i64 x.lease, .string ⟨#[]⟩, .slice none 0 0] 40)))
          have l4 : v4.heap.size < v5.heap.size := by have := b5.size; simp at this; omega
          have E1' := hid ((b5.block v1.heap.size (by simp; omega)).trans ((Below.heap_alloc v4 (.cells #[.int .i64 0, .int .i64 x.lease, .string ⟨#[]⟩, .slice none 0 0] 40) v1.heap.size (by omega)).trans E1.out))
          clear E1
          have E1 := E1'
          clear E1'
          have E2' := hid ((b5.block v2.heap.size (by simp; omega)).trans ((Below.heap_alloc v4 (.cells #[.int .i64 0, .int .i64 x.lease, .string ⟨#[]⟩, .slice none 0 0] 40) v2.heap.size (by omega)).trans E2.out))
          clear E2
          have E2 := E2'
          clear E2'
          have E3' := hid ((b5.block v3.heap.size (by simp; omega)).trans ((Below.heap_alloc v4 (.cells #[.int .i64 0, .int .i64 x.lease, .string ⟨#[]⟩, .slice none 0 0] 40) v3.heap.size (by omega)).trans E3.out))
          clear E3
          have E3 := E3'
          clear E3'
          have HB5 := hid (HB0.out.trans (G5.out.mono hzi))
          have lo5 : wo.heap.size < v5.heap.size := by have := G5.out.size; omega
          clear b5 u0 u1' u2 u3 u4 u5
          obtain ⟨u0, u1', u2, u3, u4, u5⟩ := six ((HB5.out.block _ (by omega)).trans nY.out)
          clear HB4 lo4
          go_wp2_with fail
          refine (ST.out _ _).mono ?_
          rintro e v6 ⟨rfl, b6⟩
          have G6 := hid (G5.out.trans (((al v5 (.cells #[.int .i64 0, .int .i64 x.tenant, .string ⟨#[]⟩, .slice none 0 0] 40)).trans (b6.mono (by simp))).mono G5.out.size))
          have E5 := hid ((b6.block v5.heap.size (by simp)).trans (heap_alloc_new v5 (.cells #[.int .i64 0, .int .i64 x.tenant, .string ⟨#[]⟩, .slice none 0 0] 40)))
          have l5 : v5.heap.size < v6.heap.size := by have := b6.size; simp at this; omega
          have E1' := hid ((b6.block v1.heap.size (by simp; omega)).trans ((Below.heap_alloc v5 (.cells #[.int .i64 0, .int .i64 x.tenant, .string ⟨#[]⟩, .slice none 0 0] 40) v1.heap.size (by omega)).trans E1.out))
          clear E1
          have E1 := E1'
          clear E1'
          have E2' := hid ((b6.block v2.heap.size (by simp; omega)).trans ((Below.heap_alloc v5 (.cells #[.int .i64 0, .int .i64 x.tenant, .string ⟨#[]⟩, .slice none 0 0] 40) v2.heap.size (by omega)).trans E2.out))
          clear E2
          have E2 := E2'
          clear E2'
          have E3' := hid ((b6.block v3.heap.size (by simp; omega)).trans ((Below.heap_alloc v5 (.cells #[.int .i64 0, .int .i64 x.tenant, .string ⟨#[]⟩, .slice none 0 0] 40) v3.heap.size (by omega)).trans E3.out))
          clear E3
          have E3 := E3'
          clear E3'
          have E4' := hid ((b6.block v4.heap.size (by simp; omega)).trans ((Below.heap_alloc v5 (.cells #[.int .i64 0, .int .i64 x.tenant, .string ⟨#[]⟩, .slice none 0 0] 40) v4.heap.size (by omega)).trans E4.out))
          clear E4
          have E4 := E4'
          clear E4'
          have HB6 := hid (HB0.out.trans (G6.out.mono hzi))
          have lo6 : wo.heap.size < v6.heap.size := by have := G6.out.size; omega
          clear b6 u0 u1' u2 u3 u4 u5
          obtain ⟨u0, u1', u2, u3, u4, u5⟩ := six ((HB6.out.block _ (by omega)).trans nY.out)
          clear HB5 lo5
          obtain ⟨p10, p11, p12, p13⟩ := four E1.out
          obtain ⟨p20, p21, p22, p23⟩ := four E2.out
          obtain ⟨p30, p31, p32, p33⟩ := four E3.out
          obtain ⟨p40, p41, p42, p43⟩ := four E4.out
          obtain ⟨p50, p51, p52, p53⟩ := four E5.out
          have k1 : v1.heap.size < v6.heap.size := by omega
          have k2 : v2.heap.size < v6.heap.size := by omega
          have k3 : v3.heap.size < v6.heap.size := by omega
          have k4 : v4.heap.size < v6.heap.size := by omega
          clear u0 u1' u2 u3 u4 u5
          go_wp2_with fail
          obtain ⟨W7, hW7⟩ : ∃ W7, W7 = ((v6.alloc (.cells #[.int .i64 1, .int .i64 0, .string x.flow, .slice none 0 0] 40)).alloc (.cells #[.int .i64 1, .int .i64 0, .string x.name, .slice none 0 0, .int .i64 2, .int .i64 0, .string ⟨#[]⟩, .slice q' x.deps.length d', .int .i64 0, .int .i64 x.tries, .string ⟨#[]⟩, .slice none 0 0, .int .i64 0, .int .i64 x.lease, .string ⟨#[]⟩, .slice none 0 0, .int .i64 0, .int .i64 x.tenant, .string ⟨#[]⟩, .slice none 0 0, .int .i64 1, .int .i64 0, .string x.flow, .slice none 0 0] 40)) := ⟨_, rfl⟩
          rw [← hW7]
          obtain ⟨_, x7, z7, bb7⟩ := alloc2 _ _ _ W7 hW7
          have D7 := hid (HB6.out.trans (bb7.mono HB6.out.size))
          have G7 := hid (bY.out.trans (D7.out.mono (by omega)))
          have O7 := hid (hoi.out.kept (grown_below (G6.out.trans (bb7.mono G6.out.size))) (by cases hv : (Value.slice q' x.deps.length d').ownBlock <;> simp))
          have R7 := hid (show Rd W7 (fun b => wo.heap.size ≤ b) (.slice (some ⟨v6.heap.size + 1, 0, none⟩) 6 6) (ndF x) from by
            have r0 : Rd W7 (fun b => wo.heap.size ≤ b) (.slice q' (strsF x.deps).len d') (strsF x.deps) := rd_own (S := NoA) (base := Y.heap.size) (e := 40) (xs := ys) (by rw [strsF_len]; exact O7.out) (fits_no hfi.out) (fun _ h => h.elim) (fun b hb => by omega)
            rw [strsF_len] at r0
            exact .inr ⟨v6.heap.size + 1, 6, _, _, rfl, (by show wo.heap.size ≤ v6.heap.size + 1; omega), Nat.le_refl _, by unfold maxLen; omega, x7, fits_cons.2 ⟨_, _, rfl, fits_cons.2 ⟨_, _, rfl, fits_cons.2 ⟨_, _, rfl, fits_cons.2 ⟨_, _, rfl, fits_cons.2 ⟨_, _, rfl, fits_cons.2 ⟨_, _, rfl, rfl, rd_nil _ _⟩, rd_nil _ _⟩, rd_nil _ _⟩, rd_nil _ _⟩, r0⟩, rd_nil _ _⟩⟩)
          clear hW7 x7 bb7 D7 O7 HB6 G6 p10 p11 p12 p13 p20 p21 p22 p23 p30 p31 p32 p33 p40 p41 p42 p43 p50 p51 p52 p53 E1 E2 E3 E4 E5 G1 G2 G3 G4 G5 hoi hfi nyi HB0 hbi
          refine (LS.out _ _ _ _).mono ?_
          rintro e v7 ⟨rfl, b7⟩
          obtain ⟨W8, hW8⟩ : ∃ W8, W8 = ((v7.alloc (.cells #[.int .i64 2, .int .i64 0, .string ⟨#[]⟩, .slice (some ⟨v6.heap.size + 1, 0, none⟩) 6 6] 40)).alloc (.cells #[.int .i64 2, .int .i64 0, .string ⟨#[]⟩, .slice (some ⟨v6.heap.size + 1, 0, none⟩) 6 6] 40)) := ⟨_, rfl⟩
          obtain ⟨_, x8, z8, bb8⟩ := alloc2 _ _ _ W8 hW8
          have G8 := hid (G7.out.trans ((b7.trans (bb8.mono b7.size)).mono G7.out.size))
          have R8 := hid (rd_below (rd_below R7.out b7) bb8)
          have I8 := hid (hI.out.grow (grown_below G8.out))
          have D8 := hid x8
          have C8 := hid (show ∀ u ∈ ([.int .i64 2, .int .i64 0, .string ⟨#[]⟩, .slice (some ⟨v6.heap.size + 1, 0, none⟩) 6 6] : List Value), u.oneCell' = true from fun u hu => by simp at hu; rcases hu with rfl | rfl | rfl | rfl <;> rfl)
          have h63 : i + 1 ≤ maxLen := by unfold maxLen; omega
          have hby : (i + 1) * 56 ≤ 140737488355328 := by omega
          have hba : w.heap.size + 2 ≤ W8.heap.size := by have := G8.out.size; omega
          have H8 := hid hW8
          clear b7 bb8 x8 R7 G7 y0 y1
          rw [hW8] at D8 I8 hba
          clear hW8
          go_wp2_with (at_builtin; (refine wpList_append_lies _ rfl _ _ 38 rfl (w.heap.size + 2) 40 i0 _ 4 56 Try.underlying38 hi0 hz0 hs0 hb0 rfl (by decide) (.slice q i d) i xs rfl I8.out.own1 ⟨v7.heap.size + 1, 0, none⟩ 1 1 [.int .i64 2, .int .i64 0, .string ⟨#[]⟩, .slice (some ⟨v6.heap.size + 1, 0, none⟩) 6 6] rfl rfl (World.news_of_block D8.out) C8.out (by decide) h63 hby hba _ rfl ?_; intro g1 t1 w' o' g' at' lt'; go_frame))
          go_roundw
          case rel =>
            have h8 := H8.out
            subst h8
            have I9 : Inv 40 40 (w.heap.size + 2) (fun b => S b ∨ (wo.heap.size ≤ b ∧ b < ((v7.alloc (.cells #[.int .i64 2, .int .i64 0, .string ⟨#[]⟩, .slice (some ⟨v6.heap.size + 1, 0, none⟩) 6 6] 40)).alloc (.cells #[.int .i64 2, .int .i64 0, .string ⟨#[]⟩, .slice (some ⟨v6.heap.size + 1, 0, none⟩) 6 6] 40)).heap.size)) (.slice q i d) (.slice none 0 0) i 0 xs [] ((v7.alloc (.cells #[.int .i64 2, .int .i64 0, .string ⟨#[]⟩, .slice (some ⟨v6.heap.size + 1, 0, none⟩) 6 6] 40)).alloc (.cells #[.int .i64 2, .int .i64 0, .string ⟨#[]⟩, .slice (some ⟨v6.heap.size + 1, 0, none⟩) 6 6] 40)) := by
              refine ⟨I8.out.own1, I8.out.own2, I8.out.apart, ?_, I8.out.here⟩
              rintro b (hb1 | ⟨hb1, hb2⟩)
              · exact I8.out.kids b hb1
              · refine ⟨by omega, hb2, ?_, ?_⟩
                · intro e; have := (hI.out.own1.lt b e).2; omega
                · intro e; have := (hI.out.own2.lt b e).2; omega
            have F9 := far_one I9 g'
            have z9 := g'.size
            refine ⟨i + 1, some ⟨g1, 0, none⟩, t1, _, _, ci, by go_num, rfl, hid (below_ownG2 (hb.out.trans (G8.out.mono hb.out.size)) (by omega) (by omega) I8.out.own1 g'), by omega, hid ?_, hid ?_, hid (I9.one o' g' at'), hid ?_⟩
            · exact (g'.block _ (by omega) (fun e => by have := (I8.out.own1.lt _ e.symm).1; omega)).trans ((G8.out.block _ (by omega)).trans hP.out)
            · exact (g'.block _ (by omega) (fun e => by have := (I8.out.own1.lt _ e.symm).1; omega)).trans ((G8.out.block _ (by omega)).trans hR.out)
            · rw [hsn.out, nodesF_snoc]
              refine F9.fits (fits_app (fits_of (fun _ h => .inl h) (fun _ _ _ h => h) (fits_below hF.out G8.out)) (fits_one (rd_of (fun _ h => .inr h) (fun _ _ _ h => h) (rd_size R8.out))))
          case measure => simp [intOf]; omega
    · have ei : i = L.length := by omega
      subst ei
      rw [List.take_length] at hF
      go_wp2_with fail
      refine (ST.out _ _).mono ?_
      rintro e v1 ⟨rfl, b1⟩
      go_wp2_with fail
      refine (LS.out _ _ _ _).mono ?_
      rintro e v2 ⟨rfl, b2⟩
      have E1 := four ((b2.block v1.heap.size (by simp)).trans (heap_alloc_new v1 (.cells #[.int .i64 1, .int .i64 0, .string nm, .slice none 0 0] 40)))
      obtain ⟨p0, p1, p2, p3⟩ := E1
      have l1 : v1.heap.size < v2.heap.size := by have := b2.size; simp at this; omega
      have G2 := hid (b1.trans (((al v1 (.cells #[.int .i64 1, .int .i64 0, .string nm, .slice none 0 0] 40)).trans (b2.mono (by simp))).mono b1.size))
      clear b1 b2 y0 y1
      go_wp2_with fail
      obtain ⟨W, hW⟩ : ∃ W, W = (v2.alloc (.cells #[.int .i64 2, .int .i64 0, .string ⟨#[]⟩, .slice q L.length d] 40)).alloc (.cells #[.int .i64 1, .int .i64 0, .string nm, .slice none 0 0, .int .i64 2, .int .i64 0, .string ⟨#[]⟩, .slice q L.length d] 40) := ⟨_, rfl⟩
      rw [← hW]
      obtain ⟨_, x7, z7, bb7⟩ := alloc2 _ _ _ W hW
      have G3 := hid (G2.out.trans (bb7.mono G2.out.size))
      have I3 := hid (hI.out.grow (grown_below G3.out))
      have R3 := hid (show Rd W (fun b => w.heap.size + 2 ≤ b) (.slice (some ⟨v2.heap.size + 1, 0, none⟩) 2 2) (flowF nm L) from by
        have r0 : Rd W (fun b => w.heap.size + 2 ≤ b) (.slice q (nodesF L).len d) (nodesF L) := rd_own (S := S) (base := w.heap.size + 2) (e := 40) (xs := xs) (by rw [nodesF_len]; exact I3.out.own1) (fits_below hF.out G3.out) (fun b h => (hI.out.kids b h).1) (fun b hb => hb)
        rw [nodesF_len] at r0
        have := G2.out.size
        exact .inr ⟨v2.heap.size + 1, 2, _, _, rfl, (by show w.heap.size + 2 ≤ v2.heap.size + 1; omega), Nat.le_refl _, by unfold maxLen; omega, x7, fits_cons.2 ⟨_, _, rfl, fits_cons.2 ⟨_, _, rfl, rfl, r0⟩, rd_nil _ _⟩⟩)
      clear hW x7 bb7 I3 hI hF p0 p1 p2 p3
      refine (LS.out _ _ _ _).mono ?_
      rintro e v3 ⟨rfl, b3⟩
      have G4 := hid (G3.out.trans (b3.mono G3.out.size))
      have hR4 := (G4.out.block _ (by omega)).trans hR.out
      obtain ⟨r0, r1, r2, r3⟩ := four hR4
      have rf := frozen_there hR4
      have R4 := hid (rd_below R3.out b3)
      clear b3 R3 G3 G2
      go_wp2_with fail
      refine bodyPost_ret (v := .agg #[.int .i64 2, .int .i64 0, .string ⟨#[]⟩, .slice (some ⟨v2.heap.size + 1, 0, none⟩) 2 2]) (by simp [results, Try.results11, go_sem, r0, r1, r2, r3]) rfl ⟨_, _, rfl, ?_, put4_below (j := 0) (hb.out.trans (G4.out.mono hb.out.size)) (by omega) _ _ _ _⟩
      exact rd_of (fun g hg => by omega) (fun g hg o h => (put4_other (j := 0) (by omega)).trans h) R4.out

end Go.Proofs.Ytainajjklakaeaa.Wgx
