/-
  The contract of the document's Reach. Condition: at most 2^20 edges.
-/
import Derived.Test.YtpbbamoeaalolaaGtI
namespace Go.Proofs.Ytpbbamoeaalolaa.Wg
open Go.ChangeShapes Go.WideShapes Go.ChangeAt Go.RowKit Go.Proofs.Ytpbbamoeaalolaa.M Go.Maps

/-- What it comes to. -/
def ReachR (w w' : World) (es : List Ed) (f : Int) (e : Ending) : Prop :=
  ∃ (R : List Int) (a : Option Addr) (cap : Nat), IsR es f R ∧ e = .returned (.slice a R.length cap) ∧ LsI w' a R ∧ R.length ≤ cap ∧ Below w.heap.size w w'
theorem fold_snoc {es : List Ed} {x : Ed} {S : List Int} {i : Nat} (hx : es[i]? = some x) : (es.take (i + 1)).foldl stp S = stp ((es.take i).foldl stp S) x := by
  rw [List.take_add_one, hx, List.foldl_append]
  rfl
theorem ok_part (es : List Ed) (f : Int) (k i : Nat) : Ok es f ((es.take i).foldl stp (rch es f k)) := (ok_rch es f k).fold fun _ h => List.mem_of_mem_take h
theorem ok_len {es : List Ed} {f : Int} {S : List Int} (h : Ok es f S) : S.length ≤ 2 * es.length + 1 := con_len (rise_nodup h.rise) h.con

theorem own_base {w : World} {b b' e size n : Nat} {v : Value} {xs : List Value} (h : w.ownsRow b e size v n xs) (hb : b' ≤ b) : w.ownsRow b' e size v n xs := by
  refine ⟨h.1, ?_⟩
  rcases h.2 with hn | ⟨g, cap, cur, rfl, hb', rest⟩
  · exact .inl hn
  · exact .inr ⟨g, cap, cur, rfl, Nat.le_trans hb hb', rest⟩
theorem stp_tt {S : List Int} {x : Ed} (h1 : x.1 ∈ S) (h2 : x.2 ∈ S) : stp S x = S := by unfold stp; rw [if_pos h1, if_pos h2]
theorem stp_tf {S : List Int} {x : Ed} (h1 : x.1 ∈ S) (h2 : x.2 ∉ S) : stp S x = insI x.2 S := by unfold stp; rw [if_pos h1, if_neg h2]
theorem stp_ft {S : List Int} {x : Ed} (h1 : x.1 ∉ S) (h2 : x.2 ∈ S) : stp S x = insI x.1 S := by unfold stp; rw [if_neg h1, if_pos h2]
theorem stp_ff {S : List Int} {x : Ed} (h1 : x.1 ∉ S) (h2 : x.2 ∉ S) : stp S x = S := by unfold stp; rw [if_neg h1, if_neg h2]

set_option maxRecDepth 100000 in
set_option maxHeartbeats 3200000 in
theorem reachRef {w : World} {a : Option Addr} {es : List Ed} {cap : Nat} (f : Int) (hrd : EdsAt w a es) (hl : es.length ≤ 1048576) :
    Calls Try.prog 22 #[.int .i64 f, .slice a es.length cap] w fun e w' => ReachR w w' es f e := by
  go_enter Try.func22, Try.ntmps22
  go_wp2
  have o0 := World.ownsRow_lit (base := w.heap.size) (e := 3) (size := 1) w #[.int .i64 f] 1 (Nat.le_refl _) (by unfold maxLen; omega) rfl
  go_loopw [5, 6] (fun v k wr => ∃ n : Nat, n ≤ es.length + 1 ∧ k = .int .i64 n ∧ wr.ownsRow w.heap.size 3 1 v (rch es f n).length ((rch es f n).map (Value.int .i64)) ∧ Below w.heap.size w wr) (fun _ k _ => es.length + 2 - (intOf k).toNat)
  case atStart => exact ⟨0, by omega, rfl, o0, (Below.refl _ _).alloc (Nat.le_refl _) _⟩
  case round =>
    clear o0
    rename World => wo
    obtain ⟨n, hn, rfl, own, bw⟩ := hrel
    by_cases cn : n ≤ es.length
    · go_wp2
      go_loopw [5, 7] (fun v k wr => ∃ i : Nat, i ≤ es.length ∧ k = .int .i64 i ∧ wr.ownsRow w.heap.size 3 1 v ((es.take i).foldl stp (rch es f n)).length (((es.take i).foldl stp (rch es f n)).map (Value.int .i64)) ∧ Below w.heap.size w wr) (fun _ k _ => es.length - (intOf k).toNat)
      case atStart => exact ⟨0, Nat.zero_le _, rfl, own, bw⟩
      case round =>
        clear own bw
        rename World => wi
        obtain ⟨i, hi, rfl, own, bw⟩ := hrel
        by_cases ci : i < es.length
        · rcases hrd with h4 | ⟨g, off, rfl, q3, q4⟩
          · rw [h4] at ci; simp at ci
          obtain ⟨x, hx⟩ : ∃ x, es[i]? = some x := ⟨es[i], List.getElem?_eq_getElem ci⟩
          obtain ⟨x0, x1⟩ := q4.atE hx
          have y0 := (bw.cell (p := ⟨g, off + i * 2, none⟩) q3).trans x0
          have y1 := (bw.cell (p := ⟨g, off + i * 2 + 1, none⟩) q3).trans x1
          have hst := fold_snoc (S := rch es f n) hx
          have hlen := ok_len (ok_part es f n i)
          generalize (es.take i).foldl stp (rch es f n) = S at own hst hlen
          obtain ⟨aS, cS, rfl, _, hS⟩ := own_lsI own
          have C1 := hid (inRef (cap := cS) x.1 hS (by omega))
          have C2 := hid (inRef (cap := cS) x.2 hS (by omega))
          have CW := hid fun m => withRef (cap := cS) m hS (by omega)
          clear x0 x1 hx q4 hS
          by_cases h1 : x.1 ∈ S <;> by_cases h2 : x.2 ∈ S
          · rw [decide_eq_true h1] at C1
            rw [decide_eq_true h2] at C2
            have E := hid (hst.trans (stp_tt h1 h2))
            clear hst
            go_wp2_with fail
            refine (C1.out).mono ?_
            rintro e w2 ⟨rfl, rfl⟩
            go_wp2_with fail
            refine (C2.out).mono ?_
            rintro e w3 ⟨rfl, rfl⟩
            clear C1 C2 CW
            go_wp2
            go_roundw
            case rel => exact ⟨i + 1, ci, by go_num, by rw [E.out]; exact own, bw⟩
            case measure => simp [intOf]; omega
          · rw [decide_eq_true h1] at C1
            rw [decide_eq_false h2] at C2
            have E := hid (hst.trans (stp_tf h1 h2))
            clear hst
            go_wp2_with fail
            refine (C1.out).mono ?_
            rintro e w2 ⟨rfl, rfl⟩
            go_wp2_with fail
            refine (C2.out).mono ?_
            rintro e w3 ⟨rfl, rfl⟩
            have C3 := hid (CW.out x.2)
            clear C1 C2 CW
            go_wp2_with fail
            refine C3.out.mono ?_
            rintro e w4 ⟨v4, rfl, o4, b4⟩
            have o4' := hid (own_base o4 bw.size)
            have b4' := bw.trans (b4.mono bw.size)
            clear C3 o4 b4
            go_wp2
            go_roundw
            case rel => exact ⟨i + 1, ci, by go_num, by rw [E.out]; exact o4'.out, b4'⟩
            case measure => simp [intOf]; omega
          · rw [decide_eq_false h1] at C1
            rw [decide_eq_true h2] at C2
            have E := hid (hst.trans (stp_ft h1 h2))
            clear hst
            go_wp2_with fail
            refine (C1.out).mono ?_
            rintro e w2 ⟨rfl, rfl⟩
            go_wp2_with fail
            refine (C2.out).mono ?_
            rintro e w3 ⟨rfl, rfl⟩
            have C3 := hid (CW.out x.1)
            clear C1 C2 CW
            go_wp2_with fail
            refine C3.out.mono ?_
            rintro e w4 ⟨v4, rfl, o4, b4⟩
            have o4' := hid (own_base o4 bw.size)
            have b4' := bw.trans (b4.mono bw.size)
            clear C3 o4 b4
            go_wp2
            go_roundw
            case rel => exact ⟨i + 1, ci, by go_num, by rw [E.out]; exact o4'.out, b4'⟩
            case measure => simp [intOf]; omega
          · rw [decide_eq_false h1] at C1
            rw [decide_eq_false h2] at C2
            have E := hid (hst.trans (stp_ff h1 h2))
            clear hst
            go_wp2_with fail
            refine (C1.out).mono ?_
            rintro e w2 ⟨rfl, rfl⟩
            go_wp2_with fail
            refine (C2.out).mono ?_
            rintro e w3 ⟨rfl, rfl⟩
            clear C1 C2 CW
            go_wp2
            go_roundw
            case rel => exact ⟨i + 1, ci, by go_num, by rw [E.out]; exact own, bw⟩
            case measure => simp [intOf]; omega
        · have ht : es.take i = es := List.take_of_length_le (by omega)
          rw [ht] at own
          have own' : Hid (wi.ownsRow w.heap.size 3 1 u5 (rch es f (n + 1)).length ((rch es f (n + 1)).map (Value.int .i64))) := own
          clear own ht
          go_wp2
          go_roundw
          case rel => exact ⟨n + 1, by omega, by go_num, own'.out, bw⟩
          case measure => simp [intOf]; omega
    · have hn' : n = es.length + 1 := by omega
      subst hn'
      have hR := hid (rch_is es f)
      generalize rch es f (es.length + 1) = R at own hR
      obtain ⟨aS, cS, rfl, hc, hS⟩ := own_lsI own
      have hS' := hid hS
      clear own hS
      go_wp2
      go_ret
      unfold ReachR
      exact ⟨R, aS, cS, hR.out, rfl, hS'.out, hc, bw⟩

end Go.Proofs.Ytpbbamoeaalolaa.Wg
