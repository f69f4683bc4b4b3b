/-
  No cell of these rows narrows 'for every input' (looked for: loops, veiled, ifaces, maps, wideKeys, modest, calm, conditions, laid).
  DERIVED. THE GIVEN ROWS OF THIS SEAT. 6 by the template 'for every input the law returns true; each argument reads behind the call as it read before'; 0 by the template 'total and deterministic' (their statements: YtfmgpglgppihoaaTotals.lean).
  GIVEN WITH THE SEED: the statements are not yours to turn. If you find one false, say at which input.
  Laid BY PROGRAM, IN A SANDBOX (cutbox-rows.mjs): the forced cells as the released guide's own fill.sh prints them over the translation fd6f770f02d47a95… (all of the seat's roots in one cut). By AI agents, Wed Nov 11 2026. No macro, syntax, notation, axiom, sorry.
-/
import Derived.Test.YtfmgpglgppihoaaChecked
import GoSem.Claim
import GoSem.ClaimJoined
import GoSem.ClaimMapViews
import Derived.JoinedTies
import Derived.KernelRfl
namespace Go.Proofs.Ytfmgpglgppihoaa
/- THE CELL 'sum', in the pinned program and in every row, IS THE sha256 OF THE DUMP (.gsa) THAT YtfmgpglgppihoaaProg.lean LOADS. Nothing in Lean hashes anything: it is a label: what it is worth is what the hold of that sum in a sandbox is worth. -/
noncomputable def Try.pinned : Pinned := { name := "ytfmgpglgppihoaa", sum := "fd6f770f02d47a95f2a1d0208c0dbc2e3e1085bef32444c6b16de40ebdfbf5cf", checked := Try.checked }
namespace Rows
def none {H : Type} : Left H := { results := [], args := [] }

/-- 'precinctlaw07.AreaMakes': WHATEVER THE INPUT: true; the input reads as it did. -/
def areaMakesSpec : ChangeSpec := { name := "areaMakes", fn := fun _ => fun
  | [d] => { results := [.lit (.bool true)], args := [d] }
  | _ => none }
def areaMakesRow : OpenClaim := { program := "ytfmgpglgppihoaa", sum := "fd6f770f02d47a95f2a1d0208c0dbc2e3e1085bef32444c6b16de40ebdfbf5cf", func := "precinct/precinctlaw07.AreaMakes", spec := "areaMakes", apart := false }
def AreaMakesSaid : Prop := areaMakesRow.holds Try.pinned (OpenSpec.ofChange areaMakesSpec)

/-- ITS FALSE NEIGHBOUR: 'it returns false'. Refute it at one input. -/
def areaMakesWrong : ChangeSpec := { name := "areaMakes", fn := fun _ => fun
  | [d] => { results := [.lit (.bool false)], args := [d] }
  | _ => none }
def AreaMakesWrongFalsely : Prop := areaMakesRow.holds Try.pinned (OpenSpec.ofChange areaMakesWrong)

/-- 'precinctlaw07.AreaParses': WHATEVER THE INPUT: true; the input reads as it did. -/
def areaParsesSpec : ChangeSpec := { name := "areaParses", fn := fun _ => fun
  | [d] => { results := [.lit (.bool true)], args := [d] }
  | _ => none }
def areaParsesRow : OpenClaim := { program := "ytfmgpglgppihoaa", sum := "fd6f770f02d47a95f2a1d0208c0dbc2e3e1085bef32444c6b16de40ebdfbf5cf", func := "precinct/precinctlaw07.AreaParses", spec := "areaParses", apart := false }
def AreaParsesSaid : Prop := areaParsesRow.holds Try.pinned (OpenSpec.ofChange areaParsesSpec)

/-- ITS FALSE NEIGHBOUR: 'it returns false'. Refute it at one input. -/
def areaParsesWrong : ChangeSpec := { name := "areaParses", fn := fun _ => fun
  | [d] => { results := [.lit (.bool false)], args := [d] }
  | _ => none }
def AreaParsesWrongFalsely : Prop := areaParsesRow.holds Try.pinned (OpenSpec.ofChange areaParsesWrong)

/-- 'precinctlaw07.AreaSplits': WHATEVER THE INPUT: true; the input reads as it did. -/
def areaSplitsSpec : ChangeSpec := { name := "areaSplits", fn := fun _ => fun
  | [d1, d2, d3] => { results := [.lit (.bool true)], args := [d1, d2, d3] }
  | _ => none }
def areaSplitsRow : OpenClaim := { program := "ytfmgpglgppihoaa", sum := "fd6f770f02d47a95f2a1d0208c0dbc2e3e1085bef32444c6b16de40ebdfbf5cf", func := "precinct/precinctlaw07.AreaSplits", spec := "areaSplits", apart := false }
def AreaSplitsSaid : Prop := areaSplitsRow.holds Try.pinned (OpenSpec.ofChange areaSplitsSpec)

/-- ITS FALSE NEIGHBOUR: 'it returns false'. Refute it at one input. -/
def areaSplitsWrong : ChangeSpec := { name := "areaSplits", fn := fun _ => fun
  | [d1, d2, d3] => { results := [.lit (.bool false)], args := [d1, d2, d3] }
  | _ => none }
def AreaSplitsWrongFalsely : Prop := areaSplitsRow.holds Try.pinned (OpenSpec.ofChange areaSplitsWrong)

/-- 'precinctlaw07.AreaJoins': WHATEVER THE INPUT: true; the input reads as it did. -/
def areaJoinsSpec : ChangeSpec := { name := "areaJoins", fn := fun _ => fun
  | [d1, d2] => { results := [.lit (.bool true)], args := [d1, d2] }
  | _ => none }
def areaJoinsRow : OpenClaim := { program := "ytfmgpglgppihoaa", sum := "fd6f770f02d47a95f2a1d0208c0dbc2e3e1085bef32444c6b16de40ebdfbf5cf", func := "precinct/precinctlaw07.AreaJoins", spec := "areaJoins", inPlace := ["internal/abi.NoEscape"], apart := false }
def AreaJoinsSaid : Prop := areaJoinsRow.holds Try.pinned (OpenSpec.ofChange areaJoinsSpec)

/-- ITS FALSE NEIGHBOUR: 'it returns false'. Refute it at one input. -/
def areaJoinsWrong : ChangeSpec := { name := "areaJoins", fn := fun _ => fun
  | [d1, d2] => { results := [.lit (.bool false)], args := [d1, d2] }
  | _ => none }
def AreaJoinsWrongFalsely : Prop := areaJoinsRow.holds Try.pinned (OpenSpec.ofChange areaJoinsWrong)

/-- 'precinctlaw07.AreaBack': WHATEVER THE INPUT: true; the input reads as it did. -/
def areaBackSpec : ChangeSpec := { name := "areaBack", fn := fun _ => fun
  | [d1, d2, d3] => { results := [.lit (.bool true)], args := [d1, d2, d3] }
  | _ => none }
def areaBackRow : OpenClaim := { program := "ytfmgpglgppihoaa", sum := "fd6f770f02d47a95f2a1d0208c0dbc2e3e1085bef32444c6b16de40ebdfbf5cf", func := "precinct/precinctlaw07.AreaBack", spec := "areaBack", inPlace := ["internal/abi.NoEscape"], apart := false }
def AreaBackSaid : Prop := areaBackRow.holds Try.pinned (OpenSpec.ofChange areaBackSpec)

/-- ITS FALSE NEIGHBOUR: 'it returns false'. Refute it at one input. -/
def areaBackWrong : ChangeSpec := { name := "areaBack", fn := fun _ => fun
  | [d1, d2, d3] => { results := [.lit (.bool false)], args := [d1, d2, d3] }
  | _ => none }
def AreaBackWrongFalsely : Prop := areaBackRow.holds Try.pinned (OpenSpec.ofChange areaBackWrong)

/-- 'precinctlaw07.AreaLost': WHATEVER THE INPUT: true; the input reads as it did. -/
def areaLostSpec : ChangeSpec := { name := "areaLost", fn := fun _ => fun
  | [d1, d2, d3] => { results := [.lit (.bool true)], args := [d1, d2, d3] }
  | _ => none }
def areaLostRow : OpenClaim := { program := "ytfmgpglgppihoaa", sum := "fd6f770f02d47a95f2a1d0208c0dbc2e3e1085bef32444c6b16de40ebdfbf5cf", func := "precinct/precinctlaw07.AreaLost", spec := "areaLost", inPlace := ["internal/abi.NoEscape"], apart := false }
def AreaLostSaid : Prop := areaLostRow.holds Try.pinned (OpenSpec.ofChange areaLostSpec)

/-- ITS FALSE NEIGHBOUR: 'it returns false'. Refute it at one input. -/
def areaLostWrong : ChangeSpec := { name := "areaLost", fn := fun _ => fun
  | [d1, d2, d3] => { results := [.lit (.bool false)], args := [d1, d2, d3] }
  | _ => none }
def AreaLostWrongFalsely : Prop := areaLostRow.holds Try.pinned (OpenSpec.ofChange areaLostWrong)

/- THE SECOND FORM. 'bulk': how many values and letters a reading holds, each counted each time it is reached (what is shared counts as often as it is met; a slice's spare places count too). A statement '..UptoSaid' is the law's where the arguments, and the package variables that the reading takes, are together of bulk at most 1048576: NARROWER than '..Said'. Prove '..Said' where nothing that the law and all that it calls make is longer than what came in: it says more and counts as full. Else prove '..UptoSaid'. A law counts once. -/
mutual
def uptoBulk {H : Type} : DataW H → Nat
  | .lit (.string bytes) => bytes.length + 1
  | .lit _ => 1
  | .nil => 1
  | .ptr d => uptoBulk d + 1
  | .slice elems spare => uptoBulkAll elems + uptoBulkAll spare + 1
  | .agg parts => uptoBulkAll parts + 1
  | .iface _ d => uptoBulk d + 1
  | .map entries => uptoBulkEntries entries + 1
  | .held _ => 1
def uptoBulkAll {H : Type} : List (DataW H) → Nat
  | [] => 0
  | d :: r => uptoBulk d + uptoBulkAll r
def uptoBulkEntries {H : Type} : List (Lit × DataW H) → Nat
  | [] => 0
  | x :: r => uptoBulkEntry x + uptoBulkEntries r
def uptoBulkEntry {H : Type} : Lit × DataW H → Nat
  | (.string bytes, d) => bytes.length + uptoBulk d + 1
  | (_, d) => uptoBulk d + 1
 end
def uptoSmall : (H : Type) → List (DataW H) → Bool := fun _ ds => decide (uptoBulkAll ds ≤ 1048576)
def OpenSpec.upto (s : _root_.Go.ChangeSpec) : _root_.Go.OpenSpec := { _root_.Go.OpenSpec.ofChange s with cond := some uptoSmall }

/-- 'precinctlaw07.AreaMakes', WHERE WHAT IT READS IS OF BULK AT MOST 1048576: true; the input reads as it did. -/
def areaMakesUptoRow : OpenClaim := { program := "ytfmgpglgppihoaa", sum := "fd6f770f02d47a95f2a1d0208c0dbc2e3e1085bef32444c6b16de40ebdfbf5cf", func := "precinct/precinctlaw07.AreaMakes", spec := "areaMakes", apart := false, narrowed := true }
def AreaMakesUptoSaid : Prop := areaMakesUptoRow.holds Try.pinned (OpenSpec.upto areaMakesSpec)

/-- 'precinctlaw07.AreaParses', WHERE WHAT IT READS IS OF BULK AT MOST 1048576: true; the input reads as it did. -/
def areaParsesUptoRow : OpenClaim := { program := "ytfmgpglgppihoaa", sum := "fd6f770f02d47a95f2a1d0208c0dbc2e3e1085bef32444c6b16de40ebdfbf5cf", func := "precinct/precinctlaw07.AreaParses", spec := "areaParses", apart := false, narrowed := true }
def AreaParsesUptoSaid : Prop := areaParsesUptoRow.holds Try.pinned (OpenSpec.upto areaParsesSpec)

/-- 'precinctlaw07.AreaSplits', WHERE WHAT IT READS IS OF BULK AT MOST 1048576: true; the input reads as it did. -/
def areaSplitsUptoRow : OpenClaim := { program := "ytfmgpglgppihoaa", sum := "fd6f770f02d47a95f2a1d0208c0dbc2e3e1085bef32444c6b16de40ebdfbf5cf", func := "precinct/precinctlaw07.AreaSplits", spec := "areaSplits", apart := false, narrowed := true }
def AreaSplitsUptoSaid : Prop := areaSplitsUptoRow.holds Try.pinned (OpenSpec.upto areaSplitsSpec)

/-- 'precinctlaw07.AreaJoins', WHERE WHAT IT READS IS OF BULK AT MOST 1048576: true; the input reads as it did. -/
def areaJoinsUptoRow : OpenClaim := { program := "ytfmgpglgppihoaa", sum := "fd6f770f02d47a95f2a1d0208c0dbc2e3e1085bef32444c6b16de40ebdfbf5cf", func := "precinct/precinctlaw07.AreaJoins", spec := "areaJoins", inPlace := ["internal/abi.NoEscape"], apart := false, narrowed := true }
def AreaJoinsUptoSaid : Prop := areaJoinsUptoRow.holds Try.pinned (OpenSpec.upto areaJoinsSpec)

/-- 'precinctlaw07.AreaBack', WHERE WHAT IT READS IS OF BULK AT MOST 1048576: true; the input reads as it did. -/
def areaBackUptoRow : OpenClaim := { program := "ytfmgpglgppihoaa", sum := "fd6f770f02d47a95f2a1d0208c0dbc2e3e1085bef32444c6b16de40ebdfbf5cf", func := "precinct/precinctlaw07.AreaBack", spec := "areaBack", inPlace := ["internal/abi.NoEscape"], apart := false, narrowed := true }
def AreaBackUptoSaid : Prop := areaBackUptoRow.holds Try.pinned (OpenSpec.upto areaBackSpec)

/-- 'precinctlaw07.AreaLost', WHERE WHAT IT READS IS OF BULK AT MOST 1048576: true; the input reads as it did. -/
def areaLostUptoRow : OpenClaim := { program := "ytfmgpglgppihoaa", sum := "fd6f770f02d47a95f2a1d0208c0dbc2e3e1085bef32444c6b16de40ebdfbf5cf", func := "precinct/precinctlaw07.AreaLost", spec := "areaLost", inPlace := ["internal/abi.NoEscape"], apart := false, narrowed := true }
def AreaLostUptoSaid : Prop := areaLostUptoRow.holds Try.pinned (OpenSpec.upto areaLostSpec)

end Rows
end Go.Proofs.Ytfmgpglgppihoaa
