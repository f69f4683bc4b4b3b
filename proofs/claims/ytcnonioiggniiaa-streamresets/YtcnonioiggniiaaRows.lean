/-
  No cell of these rows narrows 'for every input' (looked for: loops, veiled, ifaces, maps, wideKeys, modest, calm, conditions, laid).
  DERIVED. THE GIVEN ROWS OF THIS SEAT. 7 by the template 'for every input the law returns true; each argument reads behind the call as it read before'; 0 by the template 'total and deterministic' (their statements: YtcnonioiggniiaaTotals.lean).
  GIVEN WITH THE SEED: the statements are not yours to turn. If you find one false, say at which input.
  Laid BY PROGRAM, IN A SANDBOX (cutbox-rows.mjs): the forced cells as the released guide's own fill.sh prints them over the translation 65dab52bb1de1ab3… (all of the seat's roots in one cut). By AI agents, Wed Nov 11 2026. No macro, syntax, notation, axiom, sorry.
-/
import Derived.Test.YtcnonioiggniiaaChecked
import GoSem.Claim
import GoSem.ClaimJoined
import GoSem.ClaimMapViews
import Derived.JoinedTies
import Derived.KernelRfl
namespace Go.Proofs.Ytcnonioiggniiaa
/- THE CELL 'sum', in the pinned program and in every row, IS THE sha256 OF THE DUMP (.gsa) THAT YtcnonioiggniiaaProg.lean LOADS. Nothing in Lean hashes anything: it is a label: what it is worth is what the hold of that sum in a sandbox is worth. -/
noncomputable def Try.pinned : Pinned := { name := "ytcnonioiggniiaa", sum := "65dab52bb1de1ab3edea0861159545b1405188bd97a5ff5bceb0b637c3260a5a", checked := Try.checked }
namespace Rows
def none {H : Type} : Left H := { results := [], args := [] }

/-- 'precinctlaw08.StreamCapacity': WHATEVER THE INPUT: true; the input reads as it did. -/
def streamCapacitySpec : ChangeSpec := { name := "streamCapacity", fn := fun _ => fun
  | [d] => { results := [.lit (.bool true)], args := [d] }
  | _ => none }
def streamCapacityRow : OpenClaim := { program := "ytcnonioiggniiaa", sum := "65dab52bb1de1ab3edea0861159545b1405188bd97a5ff5bceb0b637c3260a5a", func := "precinct/precinctlaw08.StreamCapacity", spec := "streamCapacity", apart := false }
def StreamCapacitySaid : Prop := streamCapacityRow.holds Try.pinned (OpenSpec.ofChange streamCapacitySpec)

/-- ITS FALSE NEIGHBOUR: 'it returns false'. Refute it at one input. -/
def streamCapacityWrong : ChangeSpec := { name := "streamCapacity", fn := fun _ => fun
  | [d] => { results := [.lit (.bool false)], args := [d] }
  | _ => none }
def StreamCapacityWrongFalsely : Prop := streamCapacityRow.holds Try.pinned (OpenSpec.ofChange streamCapacityWrong)

/-- 'precinctlaw08.StreamLasts': WHATEVER THE INPUT: true; the input reads as it did. -/
def streamLastsSpec : ChangeSpec := { name := "streamLasts", fn := fun _ => fun
  | [d1, d2, d3] => { results := [.lit (.bool true)], args := [d1, d2, d3] }
  | _ => none }
def streamLastsRow : OpenClaim := { program := "ytcnonioiggniiaa", sum := "65dab52bb1de1ab3edea0861159545b1405188bd97a5ff5bceb0b637c3260a5a", func := "precinct/precinctlaw08.StreamLasts", spec := "streamLasts", inPlace := ["internal/abi.NoEscape", "internal/bytealg.MakeNoZero"], unfollowed := true, recurses := true, apart := false }
def StreamLastsSaid : Prop := streamLastsRow.holds Try.pinned (OpenSpec.ofChange streamLastsSpec)

/-- ITS FALSE NEIGHBOUR: 'it returns false'. Refute it at one input. -/
def streamLastsWrong : ChangeSpec := { name := "streamLasts", fn := fun _ => fun
  | [d1, d2, d3] => { results := [.lit (.bool false)], args := [d1, d2, d3] }
  | _ => none }
def StreamLastsWrongFalsely : Prop := streamLastsRow.holds Try.pinned (OpenSpec.ofChange streamLastsWrong)

/-- 'precinctlaw08.StreamResets': WHATEVER THE INPUT: true; the input reads as it did. -/
def streamResetsSpec : ChangeSpec := { name := "streamResets", fn := fun _ => fun
  | [d1, d2, d3] => { results := [.lit (.bool true)], args := [d1, d2, d3] }
  | _ => none }
def streamResetsRow : OpenClaim := { program := "ytcnonioiggniiaa", sum := "65dab52bb1de1ab3edea0861159545b1405188bd97a5ff5bceb0b637c3260a5a", func := "precinct/precinctlaw08.StreamResets", spec := "streamResets", inPlace := ["internal/abi.NoEscape", "internal/bytealg.MakeNoZero"], unfollowed := true, recurses := true, apart := false }
def StreamResetsSaid : Prop := streamResetsRow.holds Try.pinned (OpenSpec.ofChange streamResetsSpec)

/-- ITS FALSE NEIGHBOUR: 'it returns false'. Refute it at one input. -/
def streamResetsWrong : ChangeSpec := { name := "streamResets", fn := fun _ => fun
  | [d1, d2, d3] => { results := [.lit (.bool false)], args := [d1, d2, d3] }
  | _ => none }
def StreamResetsWrongFalsely : Prop := streamResetsRow.holds Try.pinned (OpenSpec.ofChange streamResetsWrong)

/-- 'precinctlaw08.StreamAny': WHATEVER THE INPUT: true; the input reads as it did. -/
def streamAnySpec : ChangeSpec := { name := "streamAny", fn := fun _ => fun
  | [d1, d2, d3] => { results := [.lit (.bool true)], args := [d1, d2, d3] }
  | _ => none }
def streamAnyRow : OpenClaim := { program := "ytcnonioiggniiaa", sum := "65dab52bb1de1ab3edea0861159545b1405188bd97a5ff5bceb0b637c3260a5a", func := "precinct/precinctlaw08.StreamAny", spec := "streamAny", inPlace := ["internal/abi.NoEscape", "internal/bytealg.MakeNoZero"], unfollowed := true, recurses := true, apart := false }
def StreamAnySaid : Prop := streamAnyRow.holds Try.pinned (OpenSpec.ofChange streamAnySpec)

/-- ITS FALSE NEIGHBOUR: 'it returns false'. Refute it at one input. -/
def streamAnyWrong : ChangeSpec := { name := "streamAny", fn := fun _ => fun
  | [d1, d2, d3] => { results := [.lit (.bool false)], args := [d1, d2, d3] }
  | _ => none }
def StreamAnyWrongFalsely : Prop := streamAnyRow.holds Try.pinned (OpenSpec.ofChange streamAnyWrong)

/-- 'precinctlaw08.StreamNil': WHATEVER THE INPUT: true; the input reads as it did. -/
def streamNilSpec : ChangeSpec := { name := "streamNil", fn := fun _ => fun
  | [d1, d2] => { results := [.lit (.bool true)], args := [d1, d2] }
  | _ => none }
def streamNilRow : OpenClaim := { program := "ytcnonioiggniiaa", sum := "65dab52bb1de1ab3edea0861159545b1405188bd97a5ff5bceb0b637c3260a5a", func := "precinct/precinctlaw08.StreamNil", spec := "streamNil", inPlace := ["internal/abi.NoEscape", "internal/bytealg.MakeNoZero"], unfollowed := true, recurses := true, apart := false }
def StreamNilSaid : Prop := streamNilRow.holds Try.pinned (OpenSpec.ofChange streamNilSpec)

/-- ITS FALSE NEIGHBOUR: 'it returns false'. Refute it at one input. -/
def streamNilWrong : ChangeSpec := { name := "streamNil", fn := fun _ => fun
  | [d1, d2] => { results := [.lit (.bool false)], args := [d1, d2] }
  | _ => none }
def StreamNilWrongFalsely : Prop := streamNilRow.holds Try.pinned (OpenSpec.ofChange streamNilWrong)

/-- 'precinctlaw08.StreamRooms': WHATEVER THE INPUT: true; the input reads as it did. -/
def streamRoomsSpec : ChangeSpec := { name := "streamRooms", fn := fun _ => fun
  | [d1, d2] => { results := [.lit (.bool true)], args := [d1, d2] }
  | _ => none }
def streamRoomsRow : OpenClaim := { program := "ytcnonioiggniiaa", sum := "65dab52bb1de1ab3edea0861159545b1405188bd97a5ff5bceb0b637c3260a5a", func := "precinct/precinctlaw08.StreamRooms", spec := "streamRooms", inPlace := ["internal/abi.NoEscape", "internal/bytealg.MakeNoZero"], unfollowed := true, recurses := true, apart := false }
def StreamRoomsSaid : Prop := streamRoomsRow.holds Try.pinned (OpenSpec.ofChange streamRoomsSpec)

/-- ITS FALSE NEIGHBOUR: 'it returns false'. Refute it at one input. -/
def streamRoomsWrong : ChangeSpec := { name := "streamRooms", fn := fun _ => fun
  | [d1, d2] => { results := [.lit (.bool false)], args := [d1, d2] }
  | _ => none }
def StreamRoomsWrongFalsely : Prop := streamRoomsRow.holds Try.pinned (OpenSpec.ofChange streamRoomsWrong)

/-- 'precincttop.TopStreams': WHATEVER THE INPUT: true; the input reads as it did. -/
def topStreamsSpec : ChangeSpec := { name := "topStreams", fn := fun _ => fun
  | [d1, d2] => { results := [.lit (.bool true)], args := [d1, d2] }
  | _ => none }
def topStreamsRow : OpenClaim := { program := "ytcnonioiggniiaa", sum := "65dab52bb1de1ab3edea0861159545b1405188bd97a5ff5bceb0b637c3260a5a", func := "precinct/precincttop.TopStreams", spec := "topStreams", inPlace := ["internal/abi.NoEscape", "internal/bytealg.MakeNoZero"], unfollowed := true, recurses := true, apart := false }
def TopStreamsSaid : Prop := topStreamsRow.holds Try.pinned (OpenSpec.ofChange topStreamsSpec)

/-- ITS FALSE NEIGHBOUR: 'it returns false'. Refute it at one input. -/
def topStreamsWrong : ChangeSpec := { name := "topStreams", fn := fun _ => fun
  | [d1, d2] => { results := [.lit (.bool false)], args := [d1, d2] }
  | _ => none }
def TopStreamsWrongFalsely : Prop := topStreamsRow.holds Try.pinned (OpenSpec.ofChange topStreamsWrong)

/- THE SECOND FORM. 'bulk': how many values and letters a reading holds, each counted each time it is reached (what is shared counts as often as it is met; a slice's spare places count too). A statement '..UptoSaid' is the law's where the arguments, and the package variables that the reading takes, are together of bulk at most 1048576: NARROWER than '..Said'. Prove '..Said' where nothing that the law and all that it calls make is longer than what came in: it says more and counts as full. Else prove '..UptoSaid'. A law counts once. -/
mutual
def uptoBulk {H : Type} : DataW H → Nat
  | .lit (.string bytes) => bytes.length + 1
  | .lit _ => 1
  | .nil => 1
  | .ptr d => uptoBulk d + 1
  | .slice elems spare => uptoBulkAll elems + uptoBulkAll spare + 1
  | .agg parts => uptoBulkAll parts + 1
  | .iface _ d => uptoBulk d + 1
  | .map entries => uptoBulkEntries entries + 1
  | .held _ => 1
def uptoBulkAll {H : Type} : List (DataW H) → Nat
  | [] => 0
  | d :: r => uptoBulk d + uptoBulkAll r
def uptoBulkEntries {H : Type} : List (Lit × DataW H) → Nat
  | [] => 0
  | x :: r => uptoBulkEntry x + uptoBulkEntries r
def uptoBulkEntry {H : Type} : Lit × DataW H → Nat
  | (.string bytes, d) => bytes.length + uptoBulk d + 1
  | (_, d) => uptoBulk d + 1
 end
def uptoSmall : (H : Type) → List (DataW H) → Bool := fun _ ds => decide (uptoBulkAll ds ≤ 1048576)
def OpenSpec.upto (s : _root_.Go.ChangeSpec) : _root_.Go.OpenSpec := { _root_.Go.OpenSpec.ofChange s with cond := some uptoSmall }

/-- 'precinctlaw08.StreamCapacity', WHERE WHAT IT READS IS OF BULK AT MOST 1048576: true; the input reads as it did. -/
def streamCapacityUptoRow : OpenClaim := { program := "ytcnonioiggniiaa", sum := "65dab52bb1de1ab3edea0861159545b1405188bd97a5ff5bceb0b637c3260a5a", func := "precinct/precinctlaw08.StreamCapacity", spec := "streamCapacity", apart := false, narrowed := true }
def StreamCapacityUptoSaid : Prop := streamCapacityUptoRow.holds Try.pinned (OpenSpec.upto streamCapacitySpec)

/-- 'precinctlaw08.StreamLasts', WHERE WHAT IT READS IS OF BULK AT MOST 1048576: true; the input reads as it did. -/
def streamLastsUptoRow : OpenClaim := { program := "ytcnonioiggniiaa", sum := "65dab52bb1de1ab3edea0861159545b1405188bd97a5ff5bceb0b637c3260a5a", func := "precinct/precinctlaw08.StreamLasts", spec := "streamLasts", inPlace := ["internal/abi.NoEscape", "internal/bytealg.MakeNoZero"], unfollowed := true, recurses := true, apart := false, narrowed := true }
def StreamLastsUptoSaid : Prop := streamLastsUptoRow.holds Try.pinned (OpenSpec.upto streamLastsSpec)

/-- 'precinctlaw08.StreamResets', WHERE WHAT IT READS IS OF BULK AT MOST 1048576: true; the input reads as it did. -/
def streamResetsUptoRow : OpenClaim := { program := "ytcnonioiggniiaa", sum := "65dab52bb1de1ab3edea0861159545b1405188bd97a5ff5bceb0b637c3260a5a", func := "precinct/precinctlaw08.StreamResets", spec := "streamResets", inPlace := ["internal/abi.NoEscape", "internal/bytealg.MakeNoZero"], unfollowed := true, recurses := true, apart := false, narrowed := true }
def StreamResetsUptoSaid : Prop := streamResetsUptoRow.holds Try.pinned (OpenSpec.upto streamResetsSpec)

/-- 'precinctlaw08.StreamAny', WHERE WHAT IT READS IS OF BULK AT MOST 1048576: true; the input reads as it did. -/
def streamAnyUptoRow : OpenClaim := { program := "ytcnonioiggniiaa", sum := "65dab52bb1de1ab3edea0861159545b1405188bd97a5ff5bceb0b637c3260a5a", func := "precinct/precinctlaw08.StreamAny", spec := "streamAny", inPlace := ["internal/abi.NoEscape", "internal/bytealg.MakeNoZero"], unfollowed := true, recurses := true, apart := false, narrowed := true }
def StreamAnyUptoSaid : Prop := streamAnyUptoRow.holds Try.pinned (OpenSpec.upto streamAnySpec)

/-- 'precinctlaw08.StreamNil', WHERE WHAT IT READS IS OF BULK AT MOST 1048576: true; the input reads as it did. -/
def streamNilUptoRow : OpenClaim := { program := "ytcnonioiggniiaa", sum := "65dab52bb1de1ab3edea0861159545b1405188bd97a5ff5bceb0b637c3260a5a", func := "precinct/precinctlaw08.StreamNil", spec := "streamNil", inPlace := ["internal/abi.NoEscape", "internal/bytealg.MakeNoZero"], unfollowed := true, recurses := true, apart := false, narrowed := true }
def StreamNilUptoSaid : Prop := streamNilUptoRow.holds Try.pinned (OpenSpec.upto streamNilSpec)

/-- 'precinctlaw08.StreamRooms', WHERE WHAT IT READS IS OF BULK AT MOST 1048576: true; the input reads as it did. -/
def streamRoomsUptoRow : OpenClaim := { program := "ytcnonioiggniiaa", sum := "65dab52bb1de1ab3edea0861159545b1405188bd97a5ff5bceb0b637c3260a5a", func := "precinct/precinctlaw08.StreamRooms", spec := "streamRooms", inPlace := ["internal/abi.NoEscape", "internal/bytealg.MakeNoZero"], unfollowed := true, recurses := true, apart := false, narrowed := true }
def StreamRoomsUptoSaid : Prop := streamRoomsUptoRow.holds Try.pinned (OpenSpec.upto streamRoomsSpec)

/-- 'precincttop.TopStreams', WHERE WHAT IT READS IS OF BULK AT MOST 1048576: true; the input reads as it did. -/
def topStreamsUptoRow : OpenClaim := { program := "ytcnonioiggniiaa", sum := "65dab52bb1de1ab3edea0861159545b1405188bd97a5ff5bceb0b637c3260a5a", func := "precinct/precincttop.TopStreams", spec := "topStreams", inPlace := ["internal/abi.NoEscape", "internal/bytealg.MakeNoZero"], unfollowed := true, recurses := true, apart := false, narrowed := true }
def TopStreamsUptoSaid : Prop := topStreamsUptoRow.holds Try.pinned (OpenSpec.upto topStreamsSpec)

end Rows
end Go.Proofs.Ytcnonioiggniiaa
