/-
  No cell of these rows narrows 'for every input' (looked for: loops, veiled, ifaces, maps, wideKeys, modest, calm, conditions, laid).
  DERIVED. THE GIVEN ROWS OF THIS SEAT. 6 by the template 'for every input the law returns true; each argument reads behind the call as it read before'; 0 by the template 'total and deterministic' (their statements: YtmlocdfjjgbnjaaTotals.lean).
  GIVEN WITH THE SEED: the statements are not yours to turn. If you find one false, say at which input.
  Laid BY PROGRAM, IN A SANDBOX (cutbox-rows.mjs): the forced cells as the released guide's own fill.sh prints them over the translation 0a9ca68b236639c0… (all of the seat's roots in one cut). By AI agents, Wed Nov 11 2026. No macro, syntax, notation, axiom, sorry.
-/
import Derived.Test.YtmlocdfjjgbnjaaChecked
import GoSem.Claim
import GoSem.ClaimJoined
import GoSem.ClaimMapViews
import Derived.JoinedTies
import Derived.KernelRfl
namespace Go.Proofs.Ytmlocdfjjgbnjaa
/- THE CELL 'sum', in the pinned program and in every row, IS THE sha256 OF THE DUMP (.gsa) THAT YtmlocdfjjgbnjaaProg.lean LOADS. Nothing in Lean hashes anything: it is a label: what it is worth is what the hold of that sum in a sandbox is worth. -/
noncomputable def Try.pinned : Pinned := { name := "ytmlocdfjjgbnjaa", sum := "0a9ca68b236639c029e02157b13d2b7eb2a43b446c1b5ce7345bc5e87d3afa95", checked := Try.checked }
namespace Rows
def none {H : Type} : Left H := { results := [], args := [] }

/-- 'ogivelaw13.SweepNeeds': WHATEVER THE INPUT: true; the input reads as it did. -/
def sweepNeedsSpec : ChangeSpec := { name := "sweepNeeds", fn := fun _ => fun
  | [d1, d2] => { results := [.lit (.bool true)], args := [d1, d2] }
  | _ => none }
def sweepNeedsRow : OpenClaim := { program := "ytmlocdfjjgbnjaa", sum := "0a9ca68b236639c029e02157b13d2b7eb2a43b446c1b5ce7345bc5e87d3afa95", func := "ogive/ogivelaw13.SweepNeeds", spec := "sweepNeeds", unfollowed := true, recurses := true, plainKeys := false, apart := false }
def SweepNeedsSaid : Prop := sweepNeedsRow.holds Try.pinned (OpenSpec.ofChange sweepNeedsSpec)

/-- ITS FALSE NEIGHBOUR: 'it returns false'. Refute it at one input. -/
def sweepNeedsWrong : ChangeSpec := { name := "sweepNeeds", fn := fun _ => fun
  | [d1, d2] => { results := [.lit (.bool false)], args := [d1, d2] }
  | _ => none }
def SweepNeedsWrongFalsely : Prop := sweepNeedsRow.holds Try.pinned (OpenSpec.ofChange sweepNeedsWrong)

/-- 'ogivelaw13.SweepSafe': WHATEVER THE INPUT: true; the input reads as it did. -/
def sweepSafeSpec : ChangeSpec := { name := "sweepSafe", fn := fun _ => fun
  | [d1, d2, d3] => { results := [.lit (.bool true)], args := [d1, d2, d3] }
  | _ => none }
def sweepSafeRow : OpenClaim := { program := "ytmlocdfjjgbnjaa", sum := "0a9ca68b236639c029e02157b13d2b7eb2a43b446c1b5ce7345bc5e87d3afa95", func := "ogive/ogivelaw13.SweepSafe", spec := "sweepSafe", unfollowed := true, recurses := true, plainKeys := false, apart := false }
def SweepSafeSaid : Prop := sweepSafeRow.holds Try.pinned (OpenSpec.ofChange sweepSafeSpec)

/-- ITS FALSE NEIGHBOUR: 'it returns false'. Refute it at one input. -/
def sweepSafeWrong : ChangeSpec := { name := "sweepSafe", fn := fun _ => fun
  | [d1, d2, d3] => { results := [.lit (.bool false)], args := [d1, d2, d3] }
  | _ => none }
def SweepSafeWrongFalsely : Prop := sweepSafeRow.holds Try.pinned (OpenSpec.ofChange sweepSafeWrong)

/-- 'ogivelaw13.SweepFew': WHATEVER THE INPUT: true; the input reads as it did. -/
def sweepFewSpec : ChangeSpec := { name := "sweepFew", fn := fun _ => fun
  | [d1, d2] => { results := [.lit (.bool true)], args := [d1, d2] }
  | _ => none }
def sweepFewRow : OpenClaim := { program := "ytmlocdfjjgbnjaa", sum := "0a9ca68b236639c029e02157b13d2b7eb2a43b446c1b5ce7345bc5e87d3afa95", func := "ogive/ogivelaw13.SweepFew", spec := "sweepFew", unfollowed := true, recurses := true, plainKeys := false, apart := false }
def SweepFewSaid : Prop := sweepFewRow.holds Try.pinned (OpenSpec.ofChange sweepFewSpec)

/-- ITS FALSE NEIGHBOUR: 'it returns false'. Refute it at one input. -/
def sweepFewWrong : ChangeSpec := { name := "sweepFew", fn := fun _ => fun
  | [d1, d2] => { results := [.lit (.bool false)], args := [d1, d2] }
  | _ => none }
def SweepFewWrongFalsely : Prop := sweepFewRow.holds Try.pinned (OpenSpec.ofChange sweepFewWrong)

/-- 'ogivelaw13.SweepTwice': WHATEVER THE INPUT: true; the input reads as it did. -/
def sweepTwiceSpec : ChangeSpec := { name := "sweepTwice", fn := fun _ => fun
  | [d1, d2] => { results := [.lit (.bool true)], args := [d1, d2] }
  | _ => none }
def sweepTwiceRow : OpenClaim := { program := "ytmlocdfjjgbnjaa", sum := "0a9ca68b236639c029e02157b13d2b7eb2a43b446c1b5ce7345bc5e87d3afa95", func := "ogive/ogivelaw13.SweepTwice", spec := "sweepTwice", unfollowed := true, recurses := true, plainKeys := false, apart := false }
def SweepTwiceSaid : Prop := sweepTwiceRow.holds Try.pinned (OpenSpec.ofChange sweepTwiceSpec)

/-- ITS FALSE NEIGHBOUR: 'it returns false'. Refute it at one input. -/
def sweepTwiceWrong : ChangeSpec := { name := "sweepTwice", fn := fun _ => fun
  | [d1, d2] => { results := [.lit (.bool false)], args := [d1, d2] }
  | _ => none }
def SweepTwiceWrongFalsely : Prop := sweepTwiceRow.holds Try.pinned (OpenSpec.ofChange sweepTwiceWrong)

/-- 'ogivelaw13.SweepTurns': WHATEVER THE INPUT: true; the input reads as it did. -/
def sweepTurnsSpec : ChangeSpec := { name := "sweepTurns", fn := fun _ => fun
  | [d1, d2, d3] => { results := [.lit (.bool true)], args := [d1, d2, d3] }
  | _ => none }
def sweepTurnsRow : OpenClaim := { program := "ytmlocdfjjgbnjaa", sum := "0a9ca68b236639c029e02157b13d2b7eb2a43b446c1b5ce7345bc5e87d3afa95", func := "ogive/ogivelaw13.SweepTurns", spec := "sweepTurns", unfollowed := true, recurses := true, plainKeys := false, apart := false }
def SweepTurnsSaid : Prop := sweepTurnsRow.holds Try.pinned (OpenSpec.ofChange sweepTurnsSpec)

/-- ITS FALSE NEIGHBOUR: 'it returns false'. Refute it at one input. -/
def sweepTurnsWrong : ChangeSpec := { name := "sweepTurns", fn := fun _ => fun
  | [d1, d2, d3] => { results := [.lit (.bool false)], args := [d1, d2, d3] }
  | _ => none }
def SweepTurnsWrongFalsely : Prop := sweepTurnsRow.holds Try.pinned (OpenSpec.ofChange sweepTurnsWrong)

/-- 'ogivelaw13.SweepAll': WHATEVER THE INPUT: true; the input reads as it did. -/
def sweepAllSpec : ChangeSpec := { name := "sweepAll", fn := fun _ => fun
  | [d1, d2, d3] => { results := [.lit (.bool true)], args := [d1, d2, d3] }
  | _ => none }
def sweepAllRow : OpenClaim := { program := "ytmlocdfjjgbnjaa", sum := "0a9ca68b236639c029e02157b13d2b7eb2a43b446c1b5ce7345bc5e87d3afa95", func := "ogive/ogivelaw13.SweepAll", spec := "sweepAll", unfollowed := true, recurses := true, plainKeys := false, apart := false }
def SweepAllSaid : Prop := sweepAllRow.holds Try.pinned (OpenSpec.ofChange sweepAllSpec)

/-- ITS FALSE NEIGHBOUR: 'it returns false'. Refute it at one input. -/
def sweepAllWrong : ChangeSpec := { name := "sweepAll", fn := fun _ => fun
  | [d1, d2, d3] => { results := [.lit (.bool false)], args := [d1, d2, d3] }
  | _ => none }
def SweepAllWrongFalsely : Prop := sweepAllRow.holds Try.pinned (OpenSpec.ofChange sweepAllWrong)

/- THE SECOND FORM. 'bulk': how many values and letters a reading holds, each counted each time it is reached (what is shared counts as often as it is met; a slice's spare places count too). A statement '..UptoSaid' is the law's where the arguments, and the package variables that the reading takes, are together of bulk at most 1048576: NARROWER than '..Said'. Prove '..Said' where nothing that the law and all that it calls make is longer than what came in: it says more and counts as full. Else prove '..UptoSaid'. A law counts once. -/
mutual
def uptoBulk {H : Type} : DataW H → Nat
  | .lit (.string bytes) => bytes.length + 1
  | .lit _ => 1
  | .nil => 1
  | .ptr d => uptoBulk d + 1
  | .slice elems spare => uptoBulkAll elems + uptoBulkAll spare + 1
  | .agg parts => uptoBulkAll parts + 1
  | .iface _ d => uptoBulk d + 1
  | .map entries => uptoBulkEntries entries + 1
  | .held _ => 1
def uptoBulkAll {H : Type} : List (DataW H) → Nat
  | [] => 0
  | d :: r => uptoBulk d + uptoBulkAll r
def uptoBulkEntries {H : Type} : List (Lit × DataW H) → Nat
  | [] => 0
  | x :: r => uptoBulkEntry x + uptoBulkEntries r
def uptoBulkEntry {H : Type} : Lit × DataW H → Nat
  | (.string bytes, d) => bytes.length + uptoBulk d + 1
  | (_, d) => uptoBulk d + 1
 end
def uptoSmall : (H : Type) → List (DataW H) → Bool := fun _ ds => decide (uptoBulkAll ds ≤ 1048576)
def OpenSpec.upto (s : _root_.Go.ChangeSpec) : _root_.Go.OpenSpec := { _root_.Go.OpenSpec.ofChange s with cond := some uptoSmall }

/-- 'ogivelaw13.SweepNeeds', WHERE WHAT IT READS IS OF BULK AT MOST 1048576: true; the input reads as it did. -/
def sweepNeedsUptoRow : OpenClaim := { program := "ytmlocdfjjgbnjaa", sum := "0a9ca68b236639c029e02157b13d2b7eb2a43b446c1b5ce7345bc5e87d3afa95", func := "ogive/ogivelaw13.SweepNeeds", spec := "sweepNeeds", unfollowed := true, recurses := true, plainKeys := false, apart := false, narrowed := true }
def SweepNeedsUptoSaid : Prop := sweepNeedsUptoRow.holds Try.pinned (OpenSpec.upto sweepNeedsSpec)

/-- 'ogivelaw13.SweepSafe', WHERE WHAT IT READS IS OF BULK AT MOST 1048576: true; the input reads as it did. -/
def sweepSafeUptoRow : OpenClaim := { program := "ytmlocdfjjgbnjaa", sum := "0a9ca68b236639c029e02157b13d2b7eb2a43b446c1b5ce7345bc5e87d3afa95", func := "ogive/ogivelaw13.SweepSafe", spec := "sweepSafe", unfollowed := true, recurses := true, plainKeys := false, apart := false, narrowed := true }
def SweepSafeUptoSaid : Prop := sweepSafeUptoRow.holds Try.pinned (OpenSpec.upto sweepSafeSpec)

/-- 'ogivelaw13.SweepFew', WHERE WHAT IT READS IS OF BULK AT MOST 1048576: true; the input reads as it did. -/
def sweepFewUptoRow : OpenClaim := { program := "ytmlocdfjjgbnjaa", sum := "0a9ca68b236639c029e02157b13d2b7eb2a43b446c1b5ce7345bc5e87d3afa95", func := "ogive/ogivelaw13.SweepFew", spec := "sweepFew", unfollowed := true, recurses := true, plainKeys := false, apart := false, narrowed := true }
def SweepFewUptoSaid : Prop := sweepFewUptoRow.holds Try.pinned (OpenSpec.upto sweepFewSpec)

/-- 'ogivelaw13.SweepTwice', WHERE WHAT IT READS IS OF BULK AT MOST 1048576: true; the input reads as it did. -/
def sweepTwiceUptoRow : OpenClaim := { program := "ytmlocdfjjgbnjaa", sum := "0a9ca68b236639c029e02157b13d2b7eb2a43b446c1b5ce7345bc5e87d3afa95", func := "ogive/ogivelaw13.SweepTwice", spec := "sweepTwice", unfollowed := true, recurses := true, plainKeys := false, apart := false, narrowed := true }
def SweepTwiceUptoSaid : Prop := sweepTwiceUptoRow.holds Try.pinned (OpenSpec.upto sweepTwiceSpec)

/-- 'ogivelaw13.SweepTurns', WHERE WHAT IT READS IS OF BULK AT MOST 1048576: true; the input reads as it did. -/
def sweepTurnsUptoRow : OpenClaim := { program := "ytmlocdfjjgbnjaa", sum := "0a9ca68b236639c029e02157b13d2b7eb2a43b446c1b5ce7345bc5e87d3afa95", func := "ogive/ogivelaw13.SweepTurns", spec := "sweepTurns", unfollowed := true, recurses := true, plainKeys := false, apart := false, narrowed := true }
def SweepTurnsUptoSaid : Prop := sweepTurnsUptoRow.holds Try.pinned (OpenSpec.upto sweepTurnsSpec)

/-- 'ogivelaw13.SweepAll', WHERE WHAT IT READS IS OF BULK AT MOST 1048576: true; the input reads as it did. -/
def sweepAllUptoRow : OpenClaim := { program := "ytmlocdfjjgbnjaa", sum := "0a9ca68b236639c029e02157b13d2b7eb2a43b446c1b5ce7345bc5e87d3afa95", func := "ogive/ogivelaw13.SweepAll", spec := "sweepAll", unfollowed := true, recurses := true, plainKeys := false, apart := false, narrowed := true }
def SweepAllUptoSaid : Prop := sweepAllUptoRow.holds Try.pinned (OpenSpec.upto sweepAllSpec)

end Rows
end Go.Proofs.Ytmlocdfjjgbnjaa
