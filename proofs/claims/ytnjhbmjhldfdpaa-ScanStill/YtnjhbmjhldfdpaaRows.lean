/-
  No cell of these rows narrows 'for every input' (looked for: loops, veiled, ifaces, maps, wideKeys, modest, calm, conditions, laid).
  DERIVED. THE GIVEN ROWS OF THIS SEAT. 6 by the template 'for every input the law returns true; each argument reads behind the call as it read before'; 0 by the template 'total and deterministic' (their statements: YtnjhbmjhldfdpaaTotals.lean).
  GIVEN WITH THE SEED: the statements are not yours to turn. If you find one false, say at which input.
  Laid BY PROGRAM, IN A SANDBOX (cutbox-rows.mjs): the forced cells as the released guide's own fill.sh prints them over the translation 9329f85f886355a2… (all of the seat's roots in one cut). By AI agents, Wed Nov 11 2026. No macro, syntax, notation, axiom, sorry.
-/
import Derived.Test.YtnjhbmjhldfdpaaChecked
import GoSem.Claim
import GoSem.ClaimJoined
import GoSem.ClaimMapViews
import Derived.JoinedTies
import Derived.KernelRfl
namespace Go.Proofs.Ytnjhbmjhldfdpaa
/- THE CELL 'sum', in the pinned program and in every row, IS THE sha256 OF THE DUMP (.gsa) THAT YtnjhbmjhldfdpaaProg.lean LOADS. Nothing in Lean hashes anything: it is a label: what it is worth is what the hold of that sum in a sandbox is worth. -/
noncomputable def Try.pinned : Pinned := { name := "ytnjhbmjhldfdpaa", sum := "9329f85f886355a27936c6d5e88957e296a0fb3a545f8d7db9fc087ba10b91f5", checked := Try.checked }
namespace Rows
def none {H : Type} : Left H := { results := [], args := [] }

/-- 'ogivelaw07.ScanReads': WHATEVER THE INPUT: true; the input reads as it did. -/
def scanReadsSpec : ChangeSpec := { name := "scanReads", fn := fun _ => fun
  | [d1, d2, d3] => { results := [.lit (.bool true)], args := [d1, d2, d3] }
  | _ => none }
def scanReadsRow : OpenClaim := { program := "ytnjhbmjhldfdpaa", sum := "9329f85f886355a27936c6d5e88957e296a0fb3a545f8d7db9fc087ba10b91f5", func := "ogive/ogivelaw07.ScanReads", spec := "scanReads", unfollowed := true, recurses := true, apart := false }
def ScanReadsSaid : Prop := scanReadsRow.holds Try.pinned (OpenSpec.ofChange scanReadsSpec)

/-- ITS FALSE NEIGHBOUR: 'it returns false'. Refute it at one input. -/
def scanReadsWrong : ChangeSpec := { name := "scanReads", fn := fun _ => fun
  | [d1, d2, d3] => { results := [.lit (.bool false)], args := [d1, d2, d3] }
  | _ => none }
def ScanReadsWrongFalsely : Prop := scanReadsRow.holds Try.pinned (OpenSpec.ofChange scanReadsWrong)

/-- 'ogivelaw07.ScanBack': WHATEVER THE INPUT: true; the input reads as it did. -/
def scanBackSpec : ChangeSpec := { name := "scanBack", fn := fun _ => fun
  | [d] => { results := [.lit (.bool true)], args := [d] }
  | _ => none }
def scanBackRow : OpenClaim := { program := "ytnjhbmjhldfdpaa", sum := "9329f85f886355a27936c6d5e88957e296a0fb3a545f8d7db9fc087ba10b91f5", func := "ogive/ogivelaw07.ScanBack", spec := "scanBack", unfollowed := true, recurses := true, apart := false }
def ScanBackSaid : Prop := scanBackRow.holds Try.pinned (OpenSpec.ofChange scanBackSpec)

/-- ITS FALSE NEIGHBOUR: 'it returns false'. Refute it at one input. -/
def scanBackWrong : ChangeSpec := { name := "scanBack", fn := fun _ => fun
  | [d] => { results := [.lit (.bool false)], args := [d] }
  | _ => none }
def ScanBackWrongFalsely : Prop := scanBackRow.holds Try.pinned (OpenSpec.ofChange scanBackWrong)

/-- 'ogivelaw07.ScanCrash': WHATEVER THE INPUT: true; the input reads as it did. -/
def scanCrashSpec : ChangeSpec := { name := "scanCrash", fn := fun _ => fun
  | [d1, d2] => { results := [.lit (.bool true)], args := [d1, d2] }
  | _ => none }
def scanCrashRow : OpenClaim := { program := "ytnjhbmjhldfdpaa", sum := "9329f85f886355a27936c6d5e88957e296a0fb3a545f8d7db9fc087ba10b91f5", func := "ogive/ogivelaw07.ScanCrash", spec := "scanCrash", unfollowed := true, recurses := true, apart := false }
def ScanCrashSaid : Prop := scanCrashRow.holds Try.pinned (OpenSpec.ofChange scanCrashSpec)

/-- ITS FALSE NEIGHBOUR: 'it returns false'. Refute it at one input. -/
def scanCrashWrong : ChangeSpec := { name := "scanCrash", fn := fun _ => fun
  | [d1, d2] => { results := [.lit (.bool false)], args := [d1, d2] }
  | _ => none }
def ScanCrashWrongFalsely : Prop := scanCrashRow.holds Try.pinned (OpenSpec.ofChange scanCrashWrong)

/-- 'ogivelaw07.ScanLoses': WHATEVER THE INPUT: true; the input reads as it did. -/
def scanLosesSpec : ChangeSpec := { name := "scanLoses", fn := fun _ => fun
  | [d1, d2] => { results := [.lit (.bool true)], args := [d1, d2] }
  | _ => none }
def scanLosesRow : OpenClaim := { program := "ytnjhbmjhldfdpaa", sum := "9329f85f886355a27936c6d5e88957e296a0fb3a545f8d7db9fc087ba10b91f5", func := "ogive/ogivelaw07.ScanLoses", spec := "scanLoses", unfollowed := true, recurses := true, apart := false }
def ScanLosesSaid : Prop := scanLosesRow.holds Try.pinned (OpenSpec.ofChange scanLosesSpec)

/-- ITS FALSE NEIGHBOUR: 'it returns false'. Refute it at one input. -/
def scanLosesWrong : ChangeSpec := { name := "scanLoses", fn := fun _ => fun
  | [d1, d2] => { results := [.lit (.bool false)], args := [d1, d2] }
  | _ => none }
def ScanLosesWrongFalsely : Prop := scanLosesRow.holds Try.pinned (OpenSpec.ofChange scanLosesWrong)

/-- 'ogivelaw07.ScanOn': WHATEVER THE INPUT: true; the input reads as it did. -/
def scanOnSpec : ChangeSpec := { name := "scanOn", fn := fun _ => fun
  | [d1, d2] => { results := [.lit (.bool true)], args := [d1, d2] }
  | _ => none }
def scanOnRow : OpenClaim := { program := "ytnjhbmjhldfdpaa", sum := "9329f85f886355a27936c6d5e88957e296a0fb3a545f8d7db9fc087ba10b91f5", func := "ogive/ogivelaw07.ScanOn", spec := "scanOn", unfollowed := true, recurses := true, apart := false }
def ScanOnSaid : Prop := scanOnRow.holds Try.pinned (OpenSpec.ofChange scanOnSpec)

/-- ITS FALSE NEIGHBOUR: 'it returns false'. Refute it at one input. -/
def scanOnWrong : ChangeSpec := { name := "scanOn", fn := fun _ => fun
  | [d1, d2] => { results := [.lit (.bool false)], args := [d1, d2] }
  | _ => none }
def ScanOnWrongFalsely : Prop := scanOnRow.holds Try.pinned (OpenSpec.ofChange scanOnWrong)

/-- 'ogivelaw07.ScanStill': WHATEVER THE INPUT: true; the input reads as it did. -/
def scanStillSpec : ChangeSpec := { name := "scanStill", fn := fun _ => fun
  | [d1, d2] => { results := [.lit (.bool true)], args := [d1, d2] }
  | _ => none }
def scanStillRow : OpenClaim := { program := "ytnjhbmjhldfdpaa", sum := "9329f85f886355a27936c6d5e88957e296a0fb3a545f8d7db9fc087ba10b91f5", func := "ogive/ogivelaw07.ScanStill", spec := "scanStill", unfollowed := true, recurses := true, apart := false }
def ScanStillSaid : Prop := scanStillRow.holds Try.pinned (OpenSpec.ofChange scanStillSpec)

/-- ITS FALSE NEIGHBOUR: 'it returns false'. Refute it at one input. -/
def scanStillWrong : ChangeSpec := { name := "scanStill", fn := fun _ => fun
  | [d1, d2] => { results := [.lit (.bool false)], args := [d1, d2] }
  | _ => none }
def ScanStillWrongFalsely : Prop := scanStillRow.holds Try.pinned (OpenSpec.ofChange scanStillWrong)

/- THE SECOND FORM. 'bulk': how many values and letters a reading holds, each counted each time it is reached (what is shared counts as often as it is met; a slice's spare places count too). A statement '..UptoSaid' is the law's where the arguments, and the package variables that the reading takes, are together of bulk at most 1048576: NARROWER than '..Said'. Prove '..Said' where nothing that the law and all that it calls make is longer than what came in: it says more and counts as full. Else prove '..UptoSaid'. A law counts once. -/
mutual
def uptoBulk {H : Type} : DataW H → Nat
  | .lit (.string bytes) => bytes.length + 1
  | .lit _ => 1
  | .nil => 1
  | .ptr d => uptoBulk d + 1
  | .slice elems spare => uptoBulkAll elems + uptoBulkAll spare + 1
  | .agg parts => uptoBulkAll parts + 1
  | .iface _ d => uptoBulk d + 1
  | .map entries => uptoBulkEntries entries + 1
  | .held _ => 1
def uptoBulkAll {H : Type} : List (DataW H) → Nat
  | [] => 0
  | d :: r => uptoBulk d + uptoBulkAll r
def uptoBulkEntries {H : Type} : List (Lit × DataW H) → Nat
  | [] => 0
  | x :: r => uptoBulkEntry x + uptoBulkEntries r
def uptoBulkEntry {H : Type} : Lit × DataW H → Nat
  | (.string bytes, d) => bytes.length + uptoBulk d + 1
  | (_, d) => uptoBulk d + 1
 end
def uptoSmall : (H : Type) → List (DataW H) → Bool := fun _ ds => decide (uptoBulkAll ds ≤ 1048576)
def OpenSpec.upto (s : _root_.Go.ChangeSpec) : _root_.Go.OpenSpec := { _root_.Go.OpenSpec.ofChange s with cond := some uptoSmall }

/-- 'ogivelaw07.ScanReads', WHERE WHAT IT READS IS OF BULK AT MOST 1048576: true; the input reads as it did. -/
def scanReadsUptoRow : OpenClaim := { program := "ytnjhbmjhldfdpaa", sum := "9329f85f886355a27936c6d5e88957e296a0fb3a545f8d7db9fc087ba10b91f5", func := "ogive/ogivelaw07.ScanReads", spec := "scanReads", unfollowed := true, recurses := true, apart := false, narrowed := true }
def ScanReadsUptoSaid : Prop := scanReadsUptoRow.holds Try.pinned (OpenSpec.upto scanReadsSpec)

/-- 'ogivelaw07.ScanBack', WHERE WHAT IT READS IS OF BULK AT MOST 1048576: true; the input reads as it did. -/
def scanBackUptoRow : OpenClaim := { program := "ytnjhbmjhldfdpaa", sum := "9329f85f886355a27936c6d5e88957e296a0fb3a545f8d7db9fc087ba10b91f5", func := "ogive/ogivelaw07.ScanBack", spec := "scanBack", unfollowed := true, recurses := true, apart := false, narrowed := true }
def ScanBackUptoSaid : Prop := scanBackUptoRow.holds Try.pinned (OpenSpec.upto scanBackSpec)

/-- 'ogivelaw07.ScanCrash', WHERE WHAT IT READS IS OF BULK AT MOST 1048576: true; the input reads as it did. -/
def scanCrashUptoRow : OpenClaim := { program := "ytnjhbmjhldfdpaa", sum := "9329f85f886355a27936c6d5e88957e296a0fb3a545f8d7db9fc087ba10b91f5", func := "ogive/ogivelaw07.ScanCrash", spec := "scanCrash", unfollowed := true, recurses := true, apart := false, narrowed := true }
def ScanCrashUptoSaid : Prop := scanCrashUptoRow.holds Try.pinned (OpenSpec.upto scanCrashSpec)

/-- 'ogivelaw07.ScanLoses', WHERE WHAT IT READS IS OF BULK AT MOST 1048576: true; the input reads as it did. -/
def scanLosesUptoRow : OpenClaim := { program := "ytnjhbmjhldfdpaa", sum := "9329f85f886355a27936c6d5e88957e296a0fb3a545f8d7db9fc087ba10b91f5", func := "ogive/ogivelaw07.ScanLoses", spec := "scanLoses", unfollowed := true, recurses := true, apart := false, narrowed := true }
def ScanLosesUptoSaid : Prop := scanLosesUptoRow.holds Try.pinned (OpenSpec.upto scanLosesSpec)

/-- 'ogivelaw07.ScanOn', WHERE WHAT IT READS IS OF BULK AT MOST 1048576: true; the input reads as it did. -/
def scanOnUptoRow : OpenClaim := { program := "ytnjhbmjhldfdpaa", sum := "9329f85f886355a27936c6d5e88957e296a0fb3a545f8d7db9fc087ba10b91f5", func := "ogive/ogivelaw07.ScanOn", spec := "scanOn", unfollowed := true, recurses := true, apart := false, narrowed := true }
def ScanOnUptoSaid : Prop := scanOnUptoRow.holds Try.pinned (OpenSpec.upto scanOnSpec)

/-- 'ogivelaw07.ScanStill', WHERE WHAT IT READS IS OF BULK AT MOST 1048576: true; the input reads as it did. -/
def scanStillUptoRow : OpenClaim := { program := "ytnjhbmjhldfdpaa", sum := "9329f85f886355a27936c6d5e88957e296a0fb3a545f8d7db9fc087ba10b91f5", func := "ogive/ogivelaw07.ScanStill", spec := "scanStill", unfollowed := true, recurses := true, apart := false, narrowed := true }
def ScanStillUptoSaid : Prop := scanStillUptoRow.holds Try.pinned (OpenSpec.upto scanStillSpec)

end Rows
end Go.Proofs.Ytnjhbmjhldfdpaa
