/-
  No cell of these rows narrows 'for every input' (looked for: loops, veiled, ifaces, maps, wideKeys, modest, calm, conditions, laid).
  DERIVED. THE GIVEN ROWS OF THIS SEAT. 6 by the template 'for every input the law returns true; each argument reads behind the call as it read before'; 0 by the template 'total and deterministic' (their statements: YtbnoocjhlofnoaaTotals.lean).
  GIVEN WITH THE SEED: the statements are not yours to turn. If you find one false, say at which input.
  Laid BY PROGRAM, IN A SANDBOX (cutbox-rows.mjs): the forced cells as the released guide's own fill.sh prints them over the translation 4380e729c1578fd4… (all of the seat's roots in one cut). By AI agents, Wed Nov 11 2026. No macro, syntax, notation, axiom, sorry.
-/
import Derived.Test.YtbnoocjhlofnoaaChecked
import GoSem.Claim
import GoSem.ClaimJoined
import GoSem.ClaimMapViews
import Derived.JoinedTies
import Derived.KernelRfl
namespace Go.Proofs.Ytbnoocjhlofnoaa
/- THE CELL 'sum', in the pinned program and in every row, IS THE sha256 OF THE DUMP (.gsa) THAT YtbnoocjhlofnoaaProg.lean LOADS. Nothing in Lean hashes anything: it is a label: what it is worth is what the hold of that sum in a sandbox is worth. -/
noncomputable def Try.pinned : Pinned := { name := "ytbnoocjhlofnoaa", sum := "4380e729c1578fd488dcdd9956af5425bd4d186fb21d597407ade9cfe8618bf4", checked := Try.checked }
namespace Rows
def none {H : Type} : Left H := { results := [], args := [] }

/-- 'ogivelaw04.VdiskPlays': WHATEVER THE INPUT: true; the input reads as it did. -/
def vdiskPlaysSpec : ChangeSpec := { name := "vdiskPlays", fn := fun _ => fun
  | [d1, d2] => { results := [.lit (.bool true)], args := [d1, d2] }
  | _ => none }
def vdiskPlaysRow : OpenClaim := { program := "ytbnoocjhlofnoaa", sum := "4380e729c1578fd488dcdd9956af5425bd4d186fb21d597407ade9cfe8618bf4", func := "ogive/ogivelaw04.VdiskPlays", spec := "vdiskPlays", apart := false }
def VdiskPlaysSaid : Prop := vdiskPlaysRow.holds Try.pinned (OpenSpec.ofChange vdiskPlaysSpec)

/-- ITS FALSE NEIGHBOUR: 'it returns false'. Refute it at one input. -/
def vdiskPlaysWrong : ChangeSpec := { name := "vdiskPlays", fn := fun _ => fun
  | [d1, d2] => { results := [.lit (.bool false)], args := [d1, d2] }
  | _ => none }
def VdiskPlaysWrongFalsely : Prop := vdiskPlaysRow.holds Try.pinned (OpenSpec.ofChange vdiskPlaysWrong)

/-- 'ogivelaw04.VdiskStays': WHATEVER THE INPUT: true; the input reads as it did. -/
def vdiskStaysSpec : ChangeSpec := { name := "vdiskStays", fn := fun _ => fun
  | [d1, d2, d3] => { results := [.lit (.bool true)], args := [d1, d2, d3] }
  | _ => none }
def vdiskStaysRow : OpenClaim := { program := "ytbnoocjhlofnoaa", sum := "4380e729c1578fd488dcdd9956af5425bd4d186fb21d597407ade9cfe8618bf4", func := "ogive/ogivelaw04.VdiskStays", spec := "vdiskStays", apart := false }
def VdiskStaysSaid : Prop := vdiskStaysRow.holds Try.pinned (OpenSpec.ofChange vdiskStaysSpec)

/-- ITS FALSE NEIGHBOUR: 'it returns false'. Refute it at one input. -/
def vdiskStaysWrong : ChangeSpec := { name := "vdiskStays", fn := fun _ => fun
  | [d1, d2, d3] => { results := [.lit (.bool false)], args := [d1, d2, d3] }
  | _ => none }
def VdiskStaysWrongFalsely : Prop := vdiskStaysRow.holds Try.pinned (OpenSpec.ofChange vdiskStaysWrong)

/-- 'ogivelaw04.VdiskTorn': WHATEVER THE INPUT: true; the input reads as it did. -/
def vdiskTornSpec : ChangeSpec := { name := "vdiskTorn", fn := fun _ => fun
  | [d1, d2, d3] => { results := [.lit (.bool true)], args := [d1, d2, d3] }
  | _ => none }
def vdiskTornRow : OpenClaim := { program := "ytbnoocjhlofnoaa", sum := "4380e729c1578fd488dcdd9956af5425bd4d186fb21d597407ade9cfe8618bf4", func := "ogive/ogivelaw04.VdiskTorn", spec := "vdiskTorn", apart := false }
def VdiskTornSaid : Prop := vdiskTornRow.holds Try.pinned (OpenSpec.ofChange vdiskTornSpec)

/-- ITS FALSE NEIGHBOUR: 'it returns false'. Refute it at one input. -/
def vdiskTornWrong : ChangeSpec := { name := "vdiskTorn", fn := fun _ => fun
  | [d1, d2, d3] => { results := [.lit (.bool false)], args := [d1, d2, d3] }
  | _ => none }
def VdiskTornWrongFalsely : Prop := vdiskTornRow.holds Try.pinned (OpenSpec.ofChange vdiskTornWrong)

/-- 'ogivelaw04.VdiskKeeps': WHATEVER THE INPUT: true; the input reads as it did. -/
def vdiskKeepsSpec : ChangeSpec := { name := "vdiskKeeps", fn := fun _ => fun
  | [d1, d2] => { results := [.lit (.bool true)], args := [d1, d2] }
  | _ => none }
def vdiskKeepsRow : OpenClaim := { program := "ytbnoocjhlofnoaa", sum := "4380e729c1578fd488dcdd9956af5425bd4d186fb21d597407ade9cfe8618bf4", func := "ogive/ogivelaw04.VdiskKeeps", spec := "vdiskKeeps", apart := false }
def VdiskKeepsSaid : Prop := vdiskKeepsRow.holds Try.pinned (OpenSpec.ofChange vdiskKeepsSpec)

/-- ITS FALSE NEIGHBOUR: 'it returns false'. Refute it at one input. -/
def vdiskKeepsWrong : ChangeSpec := { name := "vdiskKeeps", fn := fun _ => fun
  | [d1, d2] => { results := [.lit (.bool false)], args := [d1, d2] }
  | _ => none }
def VdiskKeepsWrongFalsely : Prop := vdiskKeepsRow.holds Try.pinned (OpenSpec.ofChange vdiskKeepsWrong)

/-- 'ogivelaw04.VdiskCopies': WHATEVER THE INPUT: true; the input reads as it did. -/
def vdiskCopiesSpec : ChangeSpec := { name := "vdiskCopies", fn := fun _ => fun
  | [d1, d2] => { results := [.lit (.bool true)], args := [d1, d2] }
  | _ => none }
def vdiskCopiesRow : OpenClaim := { program := "ytbnoocjhlofnoaa", sum := "4380e729c1578fd488dcdd9956af5425bd4d186fb21d597407ade9cfe8618bf4", func := "ogive/ogivelaw04.VdiskCopies", spec := "vdiskCopies", apart := false }
def VdiskCopiesSaid : Prop := vdiskCopiesRow.holds Try.pinned (OpenSpec.ofChange vdiskCopiesSpec)

/-- ITS FALSE NEIGHBOUR: 'it returns false'. Refute it at one input. -/
def vdiskCopiesWrong : ChangeSpec := { name := "vdiskCopies", fn := fun _ => fun
  | [d1, d2] => { results := [.lit (.bool false)], args := [d1, d2] }
  | _ => none }
def VdiskCopiesWrongFalsely : Prop := vdiskCopiesRow.holds Try.pinned (OpenSpec.ofChange vdiskCopiesWrong)

/-- 'ogivelaw04.VdiskEdges': WHATEVER THE INPUT: true; the input reads as it did. -/
def vdiskEdgesSpec : ChangeSpec := { name := "vdiskEdges", fn := fun _ => fun
  | [d1, d2] => { results := [.lit (.bool true)], args := [d1, d2] }
  | _ => none }
def vdiskEdgesRow : OpenClaim := { program := "ytbnoocjhlofnoaa", sum := "4380e729c1578fd488dcdd9956af5425bd4d186fb21d597407ade9cfe8618bf4", func := "ogive/ogivelaw04.VdiskEdges", spec := "vdiskEdges", apart := false }
def VdiskEdgesSaid : Prop := vdiskEdgesRow.holds Try.pinned (OpenSpec.ofChange vdiskEdgesSpec)

/-- ITS FALSE NEIGHBOUR: 'it returns false'. Refute it at one input. -/
def vdiskEdgesWrong : ChangeSpec := { name := "vdiskEdges", fn := fun _ => fun
  | [d1, d2] => { results := [.lit (.bool false)], args := [d1, d2] }
  | _ => none }
def VdiskEdgesWrongFalsely : Prop := vdiskEdgesRow.holds Try.pinned (OpenSpec.ofChange vdiskEdgesWrong)

/- THE SECOND FORM. 'bulk': how many values and letters a reading holds, each counted each time it is reached (what is shared counts as often as it is met; a slice's spare places count too). A statement '..UptoSaid' is the law's where the arguments, and the package variables that the reading takes, are together of bulk at most 1048576: NARROWER than '..Said'. Prove '..Said' where nothing that the law and all that it calls make is longer than what came in: it says more and counts as full. Else prove '..UptoSaid'. A law counts once. -/
mutual
def uptoBulk {H : Type} : DataW H → Nat
  | .lit (.string bytes) => bytes.length + 1
  | .lit _ => 1
  | .nil => 1
  | .ptr d => uptoBulk d + 1
  | .slice elems spare => uptoBulkAll elems + uptoBulkAll spare + 1
  | .agg parts => uptoBulkAll parts + 1
  | .iface _ d => uptoBulk d + 1
  | .map entries => uptoBulkEntries entries + 1
  | .held _ => 1
def uptoBulkAll {H : Type} : List (DataW H) → Nat
  | [] => 0
  | d :: r => uptoBulk d + uptoBulkAll r
def uptoBulkEntries {H : Type} : List (Lit × DataW H) → Nat
  | [] => 0
  | x :: r => uptoBulkEntry x + uptoBulkEntries r
def uptoBulkEntry {H : Type} : Lit × DataW H → Nat
  | (.string bytes, d) => bytes.length + uptoBulk d + 1
  | (_, d) => uptoBulk d + 1
 end
def uptoSmall : (H : Type) → List (DataW H) → Bool := fun _ ds => decide (uptoBulkAll ds ≤ 1048576)
def OpenSpec.upto (s : _root_.Go.ChangeSpec) : _root_.Go.OpenSpec := { _root_.Go.OpenSpec.ofChange s with cond := some uptoSmall }

/-- 'ogivelaw04.VdiskPlays', WHERE WHAT IT READS IS OF BULK AT MOST 1048576: true; the input reads as it did. -/
def vdiskPlaysUptoRow : OpenClaim := { program := "ytbnoocjhlofnoaa", sum := "4380e729c1578fd488dcdd9956af5425bd4d186fb21d597407ade9cfe8618bf4", func := "ogive/ogivelaw04.VdiskPlays", spec := "vdiskPlays", apart := false, narrowed := true }
def VdiskPlaysUptoSaid : Prop := vdiskPlaysUptoRow.holds Try.pinned (OpenSpec.upto vdiskPlaysSpec)

/-- 'ogivelaw04.VdiskStays', WHERE WHAT IT READS IS OF BULK AT MOST 1048576: true; the input reads as it did. -/
def vdiskStaysUptoRow : OpenClaim := { program := "ytbnoocjhlofnoaa", sum := "4380e729c1578fd488dcdd9956af5425bd4d186fb21d597407ade9cfe8618bf4", func := "ogive/ogivelaw04.VdiskStays", spec := "vdiskStays", apart := false, narrowed := true }
def VdiskStaysUptoSaid : Prop := vdiskStaysUptoRow.holds Try.pinned (OpenSpec.upto vdiskStaysSpec)

/-- 'ogivelaw04.VdiskTorn', WHERE WHAT IT READS IS OF BULK AT MOST 1048576: true; the input reads as it did. -/
def vdiskTornUptoRow : OpenClaim := { program := "ytbnoocjhlofnoaa", sum := "4380e729c1578fd488dcdd9956af5425bd4d186fb21d597407ade9cfe8618bf4", func := "ogive/ogivelaw04.VdiskTorn", spec := "vdiskTorn", apart := false, narrowed := true }
def VdiskTornUptoSaid : Prop := vdiskTornUptoRow.holds Try.pinned (OpenSpec.upto vdiskTornSpec)

/-- 'ogivelaw04.VdiskKeeps', WHERE WHAT IT READS IS OF BULK AT MOST 1048576: true; the input reads as it did. -/
def vdiskKeepsUptoRow : OpenClaim := { program := "ytbnoocjhlofnoaa", sum := "4380e729c1578fd488dcdd9956af5425bd4d186fb21d597407ade9cfe8618bf4", func := "ogive/ogivelaw04.VdiskKeeps", spec := "vdiskKeeps", apart := false, narrowed := true }
def VdiskKeepsUptoSaid : Prop := vdiskKeepsUptoRow.holds Try.pinned (OpenSpec.upto vdiskKeepsSpec)

/-- 'ogivelaw04.VdiskCopies', WHERE WHAT IT READS IS OF BULK AT MOST 1048576: true; the input reads as it did. -/
def vdiskCopiesUptoRow : OpenClaim := { program := "ytbnoocjhlofnoaa", sum := "4380e729c1578fd488dcdd9956af5425bd4d186fb21d597407ade9cfe8618bf4", func := "ogive/ogivelaw04.VdiskCopies", spec := "vdiskCopies", apart := false, narrowed := true }
def VdiskCopiesUptoSaid : Prop := vdiskCopiesUptoRow.holds Try.pinned (OpenSpec.upto vdiskCopiesSpec)

/-- 'ogivelaw04.VdiskEdges', WHERE WHAT IT READS IS OF BULK AT MOST 1048576: true; the input reads as it did. -/
def vdiskEdgesUptoRow : OpenClaim := { program := "ytbnoocjhlofnoaa", sum := "4380e729c1578fd488dcdd9956af5425bd4d186fb21d597407ade9cfe8618bf4", func := "ogive/ogivelaw04.VdiskEdges", spec := "vdiskEdges", apart := false, narrowed := true }
def VdiskEdgesUptoSaid : Prop := vdiskEdgesUptoRow.holds Try.pinned (OpenSpec.upto vdiskEdgesSpec)

end Rows
end Go.Proofs.Ytbnoocjhlofnoaa
