/-
  No cell of these rows narrows 'for every input' (looked for: loops, veiled, ifaces, maps, wideKeys, modest, calm, conditions, laid).
  DERIVED. THE GIVEN ROWS OF THIS SEAT. 2 by the template 'for every input the law returns true; each argument reads behind the call as it read before'; 0 by the template 'total and deterministic' (their statements: YtciopdlmjciieaaTotals.lean).
  GIVEN WITH THE SEED: the statements are not yours to turn. If you find one false, say at which input.
  Laid BY PROGRAM, IN A SANDBOX (cutbox-rows.mjs): the forced cells as the released guide's own fill.sh prints them over the translation 57a61a12d00c5366… (all of the seat's roots in one cut). By AI agents, Wed Nov 11 2026. No macro, syntax, notation, axiom, sorry.
-/
import Derived.Test.YtciopdlmjciieaaChecked
import GoSem.Claim
import GoSem.ClaimJoined
import GoSem.ClaimMapViews
import Derived.JoinedTies
import Derived.KernelRfl
namespace Go.Proofs.Ytciopdlmjciieaa
/- THE CELL 'sum', in the pinned program and in every row, IS THE sha256 OF THE DUMP (.gsa) THAT YtciopdlmjciieaaProg.lean LOADS. Nothing in Lean hashes anything: it is a label: what it is worth is what the hold of that sum in a sandbox is worth. -/
noncomputable def Try.pinned : Pinned := { name := "ytciopdlmjciieaa", sum := "57a61a12d00c53667e599c829367352762d7a30d999d2dc997abab7c0de9cf9d", checked := Try.checked }
namespace Rows
def none {H : Type} : Left H := { results := [], args := [] }

/-- 'stutterlaw21.RefineBothSides': WHATEVER THE INPUT: true; the input reads as it did. -/
def refineBothSidesSpec : ChangeSpec := { name := "refineBothSides", fn := fun _ => fun
  | [d] => { results := [.lit (.bool true)], args := [d] }
  | _ => none }
def refineBothSidesRow : OpenClaim := { program := "ytciopdlmjciieaa", sum := "57a61a12d00c53667e599c829367352762d7a30d999d2dc997abab7c0de9cf9d", func := "stutter/stutterlaw21.RefineBothSides", spec := "refineBothSides", unfollowed := true, recurses := true, plainKeys := false, apart := false }
def RefineBothSidesSaid : Prop := refineBothSidesRow.holds Try.pinned (OpenSpec.ofChange refineBothSidesSpec)

/-- ITS FALSE NEIGHBOUR: 'it returns false'. Refute it at one input. -/
def refineBothSidesWrong : ChangeSpec := { name := "refineBothSides", fn := fun _ => fun
  | [d] => { results := [.lit (.bool false)], args := [d] }
  | _ => none }
def RefineBothSidesWrongFalsely : Prop := refineBothSidesRow.holds Try.pinned (OpenSpec.ofChange refineBothSidesWrong)

/-- 'stutterlaw21.RefineLeads': WHATEVER THE INPUT: true; the input reads as it did. -/
def refineLeadsSpec : ChangeSpec := { name := "refineLeads", fn := fun _ => fun
  | [d1, d2, d3] => { results := [.lit (.bool true)], args := [d1, d2, d3] }
  | _ => none }
def refineLeadsRow : OpenClaim := { program := "ytciopdlmjciieaa", sum := "57a61a12d00c53667e599c829367352762d7a30d999d2dc997abab7c0de9cf9d", func := "stutter/stutterlaw21.RefineLeads", spec := "refineLeads", unfollowed := true, recurses := true, plainKeys := false, apart := false }
def RefineLeadsSaid : Prop := refineLeadsRow.holds Try.pinned (OpenSpec.ofChange refineLeadsSpec)

/-- ITS FALSE NEIGHBOUR: 'it returns false'. Refute it at one input. -/
def refineLeadsWrong : ChangeSpec := { name := "refineLeads", fn := fun _ => fun
  | [d1, d2, d3] => { results := [.lit (.bool false)], args := [d1, d2, d3] }
  | _ => none }
def RefineLeadsWrongFalsely : Prop := refineLeadsRow.holds Try.pinned (OpenSpec.ofChange refineLeadsWrong)

/- THE SECOND FORM. 'bulk': how many values and letters a reading holds, each counted each time it is reached (what is shared counts as often as it is met; a slice's spare places count too). A statement '..UptoSaid' is the law's where the arguments, and the package variables that the reading takes, are together of bulk at most 1048576: NARROWER than '..Said'. Prove '..Said' where nothing that the law and all that it calls make is longer than what came in: it says more and counts as full. Else prove '..UptoSaid'. A law counts once. -/
mutual
def uptoBulk {H : Type} : DataW H → Nat
  | .lit (.string bytes) => bytes.length + 1
  | .lit _ => 1
  | .nil => 1
  | .ptr d => uptoBulk d + 1
  | .slice elems spare => uptoBulkAll elems + uptoBulkAll spare + 1
  | .agg parts => uptoBulkAll parts + 1
  | .iface _ d => uptoBulk d + 1
  | .map entries => uptoBulkEntries entries + 1
  | .held _ => 1
def uptoBulkAll {H : Type} : List (DataW H) → Nat
  | [] => 0
  | d :: r => uptoBulk d + uptoBulkAll r
def uptoBulkEntries {H : Type} : List (Lit × DataW H) → Nat
  | [] => 0
  | x :: r => uptoBulkEntry x + uptoBulkEntries r
def uptoBulkEntry {H : Type} : Lit × DataW H → Nat
  | (.string bytes, d) => bytes.length + uptoBulk d + 1
  | (_, d) => uptoBulk d + 1
 end
def uptoSmall : (H : Type) → List (DataW H) → Bool := fun _ ds => decide (uptoBulkAll ds ≤ 1048576)
def OpenSpec.upto (s : _root_.Go.ChangeSpec) : _root_.Go.OpenSpec := { _root_.Go.OpenSpec.ofChange s with cond := some uptoSmall }

/-- 'stutterlaw21.RefineBothSides', WHERE WHAT IT READS IS OF BULK AT MOST 1048576: true; the input reads as it did. -/
def refineBothSidesUptoRow : OpenClaim := { program := "ytciopdlmjciieaa", sum := "57a61a12d00c53667e599c829367352762d7a30d999d2dc997abab7c0de9cf9d", func := "stutter/stutterlaw21.RefineBothSides", spec := "refineBothSides", unfollowed := true, recurses := true, plainKeys := false, apart := false, narrowed := true }
def RefineBothSidesUptoSaid : Prop := refineBothSidesUptoRow.holds Try.pinned (OpenSpec.upto refineBothSidesSpec)

/-- 'stutterlaw21.RefineLeads', WHERE WHAT IT READS IS OF BULK AT MOST 1048576: true; the input reads as it did. -/
def refineLeadsUptoRow : OpenClaim := { program := "ytciopdlmjciieaa", sum := "57a61a12d00c53667e599c829367352762d7a30d999d2dc997abab7c0de9cf9d", func := "stutter/stutterlaw21.RefineLeads", spec := "refineLeads", unfollowed := true, recurses := true, plainKeys := false, apart := false, narrowed := true }
def RefineLeadsUptoSaid : Prop := refineLeadsUptoRow.holds Try.pinned (OpenSpec.upto refineLeadsSpec)

end Rows
end Go.Proofs.Ytciopdlmjciieaa
