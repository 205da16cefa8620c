/-
  No cell of these rows narrows 'for every input' (looked for: loops, veiled, ifaces, maps, wideKeys, modest, calm, conditions, laid).
  DERIVED. THE GIVEN ROWS OF THIS SEAT. 8 by the template 'for every input the law returns true; each argument reads behind the call as it read before'; 0 by the template 'total and deterministic' (their statements: YtldmkbmkjdnaaaaTotals.lean).
  GIVEN WITH THE SEED: the statements are not yours to turn. If you find one false, say at which input.
  Laid BY PROGRAM, IN A SANDBOX (cutbox-rows.mjs): the forced cells as the released guide's own fill.sh prints them over the translation b6e3c98c2173dccd… (all of the seat's roots in one cut). By AI agents, Wed Nov 11 2026. No macro, syntax, notation, axiom, sorry.
-/
import Derived.Test.YtldmkbmkjdnaaaaChecked
import GoSem.Claim
import GoSem.ClaimJoined
import GoSem.ClaimMapViews
import Derived.JoinedTies
import Derived.KernelRfl
namespace Go.Proofs.Ytldmkbmkjdnaaaa
/- THE CELL 'sum', in the pinned program and in every row, IS THE sha256 OF THE DUMP (.gsa) THAT YtldmkbmkjdnaaaaProg.lean LOADS. Nothing in Lean hashes anything: it is a label: what it is worth is what the hold of that sum in a sandbox is worth. -/
noncomputable def Try.pinned : Pinned := { name := "ytldmkbmkjdnaaaa", sum := "b6e3c98c2173dccd3723318bc3f3e8505bb7b5f5c5d31d2850b26702777e2bb7", checked := Try.checked }
namespace Rows
def none {H : Type} : Left H := { results := [], args := [] }

/-- 'timekeeperlaw09.StepsTidies': WHATEVER THE INPUT: true; the input reads as it did. -/
def stepsTidiesSpec : ChangeSpec := { name := "stepsTidies", fn := fun _ => fun
  | [d1, d2] => { results := [.lit (.bool true)], args := [d1, d2] }
  | _ => none }
def stepsTidiesRow : OpenClaim := { program := "ytldmkbmkjdnaaaa", sum := "b6e3c98c2173dccd3723318bc3f3e8505bb7b5f5c5d31d2850b26702777e2bb7", func := "timekeeper/timekeeperlaw09.StepsTidies", spec := "stepsTidies", unfollowed := true, recurses := true, apart := false }
def StepsTidiesSaid : Prop := stepsTidiesRow.holds Try.pinned (OpenSpec.ofChange stepsTidiesSpec)

/-- ITS FALSE NEIGHBOUR: 'it returns false'. Refute it at one input. -/
def stepsTidiesWrong : ChangeSpec := { name := "stepsTidies", fn := fun _ => fun
  | [d1, d2] => { results := [.lit (.bool false)], args := [d1, d2] }
  | _ => none }
def StepsTidiesWrongFalsely : Prop := stepsTidiesRow.holds Try.pinned (OpenSpec.ofChange stepsTidiesWrong)

/-- 'timekeeperlaw10.FitFinds': WHATEVER THE INPUT: true; the input reads as it did. -/
def fitFindsSpec : ChangeSpec := { name := "fitFinds", fn := fun _ => fun
  | [d1, d2, d3, d4] => { results := [.lit (.bool true)], args := [d1, d2, d3, d4] }
  | _ => none }
def fitFindsRow : OpenClaim := { program := "ytldmkbmkjdnaaaa", sum := "b6e3c98c2173dccd3723318bc3f3e8505bb7b5f5c5d31d2850b26702777e2bb7", func := "timekeeper/timekeeperlaw10.FitFinds", spec := "fitFinds", unfollowed := true, recurses := true, apart := false }
def FitFindsSaid : Prop := fitFindsRow.holds Try.pinned (OpenSpec.ofChange fitFindsSpec)

/-- ITS FALSE NEIGHBOUR: 'it returns false'. Refute it at one input. -/
def fitFindsWrong : ChangeSpec := { name := "fitFinds", fn := fun _ => fun
  | [d1, d2, d3, d4] => { results := [.lit (.bool false)], args := [d1, d2, d3, d4] }
  | _ => none }
def FitFindsWrongFalsely : Prop := fitFindsRow.holds Try.pinned (OpenSpec.ofChange fitFindsWrong)

/-- 'timekeeperlaw10.FitFits': WHATEVER THE INPUT: true; the input reads as it did. -/
def fitFitsSpec : ChangeSpec := { name := "fitFits", fn := fun _ => fun
  | [d1, d2, d3, d4, d5] => { results := [.lit (.bool true)], args := [d1, d2, d3, d4, d5] }
  | _ => none }
def fitFitsRow : OpenClaim := { program := "ytldmkbmkjdnaaaa", sum := "b6e3c98c2173dccd3723318bc3f3e8505bb7b5f5c5d31d2850b26702777e2bb7", func := "timekeeper/timekeeperlaw10.FitFits", spec := "fitFits", unfollowed := true, recurses := true, apart := false }
def FitFitsSaid : Prop := fitFitsRow.holds Try.pinned (OpenSpec.ofChange fitFitsSpec)

/-- ITS FALSE NEIGHBOUR: 'it returns false'. Refute it at one input. -/
def fitFitsWrong : ChangeSpec := { name := "fitFits", fn := fun _ => fun
  | [d1, d2, d3, d4, d5] => { results := [.lit (.bool false)], args := [d1, d2, d3, d4, d5] }
  | _ => none }
def FitFitsWrongFalsely : Prop := fitFitsRow.holds Try.pinned (OpenSpec.ofChange fitFitsWrong)

/-- 'timekeeperlaw10.FitAll': WHATEVER THE INPUT: true; the input reads as it did. -/
def fitAllSpec : ChangeSpec := { name := "fitAll", fn := fun _ => fun
  | [d1, d2, d3, d4] => { results := [.lit (.bool true)], args := [d1, d2, d3, d4] }
  | _ => none }
def fitAllRow : OpenClaim := { program := "ytldmkbmkjdnaaaa", sum := "b6e3c98c2173dccd3723318bc3f3e8505bb7b5f5c5d31d2850b26702777e2bb7", func := "timekeeper/timekeeperlaw10.FitAll", spec := "fitAll", unfollowed := true, recurses := true, apart := false }
def FitAllSaid : Prop := fitAllRow.holds Try.pinned (OpenSpec.ofChange fitAllSpec)

/-- ITS FALSE NEIGHBOUR: 'it returns false'. Refute it at one input. -/
def fitAllWrong : ChangeSpec := { name := "fitAll", fn := fun _ => fun
  | [d1, d2, d3, d4] => { results := [.lit (.bool false)], args := [d1, d2, d3, d4] }
  | _ => none }
def FitAllWrongFalsely : Prop := fitAllRow.holds Try.pinned (OpenSpec.ofChange fitAllWrong)

/-- 'timekeeperlaw10.FitBounds': WHATEVER THE INPUT: true; the input reads as it did. -/
def fitBoundsSpec : ChangeSpec := { name := "fitBounds", fn := fun _ => fun
  | [d1, d2, d3, d4, d5] => { results := [.lit (.bool true)], args := [d1, d2, d3, d4, d5] }
  | _ => none }
def fitBoundsRow : OpenClaim := { program := "ytldmkbmkjdnaaaa", sum := "b6e3c98c2173dccd3723318bc3f3e8505bb7b5f5c5d31d2850b26702777e2bb7", func := "timekeeper/timekeeperlaw10.FitBounds", spec := "fitBounds", unfollowed := true, recurses := true, apart := false }
def FitBoundsSaid : Prop := fitBoundsRow.holds Try.pinned (OpenSpec.ofChange fitBoundsSpec)

/-- ITS FALSE NEIGHBOUR: 'it returns false'. Refute it at one input. -/
def fitBoundsWrong : ChangeSpec := { name := "fitBounds", fn := fun _ => fun
  | [d1, d2, d3, d4, d5] => { results := [.lit (.bool false)], args := [d1, d2, d3, d4, d5] }
  | _ => none }
def FitBoundsWrongFalsely : Prop := fitBoundsRow.holds Try.pinned (OpenSpec.ofChange fitBoundsWrong)

/-- 'timekeeperlaw10.FitWidest': WHATEVER THE INPUT: true; the input reads as it did. -/
def fitWidestSpec : ChangeSpec := { name := "fitWidest", fn := fun _ => fun
  | [d1, d2, d3] => { results := [.lit (.bool true)], args := [d1, d2, d3] }
  | _ => none }
def fitWidestRow : OpenClaim := { program := "ytldmkbmkjdnaaaa", sum := "b6e3c98c2173dccd3723318bc3f3e8505bb7b5f5c5d31d2850b26702777e2bb7", func := "timekeeper/timekeeperlaw10.FitWidest", spec := "fitWidest", unfollowed := true, recurses := true, apart := false }
def FitWidestSaid : Prop := fitWidestRow.holds Try.pinned (OpenSpec.ofChange fitWidestSpec)

/-- ITS FALSE NEIGHBOUR: 'it returns false'. Refute it at one input. -/
def fitWidestWrong : ChangeSpec := { name := "fitWidest", fn := fun _ => fun
  | [d1, d2, d3] => { results := [.lit (.bool false)], args := [d1, d2, d3] }
  | _ => none }
def FitWidestWrongFalsely : Prop := fitWidestRow.holds Try.pinned (OpenSpec.ofChange fitWidestWrong)

/-- 'timekeeperlaw10.FitLess': WHATEVER THE INPUT: true; the input reads as it did. -/
def fitLessSpec : ChangeSpec := { name := "fitLess", fn := fun _ => fun
  | [d1, d2, d3, d4, d5, d6, d7] => { results := [.lit (.bool true)], args := [d1, d2, d3, d4, d5, d6, d7] }
  | _ => none }
def fitLessRow : OpenClaim := { program := "ytldmkbmkjdnaaaa", sum := "b6e3c98c2173dccd3723318bc3f3e8505bb7b5f5c5d31d2850b26702777e2bb7", func := "timekeeper/timekeeperlaw10.FitLess", spec := "fitLess", unfollowed := true, recurses := true, apart := false }
def FitLessSaid : Prop := fitLessRow.holds Try.pinned (OpenSpec.ofChange fitLessSpec)

/-- ITS FALSE NEIGHBOUR: 'it returns false'. Refute it at one input. -/
def fitLessWrong : ChangeSpec := { name := "fitLess", fn := fun _ => fun
  | [d1, d2, d3, d4, d5, d6, d7] => { results := [.lit (.bool false)], args := [d1, d2, d3, d4, d5, d6, d7] }
  | _ => none }
def FitLessWrongFalsely : Prop := fitLessRow.holds Try.pinned (OpenSpec.ofChange fitLessWrong)

/-- 'timekeeperlaw10.FitEnds': WHATEVER THE INPUT: true; the input reads as it did. -/
def fitEndsSpec : ChangeSpec := { name := "fitEnds", fn := fun _ => fun
  | [d1, d2, d3, d4] => { results := [.lit (.bool true)], args := [d1, d2, d3, d4] }
  | _ => none }
def fitEndsRow : OpenClaim := { program := "ytldmkbmkjdnaaaa", sum := "b6e3c98c2173dccd3723318bc3f3e8505bb7b5f5c5d31d2850b26702777e2bb7", func := "timekeeper/timekeeperlaw10.FitEnds", spec := "fitEnds", unfollowed := true, recurses := true, apart := false }
def FitEndsSaid : Prop := fitEndsRow.holds Try.pinned (OpenSpec.ofChange fitEndsSpec)

/-- ITS FALSE NEIGHBOUR: 'it returns false'. Refute it at one input. -/
def fitEndsWrong : ChangeSpec := { name := "fitEnds", fn := fun _ => fun
  | [d1, d2, d3, d4] => { results := [.lit (.bool false)], args := [d1, d2, d3, d4] }
  | _ => none }
def FitEndsWrongFalsely : Prop := fitEndsRow.holds Try.pinned (OpenSpec.ofChange fitEndsWrong)

/- THE SECOND FORM. 'bulk': how many values and letters a reading holds, each counted each time it is reached (what is shared counts as often as it is met; a slice's spare places count too). A statement '..UptoSaid' is the law's where the arguments, and the package variables that the reading takes, are together of bulk at most 1048576: NARROWER than '..Said'. Prove '..Said' where nothing that the law and all that it calls make is longer than what came in: it says more and counts as full. Else prove '..UptoSaid'. A law counts once. -/
mutual
def uptoBulk {H : Type} : DataW H → Nat
  | .lit (.string bytes) => bytes.length + 1
  | .lit _ => 1
  | .nil => 1
  | .ptr d => uptoBulk d + 1
  | .slice elems spare => uptoBulkAll elems + uptoBulkAll spare + 1
  | .agg parts => uptoBulkAll parts + 1
  | .iface _ d => uptoBulk d + 1
  | .map entries => uptoBulkEntries entries + 1
  | .held _ => 1
def uptoBulkAll {H : Type} : List (DataW H) → Nat
  | [] => 0
  | d :: r => uptoBulk d + uptoBulkAll r
def uptoBulkEntries {H : Type} : List (Lit × DataW H) → Nat
  | [] => 0
  | x :: r => uptoBulkEntry x + uptoBulkEntries r
def uptoBulkEntry {H : Type} : Lit × DataW H → Nat
  | (.string bytes, d) => bytes.length + uptoBulk d + 1
  | (_, d) => uptoBulk d + 1
 end
def uptoSmall : (H : Type) → List (DataW H) → Bool := fun _ ds => decide (uptoBulkAll ds ≤ 1048576)
def OpenSpec.upto (s : _root_.Go.ChangeSpec) : _root_.Go.OpenSpec := { _root_.Go.OpenSpec.ofChange s with cond := some uptoSmall }

/-- 'timekeeperlaw09.StepsTidies', WHERE WHAT IT READS IS OF BULK AT MOST 1048576: true; the input reads as it did. -/
def stepsTidiesUptoRow : OpenClaim := { program := "ytldmkbmkjdnaaaa", sum := "b6e3c98c2173dccd3723318bc3f3e8505bb7b5f5c5d31d2850b26702777e2bb7", func := "timekeeper/timekeeperlaw09.StepsTidies", spec := "stepsTidies", unfollowed := true, recurses := true, apart := false, narrowed := true }
def StepsTidiesUptoSaid : Prop := stepsTidiesUptoRow.holds Try.pinned (OpenSpec.upto stepsTidiesSpec)

/-- 'timekeeperlaw10.FitFinds', WHERE WHAT IT READS IS OF BULK AT MOST 1048576: true; the input reads as it did. -/
def fitFindsUptoRow : OpenClaim := { program := "ytldmkbmkjdnaaaa", sum := "b6e3c98c2173dccd3723318bc3f3e8505bb7b5f5c5d31d2850b26702777e2bb7", func := "timekeeper/timekeeperlaw10.FitFinds", spec := "fitFinds", unfollowed := true, recurses := true, apart := false, narrowed := true }
def FitFindsUptoSaid : Prop := fitFindsUptoRow.holds Try.pinned (OpenSpec.upto fitFindsSpec)

/-- 'timekeeperlaw10.FitFits', WHERE WHAT IT READS IS OF BULK AT MOST 1048576: true; the input reads as it did. -/
def fitFitsUptoRow : OpenClaim := { program := "ytldmkbmkjdnaaaa", sum := "b6e3c98c2173dccd3723318bc3f3e8505bb7b5f5c5d31d2850b26702777e2bb7", func := "timekeeper/timekeeperlaw10.FitFits", spec := "fitFits", unfollowed := true, recurses := true, apart := false, narrowed := true }
def FitFitsUptoSaid : Prop := fitFitsUptoRow.holds Try.pinned (OpenSpec.upto fitFitsSpec)

/-- 'timekeeperlaw10.FitAll', WHERE WHAT IT READS IS OF BULK AT MOST 1048576: true; the input reads as it did. -/
def fitAllUptoRow : OpenClaim := { program := "ytldmkbmkjdnaaaa", sum := "b6e3c98c2173dccd3723318bc3f3e8505bb7b5f5c5d31d2850b26702777e2bb7", func := "timekeeper/timekeeperlaw10.FitAll", spec := "fitAll", unfollowed := true, recurses := true, apart := false, narrowed := true }
def FitAllUptoSaid : Prop := fitAllUptoRow.holds Try.pinned (OpenSpec.upto fitAllSpec)

/-- 'timekeeperlaw10.FitBounds', WHERE WHAT IT READS IS OF BULK AT MOST 1048576: true; the input reads as it did. -/
def fitBoundsUptoRow : OpenClaim := { program := "ytldmkbmkjdnaaaa", sum := "b6e3c98c2173dccd3723318bc3f3e8505bb7b5f5c5d31d2850b26702777e2bb7", func := "timekeeper/timekeeperlaw10.FitBounds", spec := "fitBounds", unfollowed := true, recurses := true, apart := false, narrowed := true }
def FitBoundsUptoSaid : Prop := fitBoundsUptoRow.holds Try.pinned (OpenSpec.upto fitBoundsSpec)

/-- 'timekeeperlaw10.FitWidest', WHERE WHAT IT READS IS OF BULK AT MOST 1048576: true; the input reads as it did. -/
def fitWidestUptoRow : OpenClaim := { program := "ytldmkbmkjdnaaaa", sum := "b6e3c98c2173dccd3723318bc3f3e8505bb7b5f5c5d31d2850b26702777e2bb7", func := "timekeeper/timekeeperlaw10.FitWidest", spec := "fitWidest", unfollowed := true, recurses := true, apart := false, narrowed := true }
def FitWidestUptoSaid : Prop := fitWidestUptoRow.holds Try.pinned (OpenSpec.upto fitWidestSpec)

/-- 'timekeeperlaw10.FitLess', WHERE WHAT IT READS IS OF BULK AT MOST 1048576: true; the input reads as it did. -/
def fitLessUptoRow : OpenClaim := { program := "ytldmkbmkjdnaaaa", sum := "b6e3c98c2173dccd3723318bc3f3e8505bb7b5f5c5d31d2850b26702777e2bb7", func := "timekeeper/timekeeperlaw10.FitLess", spec := "fitLess", unfollowed := true, recurses := true, apart := false, narrowed := true }
def FitLessUptoSaid : Prop := fitLessUptoRow.holds Try.pinned (OpenSpec.upto fitLessSpec)

/-- 'timekeeperlaw10.FitEnds', WHERE WHAT IT READS IS OF BULK AT MOST 1048576: true; the input reads as it did. -/
def fitEndsUptoRow : OpenClaim := { program := "ytldmkbmkjdnaaaa", sum := "b6e3c98c2173dccd3723318bc3f3e8505bb7b5f5c5d31d2850b26702777e2bb7", func := "timekeeper/timekeeperlaw10.FitEnds", spec := "fitEnds", unfollowed := true, recurses := true, apart := false, narrowed := true }
def FitEndsUptoSaid : Prop := fitEndsUptoRow.holds Try.pinned (OpenSpec.upto fitEndsSpec)

end Rows
end Go.Proofs.Ytldmkbmkjdnaaaa
