/-
  No cell of these rows narrows 'for every input' (looked for: loops, veiled, ifaces, maps, wideKeys, modest, calm, conditions, laid).
  DERIVED. THE GIVEN ROWS OF THIS SEAT. 6 by the template 'for every input the law returns true; each argument reads behind the call as it read before'; 0 by the template 'total and deterministic' (their statements: YtapojmniokdjfaaTotals.lean).
  GIVEN WITH THE SEED: the statements are not yours to turn. If you find one false, say at which input.
  Laid BY PROGRAM, IN A SANDBOX (cutbox-rows.mjs): the forced cells as the released guide's own fill.sh prints them over the translation b2620a3fca7b2199… (all of the seat's roots in one cut). By AI agents, Wed Nov 11 2026. No macro, syntax, notation, axiom, sorry.
-/
import Derived.Test.YtapojmniokdjfaaChecked
import GoSem.Claim
import GoSem.ClaimJoined
import GoSem.ClaimMapViews
import Derived.JoinedTies
import Derived.KernelRfl
namespace Go.Proofs.Ytapojmniokdjfaa
/- THE CELL 'sum', in the pinned program and in every row, IS THE sha256 OF THE DUMP (.gsa) THAT YtapojmniokdjfaaProg.lean LOADS. Nothing in Lean hashes anything: it is a label: what it is worth is what the hold of that sum in a sandbox is worth. -/
noncomputable def Try.pinned : Pinned := { name := "ytapojmniokdjfaa", sum := "b2620a3fca7b21993843f722ff33a8345b81d03bbbbe2d6270646a176458d32f", checked := Try.checked }
namespace Rows
def none {H : Type} : Left H := { results := [], args := [] }

/-- 'timekeeperlaw11.BookRoom': WHATEVER THE INPUT: true; the input reads as it did. -/
def bookRoomSpec : ChangeSpec := { name := "bookRoom", fn := fun _ => fun
  | [d1, d2, d3] => { results := [.lit (.bool true)], args := [d1, d2, d3] }
  | _ => none }
def bookRoomRow : OpenClaim := { program := "ytapojmniokdjfaa", sum := "b2620a3fca7b21993843f722ff33a8345b81d03bbbbe2d6270646a176458d32f", func := "timekeeper/timekeeperlaw11.BookRoom", spec := "bookRoom", unfollowed := true, recurses := true, apart := false }
def BookRoomSaid : Prop := bookRoomRow.holds Try.pinned (OpenSpec.ofChange bookRoomSpec)

/-- ITS FALSE NEIGHBOUR: 'it returns false'. Refute it at one input. -/
def bookRoomWrong : ChangeSpec := { name := "bookRoom", fn := fun _ => fun
  | [d1, d2, d3] => { results := [.lit (.bool false)], args := [d1, d2, d3] }
  | _ => none }
def BookRoomWrongFalsely : Prop := bookRoomRow.holds Try.pinned (OpenSpec.ofChange bookRoomWrong)

/-- 'timekeeperlaw11.BookBack': WHATEVER THE INPUT: true; the input reads as it did. -/
def bookBackSpec : ChangeSpec := { name := "bookBack", fn := fun _ => fun
  | [d1, d2, d3, d4] => { results := [.lit (.bool true)], args := [d1, d2, d3, d4] }
  | _ => none }
def bookBackRow : OpenClaim := { program := "ytapojmniokdjfaa", sum := "b2620a3fca7b21993843f722ff33a8345b81d03bbbbe2d6270646a176458d32f", func := "timekeeper/timekeeperlaw11.BookBack", spec := "bookBack", unfollowed := true, recurses := true, apart := false }
def BookBackSaid : Prop := bookBackRow.holds Try.pinned (OpenSpec.ofChange bookBackSpec)

/-- ITS FALSE NEIGHBOUR: 'it returns false'. Refute it at one input. -/
def bookBackWrong : ChangeSpec := { name := "bookBack", fn := fun _ => fun
  | [d1, d2, d3, d4] => { results := [.lit (.bool false)], args := [d1, d2, d3, d4] }
  | _ => none }
def BookBackWrongFalsely : Prop := bookBackRow.holds Try.pinned (OpenSpec.ofChange bookBackWrong)

/-- 'timekeeperlaw11.BookCopies': WHATEVER THE INPUT: true; the input reads as it did. -/
def bookCopiesSpec : ChangeSpec := { name := "bookCopies", fn := fun _ => fun
  | [d1, d2, d3, d4] => { results := [.lit (.bool true)], args := [d1, d2, d3, d4] }
  | _ => none }
def bookCopiesRow : OpenClaim := { program := "ytapojmniokdjfaa", sum := "b2620a3fca7b21993843f722ff33a8345b81d03bbbbe2d6270646a176458d32f", func := "timekeeper/timekeeperlaw11.BookCopies", spec := "bookCopies", inPlace := ["maps.clone"], unfollowed := true, recurses := true, apart := false }
def BookCopiesSaid : Prop := bookCopiesRow.holds Try.pinned (OpenSpec.ofChange bookCopiesSpec)

/-- ITS FALSE NEIGHBOUR: 'it returns false'. Refute it at one input. -/
def bookCopiesWrong : ChangeSpec := { name := "bookCopies", fn := fun _ => fun
  | [d1, d2, d3, d4] => { results := [.lit (.bool false)], args := [d1, d2, d3, d4] }
  | _ => none }
def BookCopiesWrongFalsely : Prop := bookCopiesRow.holds Try.pinned (OpenSpec.ofChange bookCopiesWrong)

/-- 'timekeeperlaw11.BookOuts': WHATEVER THE INPUT: true; the input reads as it did. -/
def bookOutsSpec : ChangeSpec := { name := "bookOuts", fn := fun _ => fun
  | [d1, d2, d3, d4, d5] => { results := [.lit (.bool true)], args := [d1, d2, d3, d4, d5] }
  | _ => none }
def bookOutsRow : OpenClaim := { program := "ytapojmniokdjfaa", sum := "b2620a3fca7b21993843f722ff33a8345b81d03bbbbe2d6270646a176458d32f", func := "timekeeper/timekeeperlaw11.BookOuts", spec := "bookOuts", unfollowed := true, recurses := true, apart := false }
def BookOutsSaid : Prop := bookOutsRow.holds Try.pinned (OpenSpec.ofChange bookOutsSpec)

/-- ITS FALSE NEIGHBOUR: 'it returns false'. Refute it at one input. -/
def bookOutsWrong : ChangeSpec := { name := "bookOuts", fn := fun _ => fun
  | [d1, d2, d3, d4, d5] => { results := [.lit (.bool false)], args := [d1, d2, d3, d4, d5] }
  | _ => none }
def BookOutsWrongFalsely : Prop := bookOutsRow.holds Try.pinned (OpenSpec.ofChange bookOutsWrong)

/-- 'timekeeperlaw11.BookCuts': WHATEVER THE INPUT: true; the input reads as it did. -/
def bookCutsSpec : ChangeSpec := { name := "bookCuts", fn := fun _ => fun
  | [d1, d2, d3, d4, d5] => { results := [.lit (.bool true)], args := [d1, d2, d3, d4, d5] }
  | _ => none }
def bookCutsRow : OpenClaim := { program := "ytapojmniokdjfaa", sum := "b2620a3fca7b21993843f722ff33a8345b81d03bbbbe2d6270646a176458d32f", func := "timekeeper/timekeeperlaw11.BookCuts", spec := "bookCuts", unfollowed := true, recurses := true, apart := false }
def BookCutsSaid : Prop := bookCutsRow.holds Try.pinned (OpenSpec.ofChange bookCutsSpec)

/-- ITS FALSE NEIGHBOUR: 'it returns false'. Refute it at one input. -/
def bookCutsWrong : ChangeSpec := { name := "bookCuts", fn := fun _ => fun
  | [d1, d2, d3, d4, d5] => { results := [.lit (.bool false)], args := [d1, d2, d3, d4, d5] }
  | _ => none }
def BookCutsWrongFalsely : Prop := bookCutsRow.holds Try.pinned (OpenSpec.ofChange bookCutsWrong)

/-- 'timekeeperlaw11.BookNew': WHATEVER THE INPUT: true; the input reads as it did. -/
def bookNewSpec : ChangeSpec := { name := "bookNew", fn := fun _ => fun
  | [d1, d2, d3] => { results := [.lit (.bool true)], args := [d1, d2, d3] }
  | _ => none }
def bookNewRow : OpenClaim := { program := "ytapojmniokdjfaa", sum := "b2620a3fca7b21993843f722ff33a8345b81d03bbbbe2d6270646a176458d32f", func := "timekeeper/timekeeperlaw11.BookNew", spec := "bookNew", unfollowed := true, recurses := true, apart := false }
def BookNewSaid : Prop := bookNewRow.holds Try.pinned (OpenSpec.ofChange bookNewSpec)

/-- ITS FALSE NEIGHBOUR: 'it returns false'. Refute it at one input. -/
def bookNewWrong : ChangeSpec := { name := "bookNew", fn := fun _ => fun
  | [d1, d2, d3] => { results := [.lit (.bool false)], args := [d1, d2, d3] }
  | _ => none }
def BookNewWrongFalsely : Prop := bookNewRow.holds Try.pinned (OpenSpec.ofChange bookNewWrong)

/- THE SECOND FORM. 'bulk': how many values and letters a reading holds, each counted each time it is reached (what is shared counts as often as it is met; a slice's spare places count too). A statement '..UptoSaid' is the law's where the arguments, and the package variables that the reading takes, are together of bulk at most 1048576: NARROWER than '..Said'. Prove '..Said' where nothing that the law and all that it calls make is longer than what came in: it says more and counts as full. Else prove '..UptoSaid'. A law counts once. -/
mutual
def uptoBulk {H : Type} : DataW H → Nat
  | .lit (.string bytes) => bytes.length + 1
  | .lit _ => 1
  | .nil => 1
  | .ptr d => uptoBulk d + 1
  | .slice elems spare => uptoBulkAll elems + uptoBulkAll spare + 1
  | .agg parts => uptoBulkAll parts + 1
  | .iface _ d => uptoBulk d + 1
  | .map entries => uptoBulkEntries entries + 1
  | .held _ => 1
def uptoBulkAll {H : Type} : List (DataW H) → Nat
  | [] => 0
  | d :: r => uptoBulk d + uptoBulkAll r
def uptoBulkEntries {H : Type} : List (Lit × DataW H) → Nat
  | [] => 0
  | x :: r => uptoBulkEntry x + uptoBulkEntries r
def uptoBulkEntry {H : Type} : Lit × DataW H → Nat
  | (.string bytes, d) => bytes.length + uptoBulk d + 1
  | (_, d) => uptoBulk d + 1
 end
def uptoSmall : (H : Type) → List (DataW H) → Bool := fun _ ds => decide (uptoBulkAll ds ≤ 1048576)
def OpenSpec.upto (s : _root_.Go.ChangeSpec) : _root_.Go.OpenSpec := { _root_.Go.OpenSpec.ofChange s with cond := some uptoSmall }

/-- 'timekeeperlaw11.BookRoom', WHERE WHAT IT READS IS OF BULK AT MOST 1048576: true; the input reads as it did. -/
def bookRoomUptoRow : OpenClaim := { program := "ytapojmniokdjfaa", sum := "b2620a3fca7b21993843f722ff33a8345b81d03bbbbe2d6270646a176458d32f", func := "timekeeper/timekeeperlaw11.BookRoom", spec := "bookRoom", unfollowed := true, recurses := true, apart := false, narrowed := true }
def BookRoomUptoSaid : Prop := bookRoomUptoRow.holds Try.pinned (OpenSpec.upto bookRoomSpec)

/-- 'timekeeperlaw11.BookBack', WHERE WHAT IT READS IS OF BULK AT MOST 1048576: true; the input reads as it did. -/
def bookBackUptoRow : OpenClaim := { program := "ytapojmniokdjfaa", sum := "b2620a3fca7b21993843f722ff33a8345b81d03bbbbe2d6270646a176458d32f", func := "timekeeper/timekeeperlaw11.BookBack", spec := "bookBack", unfollowed := true, recurses := true, apart := false, narrowed := true }
def BookBackUptoSaid : Prop := bookBackUptoRow.holds Try.pinned (OpenSpec.upto bookBackSpec)

/-- 'timekeeperlaw11.BookCopies', WHERE WHAT IT READS IS OF BULK AT MOST 1048576: true; the input reads as it did. -/
def bookCopiesUptoRow : OpenClaim := { program := "ytapojmniokdjfaa", sum := "b2620a3fca7b21993843f722ff33a8345b81d03bbbbe2d6270646a176458d32f", func := "timekeeper/timekeeperlaw11.BookCopies", spec := "bookCopies", inPlace := ["maps.clone"], unfollowed := true, recurses := true, apart := false, narrowed := true }
def BookCopiesUptoSaid : Prop := bookCopiesUptoRow.holds Try.pinned (OpenSpec.upto bookCopiesSpec)

/-- 'timekeeperlaw11.BookOuts', WHERE WHAT IT READS IS OF BULK AT MOST 1048576: true; the input reads as it did. -/
def bookOutsUptoRow : OpenClaim := { program := "ytapojmniokdjfaa", sum := "b2620a3fca7b21993843f722ff33a8345b81d03bbbbe2d6270646a176458d32f", func := "timekeeper/timekeeperlaw11.BookOuts", spec := "bookOuts", unfollowed := true, recurses := true, apart := false, narrowed := true }
def BookOutsUptoSaid : Prop := bookOutsUptoRow.holds Try.pinned (OpenSpec.upto bookOutsSpec)

/-- 'timekeeperlaw11.BookCuts', WHERE WHAT IT READS IS OF BULK AT MOST 1048576: true; the input reads as it did. -/
def bookCutsUptoRow : OpenClaim := { program := "ytapojmniokdjfaa", sum := "b2620a3fca7b21993843f722ff33a8345b81d03bbbbe2d6270646a176458d32f", func := "timekeeper/timekeeperlaw11.BookCuts", spec := "bookCuts", unfollowed := true, recurses := true, apart := false, narrowed := true }
def BookCutsUptoSaid : Prop := bookCutsUptoRow.holds Try.pinned (OpenSpec.upto bookCutsSpec)

/-- 'timekeeperlaw11.BookNew', WHERE WHAT IT READS IS OF BULK AT MOST 1048576: true; the input reads as it did. -/
def bookNewUptoRow : OpenClaim := { program := "ytapojmniokdjfaa", sum := "b2620a3fca7b21993843f722ff33a8345b81d03bbbbe2d6270646a176458d32f", func := "timekeeper/timekeeperlaw11.BookNew", spec := "bookNew", unfollowed := true, recurses := true, apart := false, narrowed := true }
def BookNewUptoSaid : Prop := bookNewUptoRow.holds Try.pinned (OpenSpec.upto bookNewSpec)

end Rows
end Go.Proofs.Ytapojmniokdjfaa
