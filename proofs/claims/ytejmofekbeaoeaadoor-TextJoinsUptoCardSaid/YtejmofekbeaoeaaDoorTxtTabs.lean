/- From what the rows list to the library's tables as the contracts ask for them; the witness's world. -/
import Derived.Test.YtejmofekbeaoeaaDoorRows
import Derived.Test.YtejmofekbeaoeaaDoorTxtMem
import Derived.PinnedBridge
import Derived.Lib.LaidU8T
import Derived.Lib.LaidTab
import Derived.Lay
namespace Go.Proofs.YtejmofekbeaoeaaDoor
open Go.ChangeShapes Go.WideShapes Go.ChangeAt Go.RowKit Go.Shelf Go.Lib
set_option linter.unusedVariables false

def laid5 : List (String × DataW Unit) := [("unicode/utf8.acceptRanges", Rows.laid_unicode_utf8_acceptRanges), ("unicode.properties", Rows.laid_unicode_properties), ("unicode.Digit", Rows.laid_unicode_Digit), ("unicode.Letter", Rows.laid_unicode_Letter), ("unicode/utf8.first", Rows.laid_unicode_utf8_first)]
set_option maxRecDepth 100000 in
theorem accept_eq : Rows.laid_unicode_utf8_acceptRanges = acceptData := by kernel_rfl
set_option maxRecDepth 100000 in
theorem props_eq : Rows.laid_unicode_properties = tabData (H := Unit) .u8 propertiesTab := by kernel_rfl
theorem xD : RExtra Tryd.prog Tryd.laysDigit_ren := ⟨by kernel_rfl, by kernel_rfl, by kernel_rfl, by kernel_rfl, by kernel_rfl, by kernel_rfl, by kernel_rfl, by kernel_rfl⟩
theorem xL : RExtra Tryd.prog Tryd.laysLetter_ren := ⟨by kernel_rfl, by kernel_rfl, by kernel_rfl, by kernel_rfl, by kernel_rfl, by kernel_rfl, by kernel_rfl, by kernel_rfl⟩
theorem gP : Tryd.prog.globalNamed "unicode.properties" = some 2 := by kernel_rfl
theorem gPT : (Tryd.prog.globals[2]?).map (·.type) = some 45 := by kernel_rfl
theorem cells256 : Tryd.prog.cellsOf 45 = 256 := by kernel_rfl
theorem cells1 : Tryd.prog.cellsOf 5 = 1 := by kernel_rfl
theorem tab_of_reads {W : World} {k : IntKind} {zs : List Int} (h : VarReads Tryd.prog W "unicode.properties" (tabData .u8 propertiesTab)) : Lib.TabIs Tryd.prog W "unicode.properties" .u8 propertiesTab := by
  obtain ⟨g', t', cs, fuel, p, hg', ht', hvar, hd⟩ := h
  obtain rfl := Option.some.inj (gP.symm.trans hg')
  obtain rfl := Option.some.inj (gPT.symm.trans ht')
  unfold Lib.TabIs
  rw [hvar, ← cells_of_tab Tryd.underlying45 Tryd.underlying5 cells1 cells256 hd]
theorem tabs_of {W : World} (hL : laidMet Tryd.prog laid5 W) : Tabs W := by
  have r0 := Lib.laidMet.reads hL (.head _)
  have r1 := Lib.laidMet.reads hL (.tail _ (.head _))
  have r2 := Lib.laidMet.reads hL (.tail _ (.tail _ (.head _)))
  have r3 := Lib.laidMet.reads hL (.tail _ (.tail _ (.tail _ (.head _))))
  have r4 := Lib.laidMet.reads hL (.tail _ (.tail _ (.tail _ (.tail _ (.head _)))))
  rw [accept_eq] at r0
  rw [props_eq] at r1
  rw [Rows.laid_unicode_Digit, Pinned.digit_eq] at r2
  rw [Rows.laid_unicode_Letter, Pinned.letter_eq] at r3
  rw [Rows.laid_unicode_utf8_first, Pinned.utf8First_eq] at r4
  exact ⟨utf8Tabs_of_readsT (U8Types.of196 Tryd.laysValid) ⟨by kernel_rfl, by kernel_rfl, by kernel_rfl, by kernel_rfl, by kernel_rfl, by kernel_rfl, by kernel_rfl⟩ r4 r0,
    tab_of_reads (k := .u8) (zs := []) r1,
    rvar_of_reads { Tryd.laysLetter with } xL (by kernel_rfl) (by kernel_rfl) r3,
    rvar_of_reads { Tryd.laysDigit with } xD (by kernel_rfl) (by kernel_rfl) r2⟩

end Go.Proofs.YtejmofekbeaoeaaDoor
