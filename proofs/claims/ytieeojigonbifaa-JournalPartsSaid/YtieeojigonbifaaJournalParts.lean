/- JournalParts: for any slice of slices of bytes, any uint16 and any byte, the law returns true, and all read afterwards as before. No condition. -/
import Derived.Test.YtieeojigonbifaaRows
import Derived.Test.YtieeojigonbifaaJrnSized
import Derived.Test.YtieeojigonbifaaJrnSet
import Derived.WalkKit
import Derived.ProofKit
import Derived.OpenShut
import Derived.ShutString
import Derived.ChangeOld
import Derived.Below
namespace Go.Proofs.Ytieeojigonbifaa
open Go.ChangeShapes Go.WideShapes Go.ChangeAt Go.RowKit
set_option linter.unusedVariables false

set_option maxRecDepth 100000 in
set_option maxHeartbeats 1600000 in
theorem walk_JournalParts (w : World) (A : Option Addr) (c : Nat) (ls : List (List Int)) (h : Rws w (fun _ => True) A c ls) (hsz : ∀ xs ∈ ls, xs.length ≤ 140737488351232) (at_ : Int) (wat : (Lit.int .u16 at_).wf = true) (z : Int) (wz : (Lit.int .u8 z).wf = true) :
    Calls Try.prog 9 #[.slice A ls.length c, .int .u16 at_, .int .u8 z] w fun e w' => e = .returned (.bool true) ∧ Below w.heap.size w w' := by
  have hl : ls.length ≤ 9223372036854775807 := Nat.le_trans h.cap h.top
  have H := Lib.hid h; clear h
  have HSZ := Lib.hid hsz; clear hsz
  have ha0 := (wf_u16 wat).1
  have ha1 := (wf_u16 wat).2
  have hz0 := (wf_u8 wz).1
  have hz1 := (wf_u8 wz).2
  clear wat wz
  go_enter Try.func9, Try.ntmps9
  go_wp2
  go_loopw [7, 8] (fun f i wr => ∃ (k : Nat) (l : List Int) (A1 : Option Addr) (c1 : Nat), k ≤ ls.length ∧ i = .int .i64 k ∧ f = .slice A1 l.length c1 ∧ l.length ≤ 3000 ∧ Hid (l = (ls.take k).flatten) ∧ Hid (OwnB wr w.heap.size (.slice A1 l.length c1) l) ∧ Hid (Below w.heap.size w wr)) (fun _ i _ => ls.length - (intOf i).toNat)
  case atStart => exact ⟨0, [], none, 0, Nat.zero_le _, rfl, rfl, by simp, Lib.hid (by simp), Lib.hid (OwnB.nil _ _), Lib.hid (Below.refl _ _)⟩
  case round =>
    obtain ⟨k, l, A1, c1, hk, rfl, rfl, hl1, EL, HO, HW⟩ := hrel
    by_cases hlt : k < ls.length
    · obtain ⟨b, off, A', c', x, rfl, _, hx, hc, hB⟩ := (H.out.below HW.out).at_ hlt
      have hxl := HSZ.out x (List.mem_of_getElem? hx)
      have HX := Lib.hid hx; clear hx
      have HB := Lib.hid hB; clear hB
      by_cases hbig : 3000 < l.length + x.length
      · go_wp2_with fail
        refine (known_any _).mono ?_
        rintro e w' ⟨rfl, hw⟩
        go_wp2
        go_ret
        exact ⟨rfl, blw HW.out hw⟩
      · go_wp2_with (at_builtin; refine wpList_appb rfl _ _ rfl w.heap.size (.slice A1 l.length c1) l rfl HO.out A' c' x.length (fun _ => True) x rfl rfl HB.out (by omega) HW.out.size ?_; intro l3 A3 c3 w3 el3 ho3 hg3 hb3 hw3; have EL3 := Lib.hid el3; clear el3)
        go_roundw
        case rel =>
          refine ⟨k + 1, l3, A3, c3, by omega, by go_num, rfl, by rw [EL3.out, List.length_append]; omega, Lib.hid ?_, Lib.hid ho3, Lib.hid (HW.out.trans hw3)⟩
          rw [EL3.out, EL.out, flat_snoc HX.out]
        case measure => simp [intOf]; omega
    · have EF : Hid (l = ls.flatten) := Lib.hid (by have := EL.out; rwa [List.take_of_length_le (by omega)] at this)
      obtain ⟨s, hs⟩ : ∃ s, sumA l = s := ⟨_, rfl⟩
      have hs1 : 0 ≤ s ∧ s ≤ 4294967295 := by rw [← hs]; exact sumA_bd _
      have hs2 := hs1.1
      have hs3 := hs1.2
      clear hs1
      have HS := Lib.hid hs; clear hs
      have HBL := Lib.hid (byts_of HO.out)
      go_wp2_with fail
      refine (sum_at (fun _ => True) _ _ _ ls s _ (H.out.below HW.out) rfl (by rw [← EF.out]; exact HS.out)).mono ?_
      rintro e w1 ⟨rfl, rfl⟩
      go_wp2_with fail
      refine (rsum_any _ _ _ l _ HBL.out (by omega)).mono ?_
      rintro e w1 ⟨rfl, rfl⟩
      rw [HS.out]
      go_wp2_with fail
      refine (sum_at (fun _ => True) _ _ _ [l] s _ (Rws.one HBL.out rfl rfl trivial) rfl (by rw [← HS.out]; simp)).mono ?_
      rintro e w1 ⟨rfl, rfl⟩
      have HW1 := Lib.hid (HW.out.alloc HW.out.size (.cells #[.slice A1 l.length c1] 22))
      have HO1 := Lib.hid (HO.out.alloc (.cells #[.slice A1 l.length c1] 22))
      generalize wr.alloc (.cells #[.slice A1 l.length c1] 22) = wq at HW1 HO1 ⊢
      by_cases hl0 : l.length = 0
      · have HL0 := Lib.hid hl0
        have hl00 : (l.length : Int) = 0 := by omega
        clear hl0
        go_wp2_with fail
        refine (known_any _).mono ?_
        rintro e w' ⟨rfl, hw⟩
        go_wp2
        go_ret
        exact ⟨rfl, blw HW1.out hw⟩
      by_cases hx0 : z = 0
      · subst hx0
        go_wp2_with fail
        refine (known_any _).mono ?_
        rintro e w' ⟨rfl, hw⟩
        go_wp2
        go_ret
        exact ⟨rfl, blw HW1.out hw⟩
      have hlp : 0 < l.length := by omega
      have en1 : ((l.length : Int) == 0) = false := by rw [beq_eq_false_iff_ne]; omega
      have en2 : (z == 0) = false := by rw [beq_eq_false_iff_ne]; exact hx0
      have hzp : 0 < z := by omega
      have HX0 := Lib.hid hx0
      clear hl0 hx0
      obtain ⟨i, hi, hil⟩ := emod_nat (a := at_) (n := l.length) hlp
      have HI := Lib.hid hi
      go_wp2_with fail
      refine (rcopy_any _ _ _ l _ _ (byts_of HO1.out) rfl (by omega)).mono ?_
      rintro e w2 ⟨A2, c2, rfl, ho2, hw2⟩
      have HW2 := Lib.hid (blw HW1.out hw2)
      have HZ := Lib.hid HW1.out.size
      have HO2 := Lib.hid ho2; clear ho2
      obtain ⟨x, hx⟩ := getElem_some hil
      obtain ⟨g, off, rfl, hg0, hg1, _, hcell, hfz, hx0', hx1', hset⟩ := own_at HO2.out hx
      have HG0 := Lib.hid (Nat.le_trans HW1.out.size hg0)
      have HSET := Lib.hid hset; clear hset
      obtain ⟨y, hy⟩ : ∃ y, bits .xor .u8 x z = y := ⟨_, rfl⟩
      have hyb : 0 ≤ y ∧ y ≤ 255 := by rw [← hy]; exact xor_bd ⟨hx0', hx1'⟩ ⟨hz0, hz1⟩
      have hne : y ≠ x := by rw [← hy]; exact xor_ne ⟨hx0', hx1'⟩ ⟨hz0, hz1⟩ HX0.out
      have HNE : Hid (sumA (l.set i y) ≠ s) := Lib.hid (by rw [← HS.out]; exact sumA_set hx ⟨hx0', hx1'⟩ hyb hne)
      obtain ⟨s', hs'⟩ : ∃ s', sumA (l.set i y) = s' := ⟨_, rfl⟩
      have hse : s' ≠ s := by rw [← hs']; exact HNE.out
      have e1 : (s' == s) = false := by rw [beq_eq_false_iff_ne]; exact hse
      have e2 : (s' != s) = true := by rw [bne_iff_ne]; exact hse
      have HS' := Lib.hid hs'; clear hs'
      have HYB := Lib.hid hyb
      have hy0 := hyb.1
      have hy1 := hyb.2
      clear hyb hne hg0 hg1 hx
      have hcell2 : w2.drew.cell? ⟨g, off + i, none⟩ = some (.int .u8 x) := hcell
      have hfz2 : w2.drew.frozen? ⟨g, off + i, none⟩ = false := hfz
      go_wp2_with fail
      go_region
      have HO3 : Hid (OwnB (w2.setCell ⟨g, off + i, none⟩ (.int .u8 y)).drew wq.heap.size (.slice (some ⟨g, off, none⟩) l.length c2) (l.set i y)) := Lib.hid ((HSET.out y HYB.out).keep fun _ _ => rfl)
      have HW3 : Hid (Below w.heap.size w (w2.setCell ⟨g, off + i, none⟩ (.int .u8 y)).drew) := Lib.hid ((HW2.out.setCell HG0.out _).drew)
      generalize (w2.setCell ⟨g, off + i, none⟩ (.int .u8 y)).drew = w3 at HO3 HW3 ⊢
      clear hcell hfz hcell2 hfz2 hy
      go_wp2_with fail
      refine (sum_at (fun _ => True) _ _ _ [l.set i y] s' _ (Rws.one (byts_of HO3.out) (by rw [List.length_set]) rfl trivial) rfl (by rw [← HS'.out]; simp)).mono ?_
      rintro e w4 ⟨rfl, rfl⟩
      go_wp2_with fail
      refine (known_any _).mono ?_
      rintro e w4 ⟨rfl, hw4⟩
      go_wp2
      go_ret
      exact ⟨rfl, blw (HW3.out.alloc HW3.out.size _) hw4⟩

namespace journalParts
open Go.ChangeShapes Go.WideShapes Go.ChangeAt Go.RowKit
theorem own : ownKnob Try.prog.godebug = none := by kernel_rfl
theorem laidOut : laidOutB Try.prog = true := by kernel_rfl

set_option maxRecDepth 100000 in
theorem lifted (os : Os) (started : os.Started) (H : Type) (enc : TypeId × Value → H) :
    ReturnsInHanded {} Try.checked os 9 .any (Rows.journalPartsSpec.pre6 enc Try.prog Try.f9 Rows.journalPartsRow.domain false) (Rows.journalPartsSpec.post enc Try.prog Try.f9 false true false false) := by
  refine returnsInHanded_of_change_sized (C := Try.checked) own started (by kernel_rfl) Try.func9
    (ChangeSpec.witness6 (enc := enc) (C := Try.checked) false ⟨#[], #[.slice none 0 0, .int .u16 0, .int .u8 0], []⟩ 8 (by kernel_rfl) (by kernel_rfl) (by kernel_rfl) (by kernel_rfl)) ?_
  intro W base args ds gs before hval0 hW hcnd hsz _
  have hval : ∀ (j : Nat) t v, Try.f9.params[j]? = some t → args[j]? = some v → Value.okWide Try.prog W .any base t v := hval0
  have hW' := hW
  obtain ⟨p, q, hA0, hV, rfl, hfz, hnd⟩ := hW
  have hA : DataW.TrodAll enc Try.prog W 0 (fun _ => true) true Try.f9.params.toList args.toList ds p := hA0
  rw [Try.params9] at hA hval
  obtain ⟨v0, vs0, d0, ds0, p0, q0, hargs, rfl, rfl, h0, r0⟩ := trodAll_cons hA
  obtain ⟨v1, vs1, d1, ds1, p1, q1, rfl, rfl, rfl, h1, r1⟩ := trodAll_cons r0
  obtain ⟨v2, vs2, d2, ds2, p2, q2, rfl, rfl, rfl, h2, r2⟩ := trodAll_cons r1
  obtain ⟨rfl, rfl, rfl⟩ := trodAll_nil r2
  obtain rfl : args = #[v0, v1, v2] := by cases args; simp_all
  obtain ⟨rfl, rfl⟩ := trodVars_none hV
  have k0 := h0
  have lt0 : ∀ x ∈ p0, x.block < W.heap.size := by obtain ⟨m, hm⟩ := k0; exact DataW.trod_lt m _ _ _ hm
  obtain ⟨A0, l0, c0, e0⟩ := okWide_slice Try.underlying34 (hval 0 34 v0 rfl rfl)
  obtain ⟨fuel0, hf0⟩ := h0
  rw [show v0.cells.toList = [v0] from by rw [e0]; rfl] at hf0
  clear e0 A0 l0 c0
  obtain ⟨A0, c0, z0, rfl, w0, b0⟩ := rows_arg hf0
  have s0 := rows_sized hf0 (weights_at hsz (j := 0) (t := 34) rfl rfl) rfl w0
  obtain ⟨a1, rfl, rfl, rfl, w1⟩ := open_int Try.underlying50 (hval 1 50 v1 rfl rfl) h1
  obtain ⟨a2, rfl, rfl, rfl, w2⟩ := open_int Try.underlying5 (hval 2 5 v2 rfl rfl) h2
  clear hA0 hval0
  refine (walk_JournalParts W A0 c0 z0 w0 s0 a1 w1 a2 w2).mono fun e W' ⟨he, bel⟩ => ?_
  subst he
  exact ⟨_, rfl, _, _, _, [], _, [], hW', trodAll_mk1 (shut_bool Try.underlying4 _), (trodAll_cons_mk (Below.trod laidOut (by kernel_rfl) (of_decide_eq_true (by kernel_rfl)) k0 bel lt0) (trodAll_cons_mk (shut_int Try.underlying50 w1) (trodAll_cons_mk (shut_int Try.underlying5 w2) trodAll_mk0))), rfl, bel.frame _, fun h => by cases h⟩

theorem over : Rows.journalPartsRow.holds Try.pinned (OpenSpec.ofChange Rows.journalPartsSpec) :=
  OpenClaim.holds_of_wide 9 Try.f9 rfl rfl rfl rfl rfl rfl rfl ⟨rfl, rfl, rfl, rfl, rfl⟩ rfl rfl rfl rfl rfl (by kernel_rfl) Try.func9 (by kernel_rfl)
    (of_decide_eq_true (by kernel_rfl)) (by unfold Func.isWrapper; first | (rw [if_pos (by decide +kernel)]; kernel_rfl) | (rw [if_neg (by decide +kernel)]; exact ⟨rfl, rfl⟩))
    (fun os started H enc _ => lifted os started H enc)

theorem proved : Rows.JournalPartsSaid := over
#print axioms proved
end journalParts
end Go.Proofs.Ytieeojigonbifaa
