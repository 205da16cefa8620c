/- JournalHurt: for any slice of slices of bytes, any uint16 and any byte, the law returns true, and all read afterwards as before. Condition: the second form's (what is read holds at most 1048576 values and letters). -/
import Derived.Test.YtieeojigonbifaaRows
import Derived.Test.YtieeojigonbifaaJrnArg
import Derived.Test.YtieeojigonbifaaJrnCnt
import Derived.WalkKit
import Derived.ProofKit
import Derived.OpenShut
import Derived.ShutString
import Derived.ChangeOld
import Derived.Below
import Derived.JoinedCond
namespace Go.Proofs.Ytieeojigonbifaa
open Go.ChangeShapes Go.WideShapes Go.ChangeAt Go.RowKit
set_option linter.unusedVariables false

set_option maxRecDepth 100000 in
set_option maxHeartbeats 1600000 in
theorem walk_JournalHurt (w : World) (A : Option Addr) (c : Nat) (ls : List (List Int)) (h : Rws w (fun _ => True) A c ls) (at_ : Int) (wat : (Lit.int .u16 at_).wf = true) (z : Int) (wz : (Lit.int .u8 z).wf = true) (hsum : cnt ls ≤ 1048576) :
    Calls Try.prog 7 #[.slice A ls.length c, .int .u16 at_, .int .u8 z] w fun e w' => e = .returned (.bool true) ∧ Below w.heap.size w w' := by
  have hl : ls.length ≤ 9223372036854775807 := Nat.le_trans h.cap h.top
  have hszc := sz_cnt ls
  have HBT := Lib.hid h.bts
  have HSZ : Hid (sz ls ≤ 9000000000000000000) := Lib.hid (by omega)
  have H := Lib.hid h; clear h
  have ha0 := (wf_u16 wat).1
  have ha1 := (wf_u16 wat).2
  have hz0 := (wf_u8 wz).1
  have hz1 := (wf_u8 wz).2
  clear wat wz hszc
  by_cases hbig : 2000 < sz ls
  · have HBIG := Lib.hid hbig; clear hbig
    go_enter Try.func7, Try.ntmps7
    go_wp2_with fail
    refine (long_at _ _ _ _ ls _ H.out rfl HSZ.out true (decide_eq_true HBIG.out)).mono ?_
    rintro e w1 ⟨rfl, rfl⟩
    go_wp2_with fail
    refine (known_any _).mono ?_
    rintro e w' ⟨rfl, hw⟩
    go_wp2
    go_ret
    exact ⟨rfl, hw⟩
  have HBIG := Lib.hid hbig; clear hbig
  by_cases hl0 : ls.length = 0
  · have hl00 : (ls.length : Int) = 0 := by omega
    have en1 : ((ls.length : Int) == 0) = true := by rw [beq_iff_eq]; exact hl00
    clear hl0
    go_enter Try.func7, Try.ntmps7
    go_wp2_with fail
    refine (long_at _ _ _ _ ls _ H.out rfl HSZ.out false (decide_eq_false HBIG.out)).mono ?_
    rintro e w1 ⟨rfl, rfl⟩
    go_wp2_with fail
    refine (known_any _).mono ?_
    rintro e w' ⟨rfl, hw⟩
    go_wp2
    go_ret
    exact ⟨rfl, hw⟩
  have en1 : ((ls.length : Int) == 0) = false := by rw [beq_eq_false_iff_ne]; omega
  have hlp : 0 < ls.length := by omega
  clear hl0
  by_cases hx0 : z = 0
  · subst hx0
    go_enter Try.func7, Try.ntmps7
    go_wp2_with fail
    refine (long_at _ _ _ _ ls _ H.out rfl HSZ.out false (decide_eq_false HBIG.out)).mono ?_
    rintro e w1 ⟨rfl, rfl⟩
    go_wp2_with fail
    refine (known_any _).mono ?_
    rintro e w' ⟨rfl, hw⟩
    go_wp2
    go_ret
    exact ⟨rfl, hw⟩
  have en2 : (z == 0) = false := by rw [beq_eq_false_iff_ne]; exact hx0
  have hzp : 0 < z := by omega
  have HX0 := Lib.hid hx0
  clear hx0
  have HREC : Hid (Recs ls) := Lib.hid (recs_of HBT.out (by have := HBIG.out; omega))
  obtain ⟨l, el⟩ : ∃ l, frames ls = l := ⟨_, rfl⟩
  have hll : l.length = sz ls := by rw [← el, frames_len]
  have hl1 : 0 < l.length := by
    rw [hll]
    match ls, hlp with
    | x :: r, _ => simp only [sz]; omega
  have hl2 : l.length ≤ 2000 := by have := HBIG.out; omega
  have HLL := Lib.hid hll
  have EL := Lib.hid el
  clear el hll
  obtain ⟨i, hi, hil⟩ := emod_nat (a := at_) (n := l.length) hl1
  obtain ⟨x, hx⟩ := getElem_some hil
  obtain ⟨y, hy⟩ : ∃ y, bits .xor .u8 x z = y := ⟨_, rfl⟩
  have hxb : 0 ≤ x ∧ x ≤ 255 := by have := frames_bts HREC.out; rw [EL.out] at this; exact this x (List.mem_of_getElem? hx)
  have hyb : 0 ≤ y ∧ y ≤ 255 := by rw [← hy]; exact xor_bd hxb ⟨hz0, hz1⟩
  have hne : y ≠ x := by rw [← hy]; exact xor_ne hxb ⟨hz0, hz1⟩ HX0.out
  obtain ⟨l', el'⟩ : ∃ l', l.set i y = l' := ⟨_, rfl⟩
  have hll' : l'.length = l.length := by rw [← el', List.length_set]
  obtain ⟨rs, to, ev, hs⟩ : ∃ rs to ev, scan l' = (rs, to, ev) := ⟨_, _, _, rfl⟩
  have HS := Lib.hid hs
  -- what is read, where no length is hurt
  have HURT : Hid (∀ (k : Nat), k < ls.length → sz (ls.take k) + 4 ≤ i → i < sz (ls.take (k + 1)) → rs = ls.take k ∧ to = sz (ls.take k) ∧ ev = 30) := Lib.hid (by
    intro k hk h4 h8
    obtain ⟨q, hq⟩ := getElem_some hk
    rw [take_snoc_r hq, sz_snoc] at h8
    have e0 : ls.take k ++ q :: ls.drop (k + 1) = ls := by
      have hd : ls.drop k = q :: ls.drop (k + 1) := by
        rw [List.drop_eq_getElem_cons hk]
        have := (List.getElem?_eq_some_iff.1 hq).2
        rw [this]
      rw [← hd, List.take_append_drop]
    have := scan_hurt (pre := ls.take k) (post := ls.drop (k + 1)) (x := q) (HREC.out.take k) (HREC.out q (List.mem_of_getElem? hq)) (k := i) (o := x) (y := y) h4 h8 (by rw [e0, EL.out]; exact hx) hyb hne
    rw [e0, EL.out, el', hs] at this
    injection this with h1 h2
    injection h2 with h2 h3
    exact ⟨h1, h2, h3⟩)
  have HSET' := Lib.hid el'
  have HYB := Lib.hid hyb
  have HXX := Lib.hid hx
  clear hs hx hne hyb el' HX0
  have hll2 : l'.length ≤ 2000 := by omega
  have HLL' := Lib.hid hll'
  clear hll'
  go_enter Try.func7, Try.ntmps7
  go_wp2_with fail
  refine (long_at _ _ _ _ ls _ H.out rfl HSZ.out false (decide_eq_false HBIG.out)).mono ?_
  rintro e w1 ⟨rfl, rfl⟩
  go_wp2_with fail
  refine (rframes_any _ _ _ _ ls _ H.out rfl HREC.out (by have := HBIG.out; omega)).mono ?_
  rw [EL.out]
  rintro e w2 ⟨A2, c2, rfl, ho2, hw2⟩
  have HO2 := Lib.hid ho2; clear ho2
  obtain ⟨g, off, rfl, hg0, hg1, _, hcell, hfz, _, _, hset⟩ := own_at HO2.out HXX.out
  have HG0 := Lib.hid hg0
  have HW2 := Lib.hid hw2
  have HSET := Lib.hid hset; clear hset hg0 hw2
  have HO3 : Hid (OwnB (w2.setCell ⟨g, off + i, none⟩ (.int .u8 y)) w.heap.size (.slice (some ⟨g, off, none⟩) l.length c2) l') := Lib.hid (by rw [← HSET'.out]; exact HSET.out y HYB.out)
  have HW3 : Hid (Below w.heap.size w (w2.setCell ⟨g, off + i, none⟩ (.int .u8 y))) := Lib.hid (HW2.out.setCell HG0.out _)
  have HIL := Lib.hid hil
  go_wp2_with fail
  generalize w2.setCell ⟨g, off + i, none⟩ (.int .u8 y) = w3 at HO3 HW3 ⊢
  clear hcell hfz hy
  refine (scan_at _ _ _ _ l' _ rs to ev (byts_of HO3.out) HLL'.out (by omega) HS.out).mono ?_
  rintro e w4 ⟨A4, c4, rfl, ho4, hw4⟩
  have HO4 := Lib.hid ho4; clear ho4
  have HW4 := Lib.hid (blw HW3.out hw4)
  go_wp2
  go_loopw [12, 13, 14] (fun n f i' wr => ∃ (k : Nat) (v : Int), k ≤ ls.length ∧ i' = .int .i64 k ∧ n = .int .i64 k ∧ f = .int .i64 v ∧ 0 ≤ v ∧ v ≤ (i : Int) ∧ wr = w4 ∧ Hid (v = (sz (ls.take k) : Int))) (fun _ _ i' _ => ls.length - (intOf i').toNat)
  case atStart => exact ⟨0, 0, Nat.zero_le _, rfl, rfl, rfl, by omega, by omega, rfl, Lib.hid (by simp [sz])⟩
  case round =>
    obtain ⟨k, v, hk, rfl, rfl, rfl, hv0, hv1, rfl, hv⟩ := hrel
    by_cases hlt : k < ls.length
    · have hcap := H.out.cap
      have HRO := Lib.hid (H.out.below HW4.out)
      obtain ⟨b, off2, A', c', q, rfl, _, hq, hc, hB⟩ := HRO.out.at_ hlt
      have e1 : v + 8 + (q.length : Int) = (sz (ls.take (k + 1)) : Int) := by rw [take_snoc_r hq, sz_snoc]; have := hv.out; omega
      have e2 : sz (ls.take (k + 1)) ≤ sz ls := by
        have := sz_app (ls.take (k + 1)) (ls.drop (k + 1))
        rw [List.take_append_drop] at this; omega
      have e3 : v + 8 + (q.length : Int) ≤ 2000 := by have := HBIG.out; omega
      have E1 := Lib.hid e1; clear e1 e2 hB hq
      by_cases hle : v + 8 + (q.length : Int) ≤ (i : Int)
      · go_wp2
        go_roundw
        case rel => exact ⟨k + 1, v + 8 + (q.length : Int), by omega, by go_num, by go_num, by go_num, by omega, by omega, trivial, Lib.hid E1.out⟩
        case measure => simp [intOf]; omega
      · by_cases h4 : (i : Int) < v + 4
        · go_wp2_with fail
          refine (known_any _).mono ?_
          rintro e w6 ⟨rfl, hw6⟩
          go_wp2
          go_ret
          exact ⟨rfl, blw HW4.out hw6⟩
        · obtain ⟨h1, h2, h3⟩ := HURT.out k hlt (by have := hv.out; omega) (by have := E1.out; omega)
          have hrl : rs.length = k := by rw [h1, List.length_take]; omega
          have hto : v = (to : Int) := by rw [h2]; exact hv.out
          have HS' : Hid (sameL rs (ls.take k) = true) := Lib.hid (by rw [h1]; simp [sameL])
          have HK : Hid ((ls.take k).length = k) := Lib.hid (by rw [List.length_take]; omega)
          subst h3 hto
          clear h1 h2
          subst hrl
          have qc := run_cutR_h (some ⟨b, off2, none⟩) ls.length c rs.length .i64 (rs.length : Int) rfl (by omega)
          go_wp2_with fail
          refine (rsameL_any _ _ _ _ _ _ _ _ rs (ls.take rs.length) _ (rws_new HO4.out) (HRO.out.take _) rfl HK.out true HS'.out).mono ?_
          rintro e w5 ⟨rfl, hw5⟩
          have hw05 := blw HW4.out hw5
          go_wp2_with fail
          refine (known_any _).mono ?_
          rintro e w6 ⟨rfl, hw6⟩
          go_wp2
          go_ret
          exact ⟨rfl, blw hw05 hw6⟩
    · exfalso
      have h1 := hv.out
      rw [List.take_of_length_le (by omega)] at h1
      have h2 := HLL.out
      have h3 := HIL.out
      omega

namespace journalHurt
open Go.ChangeShapes Go.WideShapes Go.ChangeAt Go.RowKit
theorem own : ownKnob Try.prog.godebug = none := by kernel_rfl
theorem laidOut : laidOutB Try.prog = true := by kernel_rfl

set_option maxRecDepth 100000 in
theorem lifted (os : Os) (started : os.Started) (H : Type) (enc : TypeId × Value → H) (F : Stop.Interp) :
    ReturnsInHanded {} Try.checked os 7 .any ((Rows.OpenSpec.upto Rows.journalHurtSpec).pre6 enc Try.prog Try.f7 Rows.journalHurtUptoRow.domain false) (((Rows.OpenSpec.upto Rows.journalHurtSpec).at F).post enc Try.prog Try.f7 false true false false) := by
  refine returnsInHanded_of_cond (C := Try.checked) (s := Rows.OpenSpec.upto Rows.journalHurtSpec) (k := Rows.uptoSmall) rfl own started (by kernel_rfl) Try.func7
    (OpenSpec.witness (enc := enc) (C := Try.checked) (s := Rows.OpenSpec.upto Rows.journalHurtSpec) (k := Rows.uptoSmall) rfl false ⟨#[], #[.slice none 0 0, .int .u16 0, .int .u8 0], []⟩ 8 (by kernel_rfl) (by kernel_rfl) (by kernel_rfl)
      (x := ([.nil, .lit (.int .u16 0), .lit (.int .u8 0)], [], [])) (by kernel_rfl) rfl (by kernel_rfl)) ?_
  intro W base args ds gs before hval0 hW _ hk0 _
  have hval : ∀ (j : Nat) t v, Try.f7.params[j]? = some t → args[j]? = some v → Value.okWide Try.prog W .any base t v := hval0
  have hW' := hW
  obtain ⟨p, q, hA0, hV, rfl, hfz, hnd⟩ := hW
  have hA : DataW.TrodAll enc Try.prog W 0 (fun _ => true) true Try.f7.params.toList args.toList ds p := hA0
  rw [Try.params7] at hA hval
  obtain ⟨v0, vs0, d0, ds0, p0, q0, hargs, rfl, rfl, h0, r0⟩ := trodAll_cons hA
  obtain ⟨v1, vs1, d1, ds1, p1, q1, rfl, rfl, rfl, h1, r1⟩ := trodAll_cons r0
  obtain ⟨v2, vs2, d2, ds2, p2, q2, rfl, rfl, rfl, h2, r2⟩ := trodAll_cons r1
  obtain ⟨rfl, rfl, rfl⟩ := trodAll_nil r2
  obtain rfl : args = #[v0, v1, v2] := by cases args; simp_all
  obtain ⟨rfl, rfl⟩ := trodVars_none hV
  have hk := of_decide_eq_true hk0
  simp only [List.append_nil, Rows.uptoBulkAll] at hk
  have k0 := h0
  have lt0 : ∀ x ∈ p0, x.block < W.heap.size := by obtain ⟨m, hm⟩ := k0; exact DataW.trod_lt m _ _ _ hm
  obtain ⟨A0, l0, c0, e0⟩ := okWide_slice Try.underlying34 (hval 0 34 v0 rfl rfl)
  obtain ⟨fuel0, hf0⟩ := h0
  rw [show v0.cells.toList = [v0] from by rw [e0]; rfl] at hf0
  clear e0 A0 l0 c0
  obtain ⟨A0, c0, z0, rfl, w0, b0⟩ := rows_arg hf0
  have b0' : cnt z0 + 1 ≤ Rows.uptoBulk d0 := b0
  obtain ⟨a1, rfl, rfl, rfl, w1⟩ := open_int Try.underlying50 (hval 1 50 v1 rfl rfl) h1
  obtain ⟨a2, rfl, rfl, rfl, w2⟩ := open_int Try.underlying5 (hval 2 5 v2 rfl rfl) h2
  clear hA0 hval0
  refine (walk_JournalHurt W A0 c0 z0 w0 a1 w1 a2 w2 (by omega)).mono fun e W' ⟨he, bel⟩ => ?_
  subst he
  exact ⟨_, rfl, _, _, _, [], _, [], hW', trodAll_mk1 (shut_bool Try.underlying4 _), (trodAll_cons_mk (Below.trod laidOut (by kernel_rfl) (of_decide_eq_true (by kernel_rfl)) k0 bel lt0) (trodAll_cons_mk (shut_int Try.underlying50 w1) (trodAll_cons_mk (shut_int Try.underlying5 w2) trodAll_mk0))), rfl, bel.frame _, fun h => by cases h⟩

theorem over : Rows.journalHurtUptoRow.holds Try.pinned (Rows.OpenSpec.upto Rows.journalHurtSpec) :=
  OpenClaim.holds_of_cond 7 Try.f7 rfl rfl rfl rfl rfl rfl rfl ⟨rfl, rfl, rfl, rfl, rfl⟩ rfl rfl rfl rfl rfl (by kernel_rfl) Try.func7 (by kernel_rfl)
    (of_decide_eq_true (by kernel_rfl)) (by unfold Func.isWrapper; first | (rw [if_pos (by decide +kernel)]; kernel_rfl) | (rw [if_neg (by decide +kernel)]; exact ⟨rfl, rfl⟩))
    (fun os started H enc _ F => lifted os started H enc F)

theorem proved : Rows.JournalHurtUptoSaid := over
#print axioms proved
end journalHurt
end Go.Proofs.Ytieeojigonbifaa
