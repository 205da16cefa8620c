/- Of the document's: Bare. -/
import Derived.Test.YtaokbjacfdipmaaDoorDagRReach
import Derived.Test.YtaokbjacfdipmaaDoorDagRef2
import Derived.Test.YtaokbjacfdipmaaDoorDagBareP
import Derived.Test.YtaokbjacfdipmaaDoorDagKnown
namespace Go.Proofs.YtaokbjacfdipmaaDoor
open Go.RowKit
set_option linter.unusedVariables false

/-- of the first i that v waits for those that are left -/
def barI (E : List (List Int)) (v i : Nat) : List Nat := ((befL E v).take i).filter fun u => !indB E v u
theorem barI_zero (E : List (List Int)) (v : Nat) : barI E v 0 = [] := by simp [barI]
theorem barI_succ {E : List (List Int)} {v i u : Nat} (h : (befL E v)[i]? = some u) : barI E v (i + 1) = barI E v i ++ if indB E v u then [] else [u] := by
  unfold barI
  rw [List.take_add_one, h, List.filter_append]
  cases hi : indB E v u <;> simp [hi]
theorem barI_full (E : List (List Int)) (v : Nat) : barI E v (befL E v).length = barL E v := by unfold barI barL; rw [List.take_length]
theorem barI_len (E : List (List Int)) (v i : Nat) : (barI E v i).length ≤ (befL E v).length := by
  unfold barI
  refine Nat.le_trans (List.length_filter_le _ _) ?_
  rw [List.length_take]; omega
theorem rowsV_bare (E : List (List Int)) : rowsV E.length (barL E) = (bareE E).map ints := by unfold rowsV bareE; rw [List.map_map]; rfl
theorem rowsV_snoc (n : Nat) (f : Nat → List Nat) : rowsV n f ++ [ints (num (f n))] = rowsV (n + 1) f := by
  unfold rowsV
  rw [List.range_succ, List.map_append]; rfl

set_option maxRecDepth 100000 in
set_option maxHeartbeats 4000000 in
theorem rbare_any (E : List (List Int)) (hf : (order E).length = E.length) (w : World) (A : Option Addr) (c : Nat) (h : IRows w A c E) (hn : E.length ≤ 30) (hE : Valid E) :
    Calls Tryd.prog 22 #[.slice A E.length c] w (RetI w E.length (bareE E)) := by
  have H := Lib.hid h; have HE := Lib.hid hE; have HF := Lib.hid hf
  clear h hE hf
  go_enter Tryd.func22, Tryd.ntmps22
  go_wp2_with fail
  refine (rreach_any E _ _ _ H.out hn HE.out).mono ?_
  rintro e w1 ⟨R, Ar, cr, vr, rfl, htr, hR, hb1⟩
  have hRp : ∀ x u, x < E.length → u < E.length → R x u = plusB E x u := fun x u hx hu => by rw [Bool.eq_iff_iff, hR x u hx hu, plusB_iff HF.out HE.out hx]
  have HRP := Lib.hid hRp; have HTR := Lib.hid htr; have HB1 := Lib.hid hb1
  clear hR hRp htr hb1
  go_wp2_with fail
  go_loopw [4, 5] (fun o i wr => ∃ (v : Nat) (vs : List Value) (Ao : Option Addr) (co : Nat), v ≤ E.length ∧ i = .int .i64 v ∧ o = .slice Ao v co ∧ Hid (Tbl wr w1.heap.size 30 3 (.slice Ao v co) vs (rowsV v (barL E))) ∧ Hid (Below w1.heap.size w1 wr)) (fun _ i _ => E.length - (intOf i).toNat)
  case atStart => exact ⟨0, [], none, 0, Nat.zero_le _, rfl, rfl, Lib.hid (by have := Tbl.nil w1 w1.heap.size 30 3; simpa [rowsV] using this), Lib.hid (Below.refl _ _)⟩
  case round =>
    obtain ⟨v, vs, Ao, co, hv, rfl, rfl, HT, HB⟩ := hrel
    by_cases hvl : v < E.length
    · have HG : Hid (getL (fro E) (v : Int) = num (befL E v)) := Lib.hid (by unfold getL; rw [fro_len, if_pos (by omega), Int.toNat_natCast]; exact fro_row v hvl)
      have HBW := Lib.hid (blw HB1.out HB.out)
      obtain ⟨W3, hW3⟩ : ∃ W3, W3 = wr := ⟨_, rfl⟩
      rw [← hW3] at HT HB HBW ⊢
      clear hW3
      go_wp2_with fail
      refine (rbefore_any E _ _ _ (H.out.below HBW.out) hn (v : Int)).mono ?_
      rw [HG.out]
      rintro e w4 ⟨A4, c4, rfl, hi4, hb4⟩
      obtain ⟨B, hB⟩ : ∃ B, befL E v = B := ⟨_, rfl⟩
      have hBl : B.length ≤ 30 := by rw [← hB]; exact Nat.le_trans (nodup_len (bef_nodup E v) fun u hu => (bef_mem.1 hu).1) hn
      have HBL : Hid (∀ x ∈ B, x < E.length) := Lib.hid fun x hx => by rw [← hB] at hx; exact (bef_mem.1 hx).1
      rw [hB, num_len]
      rw [hB] at hi4
      have HBE := Lib.hid hB; have HI4 := Lib.hid hi4; have HB4 := Lib.hid hb4
      clear hB hi4 hb4 HG
      have HBX := Lib.hid (blw HB.out HB4.out)
      have HO0 : Hid (OwnI w4 w4.heap.size (.slice none 0 0) (num (barI E v 0))) := Lib.hid (by rw [barI_zero]; exact Own1.nil _ _ _)
      go_wp2_with fail
      go_loopw [6, 8] (fun rv iv wr => ∃ (i q : Nat) (Aq : Option Addr) (cq : Nat), i ≤ B.length ∧ (barI E v i).length = q ∧ iv = .int .i64 i ∧ rv = .slice Aq q cq ∧ Hid (OwnI wr w4.heap.size (.slice Aq q cq) (num (barI E v i))) ∧ Hid (Below w4.heap.size w4 wr)) (fun _ iv _ => B.length - (intOf iv).toNat)
      case atStart => exact ⟨0, 0, none, 0, Nat.zero_le _, by rw [barI_zero]; rfl, rfl, rfl, HO0, Lib.hid (Below.refl _ _)⟩
      case round =>
        clear HO0
        obtain ⟨i, q, Aq, cq, hi, hq, rfl, rfl, HO, HQ⟩ := hrel
        have hqb : q ≤ 30 := by rw [← hq]; exact Nat.le_trans (barI_len E v i) (by rw [HBE.out]; exact hBl)
        by_cases hil : i < B.length
        · obtain ⟨u, hu⟩ : ∃ u, B[i]? = some u := ⟨_, List.getElem?_eq_getElem hil⟩
          have hul := HBL.out u (List.mem_of_getElem? hu)
          have HU := Lib.hid hu
          obtain ⟨W5, hW5⟩ : ∃ W5, W5 = wr := ⟨_, rfl⟩
          rw [← hW5] at HO HQ ⊢
          clear hW5 hu
          go_wp2_with fail
          go_loopw [9, 10] (fun ov kv wr => ∃ (k : Nat) (r : Bool), k ≤ B.length ∧ kv = .int .i64 k ∧ ov = .bool r ∧ Hid (overB E v k u = r) ∧ Hid (Below W5.heap.size W5 wr)) (fun _ kv _ => B.length - (intOf kv).toNat)
          case atStart => exact ⟨0, false, Nat.zero_le _, rfl, rfl, Lib.hid (overB_zero E v u), Lib.hid (Below.refl _ _)⟩
          case round =>
            obtain ⟨k, r, hk, rfl, rfl, HR, HZ⟩ := hrel
            have HQZ := Lib.hid (blw HQ.out HZ.out)
            by_cases hkl : k < B.length
            · obtain ⟨x, hx⟩ : ∃ x, B[k]? = some x := ⟨_, List.getElem?_eq_getElem hkl⟩
              have hxl := HBL.out x (List.mem_of_getElem? hx)
              have HOS := Lib.hid (overB_succ (E := E) (v := v) (j := k) (x := x) (by rw [HBE.out]; exact hx) u)
              obtain ⟨bb, ob, x1, rfl, hx1, cx⟩ := (HI4.out.below HQZ.out).at_ (k := k) (by rw [num_len]; exact hkl)
              rw [num_get, hx] at hx1
              injection hx1 with hx1
              subst hx1
              obtain ⟨bb', ob', u1, e', hu1, cu⟩ := (HI4.out.below HQZ.out).at_ (k := i) (by rw [num_len]; exact hil)
              injection e' with e'
              injection e' with e1 e2
              subst e1 e2
              rw [num_get, HU.out] at hu1
              injection hu1 with hu1
              subst hu1
              obtain ⟨gr, Ax, cx2, eA, _, _, hvx, cvx, _, hox⟩ := (HTR.out.below (blw HBX.out HQZ.out)).row (rowsB_get R hxl)
              subst eA
              rw [rowB_len] at cvx hvx hox
              obtain ⟨gu, eAu, _, _, cru, _⟩ := Own1.at_ hox (rowB_get _ hul)
              subst eAu
              rw [HRP.out x u hxl hul] at cru
              obtain ⟨r2, hr2⟩ : ∃ r2, plusB E x u = r2 := ⟨_, rfl⟩
              rw [hr2] at cru
              have HR2 := Lib.hid hr2
              clear hx hvx hox hr2
              cases r with
              | true =>
                have HRn : Hid (overB E v (k + 1) u = true) := Lib.hid (by rw [HOS.out, HR.out]; rfl)
                go_wp2_with fail
                go_quiet (fail)
                go_wp2
                go_roundw
                case rel => exact ⟨k + 1, true, by omega, by go_num, rfl, HRn, Lib.hid (blw HZ.out (below_drew wr nq))⟩
                case measure => simp [intOf]; omega
              | false =>
                have HRn : Hid (overB E v (k + 1) u = r2) := Lib.hid (by rw [HOS.out, HR.out, HR2.out]; rfl)
                go_wp2_with fail
                go_quiet (fail)
                go_wp2
                go_roundw
                case rel => exact ⟨k + 1, r2, by omega, by go_num, rfl, HRn, Lib.hid (blw HZ.out (below_drew wr nq))⟩
                case measure => simp [intOf]; omega
            · obtain rfl : k = B.length := by omega
              have HI : Hid (indB E v u = r) := Lib.hid (by unfold indB; rw [HBE.out]; exact HR.out)
              have HSU := Lib.hid (barI_succ (E := E) (v := v) (i := i) (u := u) (by rw [HBE.out]; exact HU.out))
              have HO5 := Lib.hid (HO.out.below HZ.out)
              cases r with
              | true =>
                have e : barI E v (i + 1) = barI E v i := by rw [HSU.out, HI.out]; simp
                have HEQ := Lib.hid e
                clear e
                go_wp2_with fail
                go_roundw
                case rel => exact ⟨i + 1, q, Aq, cq, by omega, by rw [HEQ.out]; exact hq, by go_num, rfl, by rw [HEQ.out]; exact HO5, HQZ⟩
                case measure => simp [intOf]; omega
              | false =>
                have e : barI E v (i + 1) = barI E v i ++ [u] := by rw [HSU.out, HI.out]; simp
                have HEQ := Lib.hid e
                clear e
                obtain ⟨bb, ob, u1, rfl, hu1, cu⟩ := (HI4.out.below HQZ.out).at_ (k := i) (by rw [num_len]; exact hil)
                rw [num_get, HU.out] at hu1
                injection hu1 with hu1
                subst hu1
                have hsz := HQZ.out.size
                go_wp2_with (at_builtin; refine wpList_appg rfl _ _ 30 3 (.int .i64 0) 8 Tryd.underlying30 info_int rfl (by decide) rfl w4.heap.size (.slice Aq q cq) (ints (num (barI E v i))) rfl (HO5.out.below ((Below.refl _ _).alloc (Nat.le_refl _) _)) (some ⟨wr.heap.size, 0, none⟩) 1 1 [.int .i64 (u : Int)] rfl rfl (Sl.one rfl) (by simp [Value.oneCell']) (by rw [ints_len, num_len]; simp; omega) (by simp; omega) ?_; intro l9 A9 c9 w9 el ho9 _ _ hbl9; have HO9 := Lib.hid ho9; have HBL9 := Lib.hid hbl9; have EL := Lib.hid el; clear ho9 hbl9 el)
                go_roundw
                case rel =>
                  have el : l9 = ints (num (barI E v (i + 1))) := by rw [EL.out, HEQ.out, num_app (barI E v i) [u], ints_app]; rfl
                  have hl9 : l9.length = (barI E v (i + 1)).length := by rw [el, ints_len, num_len]
                  refine ⟨i + 1, (barI E v (i + 1)).length, A9, c9, by omega, rfl, by go_num, by rw [hl9], Lib.hid ?_, Lib.hid ((HQZ.out.alloc hsz _).trans HBL9.out)⟩
                  have := HO9.out
                  rw [el, ints_len, num_len] at this
                  exact this
                case measure => simp [intOf]; omega
        · obtain rfl : i = B.length := by omega
          have e : barI E v B.length = barL E v := by rw [← HBE.out]; exact barI_full E v
          have HOF : Hid (OwnI wr w4.heap.size (.slice Aq q cq) (num (barL E v))) := Lib.hid (by rw [← e]; exact HO.out)
          have hvsl : vs.length = v := by rw [HT.out.len]; simp [rowsV]
          have HQX := Lib.hid (blw HB4.out HQ.out)
          have hsz4 := HB4.out.size
          have hszq := HQX.out.size
          have hszb := HB.out.size
          have hown := HT.out.out
          have HOW : Hid (Own1 (wr.alloc (.cells #[.slice Aq q cq] 30)) w1.heap.size 30 (.slice Ao v co) vs) := Lib.hid ((hown.below HQX.out).below (al _ _))
          clear hown HO e
          go_wp2_with (at_builtin; refine wpList_appg rfl _ _ 22 30 (.slice none 0 0) 24 Tryd.underlying22 info_is rfl (by decide) rfl w1.heap.size (.slice Ao v co) vs rfl HOW.out (some ⟨wr.heap.size, 0, none⟩) 1 1 [.slice Aq q cq] rfl rfl (Sl.one rfl) (by simp [Value.oneCell']) (by simp; omega) (by simp; omega) ?_; intro l A9 c9 w9 el ho9 hg9 _ hbl9; have HO9 := Lib.hid ho9; have HG9 := Lib.hid hg9; have HB9 := Lib.hid hbl9; have EL := Lib.hid el; have hll : l.length = v + 1 := (by rw [el]; simp [hvsl]); rw [hll]; clear ho9 hg9 hbl9 el)
          go_roundw
          case rel =>
            refine ⟨v + 1, l, A9, c9, by omega, by go_num, rfl, Lib.hid ?_, Lib.hid (((blw HB.out HQX.out).alloc (by omega) _).trans HB9.out)⟩
            have := HT.out.push (by decide) (u := .slice Aq q cq) (us := ints (num (barL E v))) (w' := w9) (v' := .slice A9 (v + 1) c9)
              (fun b0 hb hne => ((HG9.out.block b0 (by simp; omega) (fun e => hne e.symm)).trans (Below.heap_alloc wr _ b0 (by omega))).trans (HQX.out.block b0 hb))
              (by rw [← EL.out, ← hll]; exact HO9.out)
              ((Own1.rebase HOF.out (by omega)).keep fun b0 e => by
                have hlt := (Own1.lt HOF.out e)
                refine (HG9.out.block _ (by simp; omega) fun e2 => ?_).trans (Below.heap_alloc wr _ _ hlt.2)
                have := (HT.out.out.lt e2.symm).2
                omega)
              (fun b0 e => by have := (Own1.lt HOF.out e).1; omega)
            rw [← EL.out, rowsV_snoc] at this
            exact this
          case measure => simp [intOf]; omega
    · obtain rfl : v = E.length := by omega
      go_wp2
      go_ret
      have := HT.out
      rw [rowsV_bare] at this
      exact ⟨Ao, co, rfl, this.irows.2, blw HB1.out HB.out⟩

end Go.Proofs.YtaokbjacfdipmaaDoor
