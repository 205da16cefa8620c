/- Path. -/
import Derived.Test.YtaokbjacfdipmaaDoorDagIdx
import Derived.Test.YtaokbjacfdipmaaDoorDagPathP
namespace Go.Proofs.YtaokbjacfdipmaaDoor
open Go.RowKit
set_option linter.unusedVariables false

theorem beh_lt {E : List (List Int)} {v j k y x : Nat} (h1 : (behL E v)[j]? = some y) (h2 : (behL E v)[k]? = some x) (hjk : j < k) : y < x := by
  have hp : (behL E v).Pairwise (· < ·) := List.Pairwise.filter _ List.pairwise_lt_range
  obtain ⟨hj, rfl⟩ := List.getElem?_eq_some_iff.1 h1
  obtain ⟨hk, rfl⟩ := List.getElem?_eq_some_iff.1 h2
  exact List.pairwise_iff_getElem.1 hp j k hj hk hjk
def leaZ (E : List (List Int)) (w v : Nat) : Int :=
  match lea E w v with
  | none => -1
  | some k => (k : Int)
theorem leaZ_some {E : List (List Int)} {w v k : Nat} (h : lea E w v = some k) : leaZ E w v = (k : Int) := by unfold leaZ; rw [h]
theorem leaZ_none {E : List (List Int)} {w v : Nat} (h : lea E w v = none) : leaZ E w v = -1 := by unfold leaZ; rw [h]
theorem leaZ_nat {E : List (List Int)} {w v k : Nat} (h : leaZ E w v = (k : Int)) : lea E w v = some k := by
  cases hl : lea E w v with
  | none => rw [leaZ_none hl] at h; omega
  | some j => rw [leaZ_some hl] at h; congr 1; omega
def pathLen : Value → Nat
  | .slice _ n _ => n
  | _ => 0
/-- the place, among those behind u, of the one that the way goes to -/
theorem stp_at {E : List (List Int)} (hf : (order E).length = E.length) (hE : Valid E) {w u m : Nat} (hw : w < E.length) (h : lea E w u = some (m + 1)) :
    ∃ k x, stp E w m u = x ∧ x < E.length ∧ lea E w x = some m ∧ (behL E u)[k]? = some x ∧ ∀ (j y : Nat), j < k → (behL E u)[j]? = some y → lea E w y ≠ some m := by
  obtain ⟨h1, h2, h3, h4⟩ := stp_get (lea_some hf hE hw h).1
  obtain ⟨k, hk⟩ := List.getElem?_of_mem (beh_mem.2 ⟨h1, h3⟩)
  refine ⟨k, _, rfl, h1, (lea_step hf hE hw h h3).2 h2, hk, fun j y hj hy e => ?_⟩
  have hlt := beh_lt hy hk hj
  have := h4 y hlt
  rw [(lea_some hf hE hw e).1, (beh_mem.1 (List.mem_of_getElem? hy)).2] at this
  cases this
theorem num_snoc (pre : List Nat) (u : Nat) : num (pre ++ [u]) = num pre ++ [(u : Int)] := num_app pre [u]

set_option maxRecDepth 100000 in
set_option maxHeartbeats 4000000 in
theorem path_any (w : World) (E : List (List Int)) (p : Value) (h : Gr w E p) (hE : Valid E) (hn : E.length ≤ 30) (x y : Int) :
    Calls Tryd.prog 23 #[p, .int .i64 x, .int .i64 y] w (RetL w (pthG E x y)) := by
  have HF : Hid ((order E).length = E.length) := Lib.hid h.full
  have HE := Lib.hid hE
  have H := Lib.hid (h.below (al w (.cells #[.int .i64 x] 3)))
  obtain ⟨g, A1, c1, A2, c2, A3, c3, ep, hg, h1, h2, h3⟩ := h.ex
  clear h hE
  by_cases hx : 0 ≤ x ∧ x < (E.length : Int)
  · have HVX : Hid (decide (0 ≤ x ∧ x < (E.length : Int)) = true) := Lib.hid (decide_eq_true hx)
    by_cases hy : 0 ≤ y ∧ y < (E.length : Int)
    · have HVY : Hid (decide (0 ≤ y ∧ y < (E.length : Int)) = true) := Lib.hid (decide_eq_true hy)
      obtain ⟨v, rfl⟩ : ∃ v : Nat, x = (v : Int) := ⟨x.toNat, by omega⟩
      obtain ⟨t, rfl⟩ : ∃ t : Nat, y = (t : Int) := ⟨y.toNat, by omega⟩
      have hv : v < E.length := by omega
      have ht : t < E.length := by omega
      clear hx hy
      rw [pthG_in hv ht]
      subst ep
      have e0 := ((al w (.cells #[.int .i64 (v : Int)] 3)).cell (p := ⟨g, 0, none⟩) (blk_lt hg)).trans (blk_cell hg 0)
      simp only [show (#[Value.slice A1 E.length c1, Value.slice A2 E.length c2, Value.slice A3 E.length c3] : Array Value)[0]? = some (.slice A1 E.length c1) from rfl] at e0
      have e1 := blk_cell hg 1
      simp only [show (#[Value.slice A1 E.length c1, Value.slice A2 E.length c2, Value.slice A3 E.length c3] : Array Value)[1]? = some (.slice A2 E.length c2) from rfl] at e1
      have H1 := Lib.hid (h1.below (al w (.cells #[.int .i64 (v : Int)] 3))); have H2 := Lib.hid h2
      have hx4 := heap_alloc_new w (.cells #[.int .i64 (v : Int)] 3)
      have HX4 := Lib.hid hx4
      have hxc := blk_cell hx4 0
      simp only [show (#[Value.int .i64 (v : Int)] : Array Value)[0]? = some (.int .i64 (v : Int)) from rfl] at hxc
      have HG1 := Lib.hid e1
      clear h1 h2 h3 hg hx4 e1
      go_enter Tryd.func23, Tryd.ntmps23
      go_wp2_with fail
      refine (hasG_any H.out _ true HVX.out).mono ?_
      rintro e w1 ⟨rfl, rfl⟩
      go_wp2_with fail
      refine (hasG_any H.out _ true HVY.out).mono ?_
      rintro e w1 ⟨rfl, rfl⟩
      go_wp2_with fail
      refine (dist_any E HF.out HE.out hn t ht _ _ _ H1.out).mono ?_
      rintro e w2 ⟨F, gf, hfl, rfl, hgf, hof, hds, hb2⟩
      have hfz : ∀ u, u < E.length → F[u]? = some (leaZ E t u) := fun u hu => by
        obtain ⟨z, h1, h2⟩ := hds u hu
        rw [h1]
        rcases dst_lea HF.out HE.out ht h2 with ⟨rfl, h3⟩ | ⟨k, rfl, h3⟩
        · rw [leaZ_none h3]
        · rw [leaZ_some h3]
      have HFZ := Lib.hid hfz; have HFL := Lib.hid hfl
      have hgl := (Own1.lt hof (b := gf) rfl).2
      rw [World.size_alloc] at hgf
      have h4 := (hb2.block w.heap.size (by simp)).trans HX4.out
      have HB2 := Lib.hid (blw (al w (.cells #[.int .i64 (v : Int)] 3)) hb2)
      have c4 := ((al w2 (.cells #[.slice (some ⟨gf, 0, none⟩) E.length E.length] 30)).cell (p := ⟨w.heap.size, 0, none⟩) (blk_lt h4)).trans (blk_cell h4 0)
      simp only [show (#[Value.int .i64 (v : Int)] : Array Value)[0]? = some (.int .i64 (v : Int)) from rfl] at c4
      have HOF := Lib.hid (hof.below (al w2 (.cells #[.slice (some ⟨gf, 0, none⟩) E.length E.length] 30)))
      have H4 := Lib.hid (((al w2 (.cells #[.slice (some ⟨gf, 0, none⟩) E.length E.length] 30)).block w.heap.size (blk_lt h4)).trans h4)
      have H7 := Lib.hid (heap_alloc_new w2 (.cells #[.slice (some ⟨gf, 0, none⟩) E.length E.length] 30))
      have HB3 := Lib.hid (blw HB2.out (al w2 (.cells #[.slice (some ⟨gf, 0, none⟩) E.length E.length] 30)))
      obtain ⟨gz, egz, _, _, cfv, _⟩ := Own1.at_ HOF.out (ints_get (hfz v hv))
      injection egz with egz
      injection egz with egz
      subst egz
      clear hof hds hb2 h4 hfz hfl HB2 e0 hxc HX4 H H1
      cases hl : lea E t v with
      | none =>
        rw [leaZ_none hl] at cfv
        have HP := Lib.hid (pthL_none hl)
        clear hl
        go_wp2_with fail
        go_ret
        rw [HP.out]
        exact ⟨none, 0, rfl, Ints.empty _, HB3.out⟩
      | some k =>
        rw [leaZ_some hl] at cfv
        have hnk := neg_no k
        have HL := Lib.hid hl
        have hkn : k < E.length := can_short HF.out HE.out ht (lea_some HF.out HE.out ht hl).1
        clear hl
        go_wp2_with fail
        have HO : Hid (OwnI ((w2.alloc (.cells #[.slice (some ⟨gf, 0, none⟩) E.length E.length] 30)).alloc (.cells #[.int .i64 (v : Int)] 3)) (w2.heap.size + 1) (.slice (some ⟨w2.heap.size + 1, 0, none⟩) 1 1) [(v : Int)]) := Lib.hid (Own1.litm _ _ 3 (by simp) (ints [(v : Int)]) rfl (by simp) (by simp [maxLen]))
        have hA := al (w2.alloc (.cells #[.slice (some ⟨gf, 0, none⟩) E.length E.length] 30)) (.cells #[.int .i64 (v : Int)] 3)
        have HOF' := Lib.hid (HOF.out.below hA)
        have H4' := Lib.hid ((hA.block _ (blk_lt H4.out)).trans H4.out)
        have H7' := Lib.hid ((hA.block _ (blk_lt H7.out)).trans H7.out)
        have HB' := Lib.hid (blw HB3.out hA)
        clear hA HOF H4 H7 HB3 c4 cfv hnk
        generalize (w2.alloc (.cells #[.slice (some ⟨gf, 0, none⟩) E.length E.length] 30)).alloc (.cells #[.int .i64 (v : Int)] 3) = W4 at HO HOF' H4' H7' HB' ⊢
        obtain ⟨b4, hb4⟩ : ∃ b, w.heap.size = b := ⟨_, rfl⟩
        obtain ⟨b7, hb7⟩ : ∃ b, w2.heap.size = b := ⟨_, rfl⟩
        have HB4 := Lib.hid hb4
        rw [hb4] at H4' hgf ⊢
        rw [hb7] at HO H7' hgl ⊢
        clear hb4 hb7
        have hlo : OwnI W4 (b7 + 1) (.slice (some ⟨b7 + 1, 0, none⟩) 1 1) (num ([] ++ [v])) := HO.out
        have HLO := Lib.hid hlo
        clear hlo HO
        go_loopw [8] (fun pv wr => ∃ (pre : List Nat) (m u q : Nat) (Al : Option Addr) (cl : Nat), q + m ≤ E.length ∧ pre.length + 1 = q ∧ u < E.length ∧ pv = .slice Al q cl ∧ Hid (lea E t u = some m) ∧ Hid (pre ++ pathL E t m u = pathL E t k v) ∧ Hid (OwnI wr (b7 + 1) (.slice Al q cl) (num (pre ++ [u]))) ∧ Hid (OwnI wr gf (.slice (some ⟨gf, 0, none⟩) E.length E.length) F) ∧ Hid (wr.heap[b4]? = some (.cells #[.int .i64 (u : Int)] 3 (0, 0))) ∧ Hid (wr.heap[b7]? = some (.cells #[.slice (some ⟨gf, 0, none⟩) E.length E.length] 30 (0, 0))) ∧ Hid (Below w.heap.size w wr)) (fun pv _ => E.length + 1 - pathLen pv)
        case atStart => exact ⟨[], k, v, 1, _, _, by omega, rfl, hv, rfl, HL, Lib.hid rfl, HLO, HOF', H4', H7', HB'⟩
        case round =>
          clear HLO HOF' H4' H7' HB'
          obtain ⟨pre, m, u, q, Al, cl, hqm, hpq, hu, rfl, HLM, HPP, HO, HFO, H4, H7, HB⟩ := hrel
          have c4 := blk_cell H4.out 0
          simp only [show (#[Value.int .i64 (u : Int)] : Array Value)[0]? = some (.int .i64 (u : Int)) from rfl] at c4
          by_cases hut : u = t
          · subst hut
            have hm0 : m = 0 := by
              have := (lea_some HF.out HE.out ht HLM.out).2 0 (can_zero.2 rfl)
              omega
            subst hm0
            go_wp2_with fail
            go_ret
            have e : pre ++ [u] = pthL E v u := by rw [pthL_some HL.out, ← HPP.out]; rfl
            have hi := (OwnI.ints' HO.out).2
            rw [e] at hi
            refine ⟨Al, cl, ?_, hi, HB.out⟩
            rw [← e, num_len, List.length_append, List.length_singleton, hpq]; rfl
          · have hne : ((u : Int) == (t : Int)) = false := by rw [beq_eq_false_iff_ne]; omega
            obtain ⟨m, rfl⟩ : ∃ m', m = m' + 1 := by
              cases m with
              | zero => exact absurd (can_zero.1 (lea_some HF.out HE.out ht HLM.out).1) hut
              | succ m => exact ⟨m, rfl⟩
            obtain ⟨i, x, hst, hxl, hlx, hix, hmin⟩ := stp_at HF.out HE.out ht HLM.out
            have c7 := blk_cell H7.out 0
            have cg := (HB.out.cell (p := ⟨g, 1, none⟩) (World.block_lt_of_cell? w _ HG1.out)).trans HG1.out
            obtain ⟨b2, off2, Ar, cr, rfl, hcr0, hir⟩ := H2.out.cells u _ (rev_get hu)
            have hcr := (HB.out.cell (p := ⟨b2, off2 + u, none⟩) (World.block_lt_of_cell? w _ hcr0)).trans hcr0
            have hir2 := hir.below HB.out
            rw [num_len] at hcr
            obtain ⟨B, hB⟩ : ∃ B, behL E u = B := ⟨_, rfl⟩
            have hBlt : ∀ z ∈ B, z < E.length := fun z hz => by rw [← hB] at hz; exact (beh_mem.1 hz).1
            have hBl : B.length ≤ 30 := by rw [← hB]; exact Nat.le_trans (nodup_len (beh_nodup E u) fun u hu => (beh_mem.1 hu).1) hn
            rw [hB] at hcr hir hir2 hix hmin
            have hil : i < B.length := (List.getElem?_eq_some_iff.1 hix).1
            have hFu : F[u]? = some ((m : Int) + 1) := by rw [HFZ.out u hu, leaZ_some HLM.out]; rfl
            have hFx : F[x]? = some ((m : Int) + 1 - 1) := by rw [HFZ.out x hxl, leaZ_some hlx]; congr 1; omega
            have hFm : ∀ j z, j < i → B[j]? = some z → F[z]? ≠ some ((m : Int) + 1 - 1) := fun j z hj hz e => by
              rw [HFZ.out z (hBlt z (List.mem_of_getElem? hz))] at e
              injection e with e
              exact hmin j z hj hz (leaZ_nat (by omega))
            obtain ⟨bx, ox, y, rfl, hy, hcx0⟩ := hir.at_ (k := i) (by rw [num_len]; exact hil)
            rw [num_get, hix] at hy
            injection hy with hy
            subst hy
            have hcx := (HB.out.cell (p := ⟨bx, ox + i, none⟩) (World.block_lt_of_cell? w _ hcx0)).trans hcx0
            have IDX := Lib.hid fun qq => idx_any F E.length HFL.out hn u ((m : Int) + 1) hFu (by omega) B hBlt i x hix hFx hFm (wr.drewN qq) _ _ ((OwnI.ints' HFO.out).2.below (below_drew wr qq)) _ _ cr rfl (hir2.below (below_drew wr qq)) b7 b4 (((below_drew wr qq).cell (World.block_lt_of_cell? wr _ c7)).trans c7) (((below_drew wr qq).cell (World.block_lt_of_cell? wr _ c4)).trans c4)
            have f4 := blk_frozen H4.out 0
            have HIX := Lib.hid hix; have HST := Lib.hid hst; have HLX := Lib.hid hlx
            clear hB hBlt hFu hFx hFm hmin hcx0 hir hir2 hcr0 hix hst hlx c7
            go_wp2_with fail
            go_quiet (first | (go_at_call 43; refine Calls.quiet_of (IDX.out _)))
            have HQ := Lib.hid (below_drew wr nq)
            have H4d : Hid ((wr.drewN nq).heap[b4]? = some (.cells #[.int .i64 (u : Int)] 3 (0, 0))) := H4
            have d4 := (HQ.out.cell (p := ⟨b4, 0, none⟩) (World.block_lt_of_cell? wr _ c4)).trans c4
            have dg := (HQ.out.cell (p := ⟨g, 1, none⟩) (World.block_lt_of_cell? wr _ cg)).trans cg
            have dr := (HQ.out.cell (p := ⟨b2, off2 + u, none⟩) (World.block_lt_of_cell? wr _ hcr)).trans hcr
            have dx := (HQ.out.cell (p := ⟨bx, ox + i, none⟩) (World.block_lt_of_cell? wr _ hcx)).trans hcx
            have df := blk_frozen H4d.out 0
            have HBd := Lib.hid (blw HB.out HQ.out)
            have H7d := Lib.hid ((HQ.out.block _ (blk_lt H7.out)).trans H7.out)
            have HFOd := Lib.hid (HFO.out.below HQ.out)
            have HOd := Lib.hid (HO.out.below HQ.out)
            clear c4 cg hcr hcx f4 H4 H7 HB HFO HO HQ IDX
            generalize wr.drewN nq = wd at H4d d4 dg dr dx df HBd H7d HFOd HOd ⊢
            go_wp2_with fail
            go_region
            have HA : Hid (Below (b7 + 1) (wd.setCell ⟨b4, 0, none⟩ (.int .i64 (x : Int))).drew ((wd.setCell ⟨b4, 0, none⟩ (.int .i64 (x : Int))).drew.alloc (.cells #[.int .i64 (x : Int)] 3))) := Lib.hid ((Below.refl _ _).alloc (by have := blk_lt H7d.out; simp [World.setCell, World.drew]; omega) _)
            have H4e : Hid ((wd.setCell ⟨b4, 0, none⟩ (.int .i64 (x : Int))).drew.heap[b4]? = some (.cells #[.int .i64 (x : Int)] 3 (0, 0))) := Lib.hid (by have := blk_set H4d.out 0 (.int .i64 (x : Int)); simp at this; exact this)
            have H7e : Hid ((wd.setCell ⟨b4, 0, none⟩ (.int .i64 (x : Int))).drew.heap[b7]? = some (.cells #[.slice (some ⟨gf, 0, none⟩) E.length E.length] 30 (0, 0))) := Lib.hid ((blk_other (w := wd) (g := b7) (b := b4) (i := 0) (u := .int .i64 (x : Int)) (by omega)).trans H7d.out)
            have HFOe : Hid (OwnI (wd.setCell ⟨b4, 0, none⟩ (.int .i64 (x : Int))).drew gf (.slice (some ⟨gf, 0, none⟩) E.length E.length) F) := Lib.hid (HFOd.out.keep fun b e => blk_other (w := wd) (g := b) (b := b4) (i := 0) (u := .int .i64 (x : Int)) (by injection e with e; have e' : gf = b := e; omega))
            have HOe : Hid (OwnI (wd.setCell ⟨b4, 0, none⟩ (.int .i64 (x : Int))).drew (b7 + 1) (.slice Al q cl) (num (pre ++ [u]))) := Lib.hid (HOd.out.keep fun b e => blk_other (w := wd) (g := b) (b := b4) (i := 0) (u := .int .i64 (x : Int)) (by have := (HOd.out.lt e).1; omega))
            have HBe : Hid (Below w.heap.size w (wd.setCell ⟨b4, 0, none⟩ (.int .i64 (x : Int))).drew) := Lib.hid (blw (HBd.out.setCell (p := ⟨b4, 0, none⟩) (by rw [HB4.out]; exact Nat.le_refl _) _) (below_drew1 _))
            have hb7 := blk_lt H7e.out
            have hgb : w.heap.size ≤ b7 := by rw [HB4.out]; omega
            have c4 := blk_cell H4e.out 0
            simp only [show (#[Value.int .i64 (x : Int)] : Array Value)[0]? = some (.int .i64 (x : Int)) from rfl] at c4
            clear H4d d4 dg dr dx df HBd H7d HFOd HOd
            generalize (wd.setCell ⟨b4, 0, none⟩ (.int .i64 (x : Int))).drew = W5 at HA H4e H7e HFOe HOe HBe hb7 c4 ⊢
            go_wp2_with (at_builtin; refine wpList_appg rfl _ _ 30 3 (.int .i64 0) 8 Tryd.underlying30 info_int rfl (by decide) rfl (b7 + 1) (.slice Al q cl) (ints (num (pre ++ [u]))) rfl (HOe.out.below ((Below.refl _ _).alloc (Nat.le_refl _) _)) (some ⟨W5.heap.size, 0, none⟩) 1 1 [.int .i64 (x : Int)] rfl rfl (Sl.one rfl) (by simp [Value.oneCell']) (by rw [ints_len, num_len]; simp; omega) (by simp; omega) ?_; intro l9 A9 c9 w9 el ho9 _ _ hbl9; have HO9 := Lib.hid ho9; have HBL := Lib.hid (HA.out.trans hbl9); have EL := Lib.hid el; clear ho9 hbl9 el)
            go_roundw
            case rel =>
              have el : l9 = ints (num ((pre ++ [u]) ++ [x])) := by rw [EL.out, num_snoc (pre ++ [u]) x, ints_app]; rfl
              have hl9 : l9.length = q + 1 := by rw [el, ints_len, num_len]; simp; omega
              refine ⟨pre ++ [u], m, x, q + 1, A9, c9, by omega, by simp; omega, hxl, by rw [hl9], HLX, Lib.hid ?_, Lib.hid ?_, Lib.hid ?_, Lib.hid ?_, Lib.hid ?_, Lib.hid ?_⟩
              · rw [← HPP.out, List.append_assoc, ← HST.out]; rfl
              · have := HO9.out
                rw [el] at this
                rw [el, ints_len, num_len] at hl9
                rw [ints_len, num_len, hl9] at this
                exact this
              · exact HFOe.out.keep fun b e => HBL.out.block b (by injection e with e; have e' : gf = b := e; omega)
              · exact (HBL.out.block b4 (by omega)).trans H4e.out
              · exact (HBL.out.block b7 (by omega)).trans H7e.out
              · exact HBe.out.trans (HBL.out.mono (by omega))
            case measure =>
              have hl9 : l9.length = q + 1 := by rw [EL.out, List.length_append, ints_len, num_len]; simp; omega
              simp [pathLen, hl9]; omega
    · have HVY : Hid (decide (0 ≤ y ∧ y < (E.length : Int)) = false) := Lib.hid (decide_eq_false hy)
      have HO := Lib.hid (pthG_out (E := E) (v := x) (w := y) fun h => hy h.2)
      have HB0 := Lib.hid (al w (.cells #[.int .i64 x] 3))
      clear h1 h2 h3 hg hx hy
      subst ep
      have hx4 := heap_alloc_new w (.cells #[.int .i64 x] 3)
      have hxc := blk_cell hx4 0
      simp only [show (#[Value.int .i64 x] : Array Value)[0]? = some (.int .i64 x) from rfl] at hxc
      clear hx4
      rw [HO.out]
      go_enter Tryd.func23, Tryd.ntmps23
      go_wp2_with fail
      refine (hasG_any H.out _ true HVX.out).mono ?_
      rintro e w1 ⟨rfl, rfl⟩
      go_wp2_with fail
      refine (hasG_any H.out _ false HVY.out).mono ?_
      rintro e w1 ⟨rfl, rfl⟩
      go_wp2_with fail
      go_ret
      exact ⟨none, 0, rfl, Ints.empty _, HB0.out⟩
  · have HVX : Hid (decide (0 ≤ x ∧ x < (E.length : Int)) = false) := Lib.hid (decide_eq_false hx)
    have HO := Lib.hid (pthG_out (E := E) (v := x) (w := y) fun h => hx h.1)
    have HB0 := Lib.hid (al w (.cells #[.int .i64 x] 3))
    clear h1 h2 h3 hg hx
    subst ep
    have hx4 := heap_alloc_new w (.cells #[.int .i64 x] 3)
    have hxc := blk_cell hx4 0
    simp only [show (#[Value.int .i64 x] : Array Value)[0]? = some (.int .i64 x) from rfl] at hxc
    clear hx4
    rw [HO.out]
    go_enter Tryd.func23, Tryd.ntmps23
    go_wp2_with fail
    refine (hasG_any H.out _ false HVX.out).mono ?_
    rintro e w1 ⟨rfl, rfl⟩
    go_wp2_with fail
    go_ret
    exact ⟨none, 0, rfl, Ints.empty _, HB0.out⟩

end Go.Proofs.YtaokbjacfdipmaaDoor
