/- Layer 10: the document's All. -/
import Derived.Test.YtldmkbmkjdnaaaaFitM
namespace Go.Proofs.Ytldmkbmkjdnaaaa.Ft
open Go.RowKit Go.Shelf
open Stp
open Dag (Ints Sl Own1 OwnI ints ints_len ints_app)
set_option linter.unusedVariables false
set_option maxRecDepth 100000

/-- append of one window onto windows of one's own -/
theorem wpList_appw {w : World} {ops : Array Oper} {rest : List Oper} {o : Oper} {a : Act} {Q : Exit → Act → World → Prop} (hgd : o.guard = none) (s x : Operand)
    (ho : o.op = .call { callee := .builtin .append, args := #[s, x], argTypes := #[37, 37] })
    (base : Nat) (v : Value) (l : List StepD) (hs : a.eval s = v) (hown : OwnW w base v l) (g cx : Nat) (u : StepD) (hx : a.eval x = .slice (some ⟨g, 0, none⟩) 1 cx)
    (h0 : w.cell? ⟨g, 0, none⟩ = some (.int .i64 u.at_)) (h1 : w.cell? ⟨g, 1, none⟩ = some (.int .i64 u.fr)) (hlen : l.length ≤ 1000000) (hbase : base ≤ w.heap.size)
    (h : ∀ (A' : Option Addr) (c' : Nat) (w' : World), OwnW w' base (.slice A' (l ++ [u]).length c') (l ++ [u]) → Below base w w' →
      wpList Try.prog ops Q rest (a.put o.dst (.slice A' (l ++ [u]).length c')) w') :
    wpList Try.prog ops Q (o :: rest) a w := by
  obtain ⟨i0, hi0, hz0, hz1, hz2⟩ := info_parts info_win
  refine wpList_append_own_at w hgd s x _ ho base _ i0 (.agg #[.int .i64 0, .int .i64 0]) 2 16 Try.underlying37 hi0 hz0 hz1 hz2 rfl (by decide) v l.length (flat l) hs hown ⟨g, 0, none⟩ 1 cx [.int .i64 u.at_, .int .i64 u.fr] hx rfl ?_ ?_ (by simp only [maxLen]; omega) (by omega) hbase ?_
  · intro j y hy
    rw [Go.WideShapes.add_plain, Nat.zero_add]
    match j, hy with
    | 0, hy => injection hy with hy; subst hy; exact h0
    | 1, hy => injection hy with hy; subst hy; exact h1
    | j + 2, hy => simp at hy
  · intro y hy
    simp only [List.mem_cons, List.mem_nil_iff, or_false] at hy
    rcases hy with rfl | rfl <;> rfl
  · intro v' w' hown' hg _ hb
    have ho2 : OwnW w' base v' (l ++ [u]) := by
      unfold OwnW
      rw [flat_app, List.length_append, List.length_singleton]
      exact hown'
    obtain ⟨A', c', e, _⟩ := OwnW.slice ho2
    subst e
    exact h A' c' w' ho2 ((Below.refl _ _).grown hg hbase fun k hk => (World.ownsRow.lt hown k hk).1)
set_option maxHeartbeats 6400000 in
theorem rall_any (l : List StepD) (a b n d : Int) (hr : ReqY l a b n d) (A : Option Addr) (m c : Nat) (hm : l.length = m) (w : World) (h : Stp w A c l) :
    Calls Try.prog 26 #[.slice A m c, .agg #[.int .i64 a, .int .i64 b], .int .i64 n, .int .i64 d] w (RetW w (fitL l n d a b)) := by
  have hp := hr.prof; have ha := hr.ha; have hb := hr.hb; have hd := hr.hd
  have hlb : ∀ s ∈ l, 0 ≤ s.at_ ∧ s.at_ ≤ 1099511627775 := fun s hs => (hp.ok s hs).1
  have HT := Lib.hid fun W (hW : Below w.heap.size w W) => rtim_any l hlb a b d ha hb hd A m c hm (by have := hp.len; omega) W (h.below hW)
  have HF := Lib.hid fun t (ht : t ∈ timD l a b d) W (hW : Below w.heap.size w W) => rfits_any l hp a b n d t hb.2 ha.1 ⟨hd.1, by omega⟩ (tim_bd hlb ha hb hd ht) A m c hm W (h.below hW)
  have HFI := Lib.hid fun f (hf : 0 ≤ f ∧ f ≤ 1099511627775) W (hW : Below w.heap.size w W) => rfirst_any l hp f b n d hf hb hd A m c hm W (h.below hW)
  unfold RF at HF
  unfold RetT at HT
  obtain ⟨x0, x1⟩ := new2 w (.int .i64 a) (.int .i64 b) 28
  have HST := Lib.hid (allI_start hr)
  have HLA := Lib.hid fun pre x r f (hA : AllI l a b n d pre (x :: r) f) => allI_last hr hA
  obtain ⟨T, hT⟩ : ∃ T, timD l a b d = T := ⟨_, rfl⟩
  obtain ⟨q, hq⟩ : ∃ q, T.length = q := ⟨_, rfl⟩
  have hql : q ≤ 100000 := by
    rw [← hq, ← hT]; unfold timD
    have := hp.len
    simp only [List.length_cons, cand_len]; omega
  rw [hT] at HF HT HLA
  rw [hq] at HT
  have HQ := Lib.hid hq; have HREQ := Lib.hid hr
  have hRl : (fitL l n d a b).length ≤ 20000 := by unfold fitL; exact Nat.le_trans (gap_len l 0) hp.len
  obtain ⟨R, hR⟩ : ∃ R, fitL l n d a b = R := ⟨_, rfl⟩
  have HRL := Lib.hid hRl
  clear h hm hp hlb hT hq hr hRl hR
  have hBa := al w (.cells #[.int .i64 a, .int .i64 b] 28)
  go_enter Try.func26, Try.ntmps26
  go_wp2_with fail
  generalize w.alloc (.cells #[.int .i64 a, .int .i64 b] 28) = wa at hBa x0 x1 ⊢
  have HBa := Lib.hid hBa; have Y := Lib.hid (And.intro x0 x1)
  clear hBa x0 x1
  go_loopw [9, 10] (fun vo vf wr => ∃ (pre suf : List StepD) (f : Int) (O : Option Addr) (co : Nat), vf = .int .i64 f ∧ vo = .slice O pre.length co ∧ Hid (AllI l a b n d pre suf f) ∧ Hid (OwnW wr wa.heap.size (.slice O pre.length co) pre) ∧ Hid (Below wa.heap.size wa wr)) (fun _ vf _ => (b + 1 - intOf vf).toNat)
  case atStart => exact ⟨[], fitL l n d a b, a, none, 0, rfl, rfl, HST, Lib.hid (OwnW.nil _ _), Lib.hid (Below.refl _ _)⟩
  case round =>
    clear HST
    obtain ⟨wO, rfl⟩ : ∃ z, z = wr := ⟨wr, rfl⟩
    obtain ⟨pre, suf, f, O, co, rfl, rfl, HA, HO, HX⟩ := hrel
    have y0 := kp HX.out Y.out.1; have y1 := kp HX.out Y.out.2
    by_cases hf : f ≤ b
    · have hfa := HA.out.lo
      have hfi := HFI.out f ⟨by omega, by omega⟩ wO (HBa.out.trans (HX.out.mono HBa.out.size))
      rcases allI_first HREQ.out HA.out hf with ⟨hs, e1⟩ | ⟨x, rr, hs, e1, hx0⟩
      · have hpre : pre = fitL l n d a b := by
          have := HA.out.all
          rw [hs, List.append_nil] at this
          exact this
        have HPRE := Lib.hid hpre
        rw [e1] at hfi
        clear hs e1 hpre
        go_wp2_with fail
        refine hfi.mono ?_
        rintro e w2 ⟨rfl, hb2⟩
        have HO2 := Lib.hid (OwnW.below HO.out hb2)
        have HX2 := Lib.hid (HBa.out.trans ((HX.out.trans (hb2.mono HX.out.size)).mono HBa.out.size))
        clear hb2 hfi
        go_wp2_with fail
        go_ret
        obtain ⟨A2, c2, e2, hi2⟩ := OwnW.slice HO2.out
        injection e2 with e2 e3 e4
        subst e2 e4
        exact ⟨O, co, by rw [← HPRE.out]; rfl, by rw [← HPRE.out]; exact hi2, HX2.out⟩
      · subst hs
        obtain ⟨l1, l2, l3, l4, l5⟩ := HLA.out pre x rr f HA.out
        have HL1 : Hid (bF (okF (fitB l n d a b) x.at_ T) x.at_ (T.drop 0) = x.fr) := Lib.hid l1
        have HA2 := Lib.hid l5
        rw [e1] at hfi
        have hxn : ¬ x.at_ < 0 := by omega
        clear e1 l1 l5
        go_wp2_with fail
        refine hfi.mono ?_
        rintro e w2 ⟨rfl, hb2⟩
        have HO2 := Lib.hid (OwnW.below HO.out hb2)
        have HX2 := Lib.hid (HX.out.trans (hb2.mono HX.out.size))
        have z0 := kp hb2 y0; have z1 := kp hb2 y1
        clear hb2 hfi y0 y1
        go_wp2_with fail
        refine (HT.out _ (HBa.out.trans (HX2.out.mono HBa.out.size))).mono ?_
        rintro e w3 ⟨AT, cT, rfl, hit, hb3⟩
        have HIT := Lib.hid hit
        have HO3 := Lib.hid (OwnW.below HO2.out hb3)
        have HQW := Lib.hid (HX2.out.trans (hb3.mono HX2.out.size))
        have HQL := HQ
        clear hit hb3 z0 z1
        go_wp2_with fail
        go_loopw [12, 14] (fun vb vi wr => ∃ (i : Nat) (bb : Int), i ≤ q ∧ vi = .int .i64 i ∧ vb = .int .i64 bb ∧ Hid (bF (okF (fitB l n d a b) x.at_ T) bb (T.drop i) = x.fr) ∧ Hid (Below w3.heap.size w3 wr)) (fun _ vi _ => q - (intOf vi).toNat)
        case atStart => exact ⟨0, x.at_, Nat.zero_le _, rfl, rfl, HL1, Lib.hid (Below.refl _ _)⟩
        case round =>
          clear HL1
          obtain ⟨wI, rfl⟩ : ∃ z, z = wr := ⟨wr, rfl⟩
          obtain ⟨i, bb, hiq, rfl, rfl, HRB, HXI⟩ := hrel
          by_cases hli : i < q
          · obtain ⟨tb, to_, t, eT, ht, ct⟩ := (Ints.below HIT.out HXI.out).at_ (k := i) (by rw [HQL.out]; exact hli)
            subst eT
            have hdi : T.drop i = t :: T.drop (i + 1) := by rw [List.drop_eq_getElem_cons (by rw [HQL.out]; exact hli), (List.getElem?_eq_some_iff.1 ht).2]
            have hR := HRB.out
            rw [hdi] at hR
            unfold bF at hR
            have hfit := HF.out t (List.mem_of_getElem? ht)
            obtain ⟨r, hr⟩ : ∃ r, fitB l n d a b t = r := ⟨_, rfl⟩
            rw [hr] at hfit
            have hok : okF (fitB l n d a b) x.at_ T t = (r && !gF (fitB l n d a b) x.at_ t false T) := by unfold okF; rw [hr]
            have HQ0 := Lib.hid (HQW.out.trans ((HXI.out.trans ((dr wI).mono HXI.out.size)).mono HQW.out.size))
            have HX0 := Lib.hid (HXI.out.trans ((dr wI).mono HXI.out.size))
            have s0 : wI.drew.cell? ⟨w.heap.size, 0, none⟩ = some (.int .i64 a) ∧ wI.drew.cell? ⟨w.heap.size, 1, none⟩ = some (.int .i64 b) ∧ wI.drew.cell? ⟨tb, to_ + i, none⟩ = some (.int .i64 t) := ⟨kp HQ0.out Y.out.1, kp HQ0.out Y.out.2, ct⟩
            by_cases b0 : bb < t
            case neg =>
              rw [if_neg (by rintro ⟨h, _⟩; exact b0 h)] at hR
              have HR2 := Lib.hid hR
              have g0 : decide (bb < t) = false := decide_eq_false b0
              clear hR hok hfit
              clear HRB hdi ht hr 
              go_wp2_with fail
              clear ct
              refine wp_region_R (fun (W : World) => W.cell? ⟨w.heap.size, 0, none⟩ = some (.int .i64 a) ∧ W.cell? ⟨w.heap.size, 1, none⟩ = some (.int .i64 b) ∧ W.cell? ⟨tb, to_ + i, none⟩ = some (.int .i64 t)) 17 (by kernel_rfl) ?_
              refine wpAnyR_leadI (by kernel_rfl) ?hQ ?hS0 [0, 1, 2, 3, 4, 5, 6, 7, 8, 9, 10, 11, 12, 13, 14, 15, 16] 0 _ _ (by kernel_rfl) ?_
              case hQ => intro c a d v w h; cases d <;> exact h
              case hS0 => exact s0
              iterate 7 (refine wpLeadI_read (v := ?_) _ rfl rfl (by rfl) ?_ ?_; rotate_left; (intro W hW; (try dsimp only at hW); go_simp; (try with_reducible rfl)); try simp only [Act.put, List.setIfInBounds_toArray, List.set_cons_succ, List.set_cons_zero])
              iterate 9 (refine wpLeadI_skip _ rfl rfl (by kernel_rfl) ?_; try simp only [Act.put, List.setIfInBounds_toArray, List.set_cons_succ, List.set_cons_zero])
              iterate 1 (refine wpLeadI_read (v := ?_) _ rfl rfl (by rfl) ?_ ?_; rotate_left; (intro W hW; (try dsimp only at hW); go_simp; (try with_reducible rfl)); try simp only [Act.put, List.setIfInBounds_toArray, List.set_cons_succ, List.set_cons_zero])
              simp only [wpLeadI]
              refine ⟨by kernel_rfl, ?_⟩
              go_wp2_with fail
              refine ⟨⟨i + 1, _, by omega, by go_num, by first | rfl | trivial, HR2, HX0⟩, ?_⟩
              simp [intOf]; omega
            have g0 : decide (bb < t) = true := decide_eq_true b0
            cases r
            · rw [if_neg (by rintro ⟨_, h⟩; rw [hok] at h; cases h)] at hR
              have HR2 := Lib.hid hR
              clear hR hok
              clear HRB hdi ht hr 
              go_wp2_with fail
              clear ct
              refine wp_region_R (fun (W : World) => W.cell? ⟨w.heap.size, 0, none⟩ = some (.int .i64 a) ∧ W.cell? ⟨w.heap.size, 1, none⟩ = some (.int .i64 b) ∧ W.cell? ⟨tb, to_ + i, none⟩ = some (.int .i64 t)) 17 (by kernel_rfl) ?_
              refine wpAnyR_leadI (by kernel_rfl) ?hQ ?hS0 [0, 1, 2, 3, 4, 5, 6, 7, 8, 9, 10, 11, 12, 13, 14] 2 _ _ (by kernel_rfl) ?_
              case hQ => intro c a d v w h; cases d <;> exact h
              case hS0 => exact s0
              iterate 15 (refine wpLeadI_read (v := ?_) _ rfl rfl (by rfl) ?_ ?_; rotate_left; (intro W hW; (try dsimp only at hW); go_simp; (try with_reducible rfl)); try simp only [Act.put, List.setIfInBounds_toArray, List.set_cons_succ, List.set_cons_zero])
              simp only [wpLeadI]
              refine wpAnyR_one (i := 15) rfl (by kernel_rfl) ?_
              intro K1 hK1
              go_simp
              refine (hfit _ (HBa.out.trans ((HQ0.out).mono HBa.out.size))).mono ?_
              rintro e x1 ⟨rfl, hb2⟩
              have s1 : x1.cell? ⟨w.heap.size, 0, none⟩ = some (.int .i64 a) ∧ x1.cell? ⟨w.heap.size, 1, none⟩ = some (.int .i64 b) ∧ x1.cell? ⟨tb, to_ + i, none⟩ = some (.int .i64 t) := ⟨kp hb2 s0.1, kp hb2 s0.2.1, kp hb2 s0.2.2⟩
              have HQ1 := Lib.hid (HQ0.out.trans (hb2.mono HQ0.out.size))
              have HX1 := Lib.hid (HX0.out.trans (hb2.mono HX0.out.size))
              clear hb2
              refine hK1.out _ _ s1 ?_
              clear hK1 K1
              refine wpAnyR_leadI (by kernel_rfl) ?hQ ?hS0 [16] 0 _ _ (by kernel_rfl) ?_
              case hQ => intro c a d v w h; cases d <;> exact h
              case hS0 => exact s1
              iterate 1 (refine wpLeadI_read (v := ?_) _ rfl rfl (by rfl) ?_ ?_; rotate_left; (intro W hW; (try dsimp only at hW); go_simp; (try with_reducible rfl)); try simp only [Act.put, List.setIfInBounds_toArray, List.set_cons_succ, List.set_cons_zero])
              simp only [wpLeadI]
              refine ⟨by kernel_rfl, ?_⟩
              go_wp2_with fail
              refine ⟨⟨i + 1, _, by omega, by go_num, by first | rfl | trivial, HR2, HX1⟩, ?_⟩
              simp [intOf]; omega
            · obtain ⟨g, hg⟩ : ∃ g, gF (fitB l n d a b) x.at_ t false T = g := ⟨_, rfl⟩
              rw [hg, Bool.true_and] at hok
              have HOK : Hid ((g = false → okF (fitB l n d a b) x.at_ T t = true) ∧ (g = true → okF (fitB l n d a b) x.at_ T t = false)) := Lib.hid ⟨fun e => by rw [hok, e]; rfl, fun e => by rw [hok, e]; rfl⟩
              have HG0 : Hid (gF (fitB l n d a b) x.at_ t false (T.drop 0) = g) := Lib.hid hg
              clear hok hg
              clear HRB hdi ht hr 
              go_wp2_with fail
              clear ct
              refine wp_region_R (fun (W : World) => W.cell? ⟨w.heap.size, 0, none⟩ = some (.int .i64 a) ∧ W.cell? ⟨w.heap.size, 1, none⟩ = some (.int .i64 b) ∧ W.cell? ⟨tb, to_ + i, none⟩ = some (.int .i64 t)) 17 (by kernel_rfl) ?_
              refine wpAnyR_leadI (by kernel_rfl) ?hQ ?hS0 [0, 1, 2, 3, 4, 5, 6, 7, 8, 9, 10, 11, 12, 13, 14] 2 _ _ (by kernel_rfl) ?_
              case hQ => intro c a d v w h; cases d <;> exact h
              case hS0 => exact s0
              iterate 15 (refine wpLeadI_read (v := ?_) _ rfl rfl (by rfl) ?_ ?_; rotate_left; (intro W hW; (try dsimp only at hW); go_simp; (try with_reducible rfl)); try simp only [Act.put, List.setIfInBounds_toArray, List.set_cons_succ, List.set_cons_zero])
              simp only [wpLeadI]
              refine wpAnyR_one (i := 15) rfl (by kernel_rfl) ?_
              intro K1 hK1
              go_simp
              refine (hfit _ (HBa.out.trans ((HQ0.out).mono HBa.out.size))).mono ?_
              rintro e x1 ⟨rfl, hb2⟩
              have s1 : x1.cell? ⟨w.heap.size, 0, none⟩ = some (.int .i64 a) ∧ x1.cell? ⟨w.heap.size, 1, none⟩ = some (.int .i64 b) ∧ x1.cell? ⟨tb, to_ + i, none⟩ = some (.int .i64 t) := ⟨kp hb2 s0.1, kp hb2 s0.2.1, kp hb2 s0.2.2⟩
              have HQ1 := Lib.hid (HQ0.out.trans (hb2.mono HQ0.out.size))
              have HX1 := Lib.hid (HX0.out.trans (hb2.mono HX0.out.size))
              clear hb2
              refine hK1.out _ _ s1 ?_
              clear hK1 K1
              refine wpAnyR_leadI (by kernel_rfl) ?hQ ?hS0 [16] 0 _ _ (by kernel_rfl) ?_
              case hQ => intro c a d v w h; cases d <;> exact h
              case hS0 => exact s1
              iterate 1 (refine wpLeadI_read (v := ?_) _ rfl rfl (by rfl) ?_ ?_; rotate_left; (intro W hW; (try dsimp only at hW); go_simp; (try with_reducible rfl)); try simp only [Act.put, List.setIfInBounds_toArray, List.set_cons_succ, List.set_cons_zero])
              simp only [wpLeadI]
              refine ⟨by kernel_rfl, ?_⟩
              have CT := Lib.hid s1.2.2
              clear s1 s0 hfit
              go_wp2_with fail
              go_loopw [15, 16] (fun vg vk wr => ∃ (k : Nat) (acc : Bool), k ≤ q ∧ vk = .int .i64 k ∧ vg = .bool acc ∧ Hid (gF (fitB l n d a b) x.at_ t acc (T.drop k) = g) ∧ Hid (Below x1.heap.size x1 wr)) (fun _ vk _ => q - (intOf vk).toNat)
              case atStart => exact ⟨0, false, Nat.zero_le _, rfl, rfl, HG0, Lib.hid (Below.refl _ _)⟩
              case round =>
                clear HG0
                obtain ⟨k, acc, hkq, rfl, rfl, HGK, HXK⟩ := hrel
                by_cases hlk : k < q
                · obtain ⟨tb2, to2, u, eT2, hu, cu⟩ := (Ints.below HIT.out (HX1.out.trans (HXK.out.mono HX1.out.size))).at_ (k := k) (by rw [HQL.out]; exact hlk)
                  injection eT2 with eT2
                  injection eT2 with e8 e9
                  subst e8 e9
                  have hdk : T.drop k = u :: T.drop (k + 1) := by rw [List.drop_eq_getElem_cons (by rw [HQL.out]; exact hlk), (List.getElem?_eq_some_iff.1 hu).2]
                  have hG := HGK.out
                  rw [hdk] at hG
                  unfold gF at hG
                  have hfitu := HF.out u (List.mem_of_getElem? hu)
                  obtain ⟨ru, hru⟩ : ∃ r, fitB l n d a b u = r := ⟨_, rfl⟩
                  rw [hru] at hG hfitu
                  have ct2 := kp HXK.out CT.out
                  have HQ2 := Lib.hid (HQ1.out.trans ((HXK.out.trans ((dr wr).mono HXK.out.size)).mono HQ1.out.size))
                  have HX2 := Lib.hid (HXK.out.trans ((dr wr).mono HXK.out.size))
                  have r0 : wr.drew.cell? ⟨w.heap.size, 0, none⟩ = some (.int .i64 a) ∧ wr.drew.cell? ⟨w.heap.size, 1, none⟩ = some (.int .i64 b) ∧ wr.drew.cell? ⟨tb, to_ + k, none⟩ = some (.int .i64 u) ∧ wr.drew.cell? ⟨tb, to_ + i, none⟩ = some (.int .i64 t) := ⟨kp HQ2.out Y.out.1, kp HQ2.out Y.out.2, cu, ct2⟩
                  by_cases c1 : x.at_ < u
                  case neg =>
                    rw [if_neg (by rintro ⟨h, _⟩; exact c1 h)] at hG
                    have HG2 := Lib.hid hG
                    have g0 : decide (x.at_ < u) = false := decide_eq_false c1
                    clear hG HGK hdk hu hru 
                    go_wp2_with fail
                    clear cu ct2
                    refine wp_region_R (fun (W : World) => W.cell? ⟨w.heap.size, 0, none⟩ = some (.int .i64 a) ∧ W.cell? ⟨w.heap.size, 1, none⟩ = some (.int .i64 b) ∧ W.cell? ⟨tb, to_ + k, none⟩ = some (.int .i64 u) ∧ W.cell? ⟨tb, to_ + i, none⟩ = some (.int .i64 t)) 29 (by kernel_rfl) ?_
                    refine wpAnyR_leadI (by kernel_rfl) ?hQ ?hS0 [0, 1, 2, 3, 4, 5, 6, 7, 8, 9, 10, 11, 12, 13, 14, 15, 16, 17, 18, 19, 20, 21, 22, 23, 24, 25, 26, 27, 28] 0 _ _ (by kernel_rfl) ?_
                    case hQ => intro c a d v w h; cases d <;> exact h
                    case hS0 => exact r0
                    iterate 7 (refine wpLeadI_read (v := ?_) _ rfl rfl (by rfl) ?_ ?_; rotate_left; (intro W hW; (try dsimp only at hW); go_simp; (try with_reducible rfl)); try simp only [Act.put, List.setIfInBounds_toArray, List.set_cons_succ, List.set_cons_zero])
                    iterate 9 (refine wpLeadI_skip _ rfl rfl (by kernel_rfl) ?_; try simp only [Act.put, List.setIfInBounds_toArray, List.set_cons_succ, List.set_cons_zero])
                    iterate 2 (refine wpLeadI_read (v := ?_) _ rfl rfl (by rfl) ?_ ?_; rotate_left; (intro W hW; (try dsimp only at hW); go_simp; (try with_reducible rfl)); try simp only [Act.put, List.setIfInBounds_toArray, List.set_cons_succ, List.set_cons_zero])
                    iterate 10 (refine wpLeadI_skip _ rfl rfl (by kernel_rfl) ?_; try simp only [Act.put, List.setIfInBounds_toArray, List.set_cons_succ, List.set_cons_zero])
                    iterate 1 (refine wpLeadI_read (v := ?_) _ rfl rfl (by rfl) ?_ ?_; rotate_left; (intro W hW; (try dsimp only at hW); go_simp; (try with_reducible rfl)); try simp only [Act.put, List.setIfInBounds_toArray, List.set_cons_succ, List.set_cons_zero])
                    simp only [wpLeadI]
                    refine ⟨by kernel_rfl, ?_⟩
                    go_wp2_with fail
                    refine ⟨⟨k + 1, _, by omega, by go_num, by first | rfl | trivial, HG2, HX2⟩, ?_⟩
                    simp [intOf]; omega
                  have g0 : decide (x.at_ < u) = true := decide_eq_true c1
                  by_cases c2 : u < t
                  case neg =>
                    rw [if_neg (by rintro ⟨_, h, _⟩; exact c2 h)] at hG
                    have HG2 := Lib.hid hG
                    have g1 : decide (u < t) = false := decide_eq_false c2
                    clear hG HGK hdk hu hru 
                    go_wp2_with fail
                    clear cu ct2
                    refine wp_region_R (fun (W : World) => W.cell? ⟨w.heap.size, 0, none⟩ = some (.int .i64 a) ∧ W.cell? ⟨w.heap.size, 1, none⟩ = some (.int .i64 b) ∧ W.cell? ⟨tb, to_ + k, none⟩ = some (.int .i64 u) ∧ W.cell? ⟨tb, to_ + i, none⟩ = some (.int .i64 t)) 29 (by kernel_rfl) ?_
                    refine wpAnyR_leadI (by kernel_rfl) ?hQ ?hS0 [0, 1, 2, 3, 4, 5, 6, 7, 8, 9, 10, 11, 12, 13, 14, 15, 16, 17, 18, 19, 20, 21, 22, 23, 24, 25, 26, 27, 28] 0 _ _ (by kernel_rfl) ?_
                    case hQ => intro c a d v w h; cases d <;> exact h
                    case hS0 => exact r0
                    iterate 18 (refine wpLeadI_read (v := ?_) _ rfl rfl (by rfl) ?_ ?_; rotate_left; (intro W hW; (try dsimp only at hW); go_simp; (try with_reducible rfl)); try simp only [Act.put, List.setIfInBounds_toArray, List.set_cons_succ, List.set_cons_zero])
                    iterate 10 (refine wpLeadI_skip _ rfl rfl (by kernel_rfl) ?_; try simp only [Act.put, List.setIfInBounds_toArray, List.set_cons_succ, List.set_cons_zero])
                    iterate 1 (refine wpLeadI_read (v := ?_) _ rfl rfl (by rfl) ?_ ?_; rotate_left; (intro W hW; (try dsimp only at hW); go_simp; (try with_reducible rfl)); try simp only [Act.put, List.setIfInBounds_toArray, List.set_cons_succ, List.set_cons_zero])
                    simp only [wpLeadI]
                    refine ⟨by kernel_rfl, ?_⟩
                    go_wp2_with fail
                    refine ⟨⟨k + 1, _, by omega, by go_num, by first | rfl | trivial, HG2, HX2⟩, ?_⟩
                    simp [intOf]; omega
                  have g1 : decide (u < t) = true := decide_eq_true c2
                  cases ru
                  · rw [if_pos ⟨c1, c2, rfl⟩] at hG
                    have HG2 := Lib.hid hG
                    clear hG HGK hdk hu hru 
                    go_wp2_with fail
                    clear cu ct2
                    refine wp_region_R (fun (W : World) => W.cell? ⟨w.heap.size, 0, none⟩ = some (.int .i64 a) ∧ W.cell? ⟨w.heap.size, 1, none⟩ = some (.int .i64 b) ∧ W.cell? ⟨tb, to_ + k, none⟩ = some (.int .i64 u) ∧ W.cell? ⟨tb, to_ + i, none⟩ = some (.int .i64 t)) 29 (by kernel_rfl) ?_
                    refine wpAnyR_leadI (by kernel_rfl) ?hQ ?hS0 [0, 1, 2, 3, 4, 5, 6, 7, 8, 9, 10, 11, 12, 13, 14, 15, 16, 17, 18, 19, 20, 21, 22, 23, 24, 25] 3 _ _ (by kernel_rfl) ?_
                    case hQ => intro c a d v w h; cases d <;> exact h
                    case hS0 => exact r0
                    iterate 26 (refine wpLeadI_read (v := ?_) _ rfl rfl (by rfl) ?_ ?_; rotate_left; (intro W hW; (try dsimp only at hW); go_simp; (try with_reducible rfl)); try simp only [Act.put, List.setIfInBounds_toArray, List.set_cons_succ, List.set_cons_zero])
                    simp only [wpLeadI]
                    refine wpAnyR_one (i := 26) rfl (by kernel_rfl) ?_
                    intro K1 hK1
                    go_simp
                    refine (hfitu _ (HBa.out.trans ((HQ2.out).mono HBa.out.size))).mono ?_
                    rintro e x3 ⟨rfl, hb4⟩
                    have r1 : x3.cell? ⟨w.heap.size, 0, none⟩ = some (.int .i64 a) ∧ x3.cell? ⟨w.heap.size, 1, none⟩ = some (.int .i64 b) ∧ x3.cell? ⟨tb, to_ + k, none⟩ = some (.int .i64 u) ∧ x3.cell? ⟨tb, to_ + i, none⟩ = some (.int .i64 t) := ⟨kp hb4 r0.1, kp hb4 r0.2.1, kp hb4 r0.2.2.1, kp hb4 r0.2.2.2⟩
                    have HQ3 := Lib.hid (HQ2.out.trans (hb4.mono HQ2.out.size))
                    have HX3 := Lib.hid (HX2.out.trans (hb4.mono HX2.out.size))
                    clear hb4
                    refine hK1.out _ _ r1 ?_
                    clear hK1 K1
                    refine wpAnyR_leadI (by kernel_rfl) ?hQ ?hS0 [27, 28] 0 _ _ (by kernel_rfl) ?_
                    case hQ => intro c a d v w h; cases d <;> exact h
                    case hS0 => exact r1
                    iterate 2 (refine wpLeadI_read (v := ?_) _ rfl rfl (by rfl) ?_ ?_; rotate_left; (intro W hW; (try dsimp only at hW); go_simp; (try with_reducible rfl)); try simp only [Act.put, List.setIfInBounds_toArray, List.set_cons_succ, List.set_cons_zero])
                    simp only [wpLeadI]
                    refine ⟨by kernel_rfl, ?_⟩
                    go_wp2_with fail
                    refine ⟨⟨k + 1, _, by omega, by go_num, by first | rfl | trivial, HG2, HX3⟩, ?_⟩
                    simp [intOf]; omega
                  · rw [if_neg (by rintro ⟨_, _, h⟩; cases h)] at hG
                    have HG2 := Lib.hid hG
                    clear hG HGK hdk hu hru 
                    go_wp2_with fail
                    clear cu ct2
                    refine wp_region_R (fun (W : World) => W.cell? ⟨w.heap.size, 0, none⟩ = some (.int .i64 a) ∧ W.cell? ⟨w.heap.size, 1, none⟩ = some (.int .i64 b) ∧ W.cell? ⟨tb, to_ + k, none⟩ = some (.int .i64 u) ∧ W.cell? ⟨tb, to_ + i, none⟩ = some (.int .i64 t)) 29 (by kernel_rfl) ?_
                    refine wpAnyR_leadI (by kernel_rfl) ?hQ ?hS0 [0, 1, 2, 3, 4, 5, 6, 7, 8, 9, 10, 11, 12, 13, 14, 15, 16, 17, 18, 19, 20, 21, 22, 23, 24, 25] 3 _ _ (by kernel_rfl) ?_
                    case hQ => intro c a d v w h; cases d <;> exact h
                    case hS0 => exact r0
                    iterate 26 (refine wpLeadI_read (v := ?_) _ rfl rfl (by rfl) ?_ ?_; rotate_left; (intro W hW; (try dsimp only at hW); go_simp; (try with_reducible rfl)); try simp only [Act.put, List.setIfInBounds_toArray, List.set_cons_succ, List.set_cons_zero])
                    simp only [wpLeadI]
                    refine wpAnyR_one (i := 26) rfl (by kernel_rfl) ?_
                    intro K1 hK1
                    go_simp
                    refine (hfitu _ (HBa.out.trans ((HQ2.out).mono HBa.out.size))).mono ?_
                    rintro e x3 ⟨rfl, hb4⟩
                    have r1 : x3.cell? ⟨w.heap.size, 0, none⟩ = some (.int .i64 a) ∧ x3.cell? ⟨w.heap.size, 1, none⟩ = some (.int .i64 b) ∧ x3.cell? ⟨tb, to_ + k, none⟩ = some (.int .i64 u) ∧ x3.cell? ⟨tb, to_ + i, none⟩ = some (.int .i64 t) := ⟨kp hb4 r0.1, kp hb4 r0.2.1, kp hb4 r0.2.2.1, kp hb4 r0.2.2.2⟩
                    have HQ3 := Lib.hid (HQ2.out.trans (hb4.mono HQ2.out.size))
                    have HX3 := Lib.hid (HX2.out.trans (hb4.mono HX2.out.size))
                    clear hb4
                    refine hK1.out _ _ r1 ?_
                    clear hK1 K1
                    refine wpAnyR_leadI (by kernel_rfl) ?hQ ?hS0 [27, 28] 0 _ _ (by kernel_rfl) ?_
                    case hQ => intro c a d v w h; cases d <;> exact h
                    case hS0 => exact r1
                    iterate 2 (refine wpLeadI_read (v := ?_) _ rfl rfl (by rfl) ?_ ?_; rotate_left; (intro W hW; (try dsimp only at hW); go_simp; (try with_reducible rfl)); try simp only [Act.put, List.setIfInBounds_toArray, List.set_cons_succ, List.set_cons_zero])
                    simp only [wpLeadI]
                    refine ⟨by kernel_rfl, ?_⟩
                    go_wp2_with fail
                    refine ⟨⟨k + 1, _, by omega, by go_num, by first | rfl | trivial, HG2, HX3⟩, ?_⟩
                    simp [intOf]; omega
                · obtain rfl : k = q := by omega
                  have hG := HGK.out
                  rw [List.drop_eq_nil_of_le (by rw [HQL.out]; exact Nat.le_refl _)] at hG
                  obtain rfl : acc = g := hG
                  clear HGK
                  have ct3 := kp HXK.out CT.out
                  have HX5 := Lib.hid (HX1.out.trans (HXK.out.mono HX1.out.size))
                  cases acc
                  · rw [if_pos ⟨b0, HOK.out.1 rfl⟩] at hR
                    have HR2 := Lib.hid hR
                    clear hR
                    go_wp2_with fail
                    refine ⟨⟨i + 1, _, by omega, by go_num, by first | rfl | trivial, HR2, HX5⟩, ?_⟩
                    simp [intOf]; omega
                  · rw [if_neg (by rintro ⟨_, h⟩; rw [HOK.out.2 rfl] at h; cases h)] at hR
                    have HR2 := Lib.hid hR
                    clear hR
                    go_wp2_with fail
                    refine ⟨⟨i + 1, _, by omega, by go_num, by first | rfl | trivial, HR2, HX5⟩, ?_⟩
                    simp [intOf]; omega
          · obtain rfl : i = q := by omega
            have hR := HRB.out
            rw [List.drop_eq_nil_of_le (by rw [HQL.out]; exact Nat.le_refl _)] at hR
            obtain rfl : bb = x.fr := hR
            clear HRB
            have hlen : pre.length ≤ 1000000 := by
              have h1 := congrArg List.length HA2.out.all
              have h2 := HRL.out
              rw [List.length_append, List.length_append] at h1
              omega
            have HO6 := Lib.hid (OwnW.below (OwnW.below HO3.out HXI.out) (al wI (.cells #[.int .i64 x.at_, .int .i64 x.fr] 28)))
            have HW6 := Lib.hid (HQW.out.trans ((HXI.out.trans ((al wI (.cells #[.int .i64 x.at_, .int .i64 x.fr] 28)).mono HXI.out.size)).mono HQW.out.size))
            have wx : IntKind.i64.wrap (x.fr + 1) = x.fr + 1 := IntWalk.i64_in _ (by omega)
            go_wp2_with (at_builtin; refine wpList_appw rfl _ _ rfl wa.heap.size _ pre rfl HO6.out wI.heap.size 1 x rfl (new2 wI _ _ _).1 (new2 wI _ _ _).2 hlen HW6.out.size ?_; intro A' c' w' ho' hb'; have HO7 := Lib.hid ho'; have HW7 := Lib.hid (HW6.out.trans hb'); clear ho' hb')
            refine ⟨⟨pre ++ [x], rr, x.fr + 1, A', c', by first | rfl | trivial, by simp, HA2, HO7, HW7⟩, ?_⟩
            have hfx : f ≤ x.at_ := by have := HA.out.sep.1; omega
            simp [intOf]; omega
    · have hpre := allI_end HREQ.out HA.out (by omega)
      have HPRE := Lib.hid hpre
      clear hpre
      go_wp2_with fail
      go_ret
      obtain ⟨A2, c2, e2, hi2⟩ := OwnW.slice HO.out
      injection e2 with e2 e3 e4
      subst e2 e4
      exact ⟨O, co, by rw [← HPRE.out]; rfl, by rw [← HPRE.out]; exact hi2, HBa.out.trans (HX.out.mono HBa.out.size)⟩
end Go.Proofs.Ytldmkbmkjdnaaaa.Ft

