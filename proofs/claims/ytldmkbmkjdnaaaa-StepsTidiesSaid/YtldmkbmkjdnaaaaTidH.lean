/- The document's Tidy of any steps. -/
import Derived.Test.YtldmkbmkjdnaaaaTidT
import Derived.Test.YtldmkbmkjdnaaaaTidHP
import Derived.Test.YtldmkbmkjdnaaaaFitReg
namespace Go.Proofs.Ytldmkbmkjdnaaaa.Stp
open Go.RowKit Go.Shelf Go.Proofs.Ytldmkbmkjdnaaaa.Srt Go.Proofs.Ytldmkbmkjdnaaaa.Ft
open Dag (Ints Own1 OwnI Sl ints ints_len ints_app)
set_option linter.unusedVariables false
set_option maxRecDepth 100000
theorem row1 (w : World) (s : StepD) : RowS (w.alloc (.cells #[.int .i64 s.at_, .int .i64 s.fr] 52)) w.heap.size 1 [s] := by
  refine ⟨⟨_, heap_alloc_new w _, rfl, fun k u hk => ?_⟩, by simp, by decide⟩
  match k, hk with
  | 0, hk => injection hk with hk; subst hk; exact ⟨rfl, rfl⟩
  | k + 1, hk => simp at hk
theorem RowS.apart {w w' : World} {g c : Nat} {X : List StepD} (h : RowS w g c X) {r : Option Nat} (hg : w.grownBy w' r) (hr : some g ≠ r) : RowS w' g c X := by
  obtain ⟨cur, h1, h2, h3⟩ := h.blk
  exact ⟨⟨cur, by rw [hg.block g (Dag.blk_lt h1) hr]; exact h1, h2, h3⟩, h.cap, h.top⟩
theorem apart_sym {a b : Option Nat} (h : a = none ∨ a ≠ b) : b = none ∨ b ≠ a := by
  rcases h with rfl | h
  · cases b with
    | none => exact Or.inl rfl
    | some g => exact Or.inr (by simp)
  · exact Or.inr (Ne.symm h)
theorem some_ne {d : Option Nat} {g : Nat} (h : d = none ∨ d ≠ some g) : some g ≠ d := by
  rcases h with rfl | h
  · simp
  · exact Ne.symm h
theorem newblk {x d o : Option Nat} {sB N : Nat} (h : d = none ∨ (d ≠ o ∧ d ≠ some sB)) (hx : x = d ∨ x = some N) (ho : ∀ g, o = some g → g < N) (hs : sB < N) : x = none ∨ (x ≠ o ∧ x ≠ some sB) := by
  rcases hx with rfl | rfl
  · exact h
  · refine Or.inr ⟨fun e => by have := ho N e.symm; omega, fun e => by injection e with e; omega⟩
theorem newblk2 {d o x : Option Nat} {N : Nat} (h : d = none ∨ d ≠ o) (hx : x = o ∨ ∃ g, x = some g ∧ N ≤ g) (hd : ∀ g, d = some g → g < N) : d = none ∨ d ≠ x := by
  rcases hx with rfl | ⟨g, rfl, hg⟩
  · exact h
  · cases d with
    | none => exact Or.inl rfl
    | some k => exact Or.inr fun e => by injection e with e; have := hd k rfl; omega
set_option maxHeartbeats 6400000 in
theorem rtidyA_any (l : List StepD) (A : Option Addr) (n c : Nat) (hn : l.length = n) (hb : n ≤ 1000) (w : World) (h : Stp w A c l) :
    Calls Try.prog 14 #[.slice A n c] w fun e w' => ∃ R, TidyR l R ∧ RetP w.heap.size R w e w' := by
  have H := Lib.hid h; have HN := Lib.hid hn
  obtain ⟨T0, hT0⟩ := low_ex l
  have HT0 : Hid (DoneI l T0 [] ∧ ∀ lo d, TidyOf lo d (ahd l T0) []) := Lib.hid ⟨DoneI.nil fun u hu => by have := hT0 u hu; omega, fun lo d => by
    rw [show ahd l T0 = [] from List.filter_eq_nil_iff.2 (fun u hu => by rw [decide_eq_true_eq]; have := hT0 u hu; omega)]; exact TidyOf.nil lo d⟩
  have HH := Lib.hid fun (ds : List Int) (x : Int) (D : Option Addr) (k cd : Nat) (hk : ds.length = k) (hkb : k ≤ 100000) (W : World) (hd : Ints W D cd ds) => hasI_any ds x D k cd hk hkb W hd
  clear h hn hT0
  go_enter Try.func14, Try.ntmps14
  go_wp2
  go_loopw [3, 4] (fun vo vd wr => ∃ (out : List StepD) (dn : List Int) (O D : Option Addr) (co cd : Nat), out.length ≤ dn.length ∧ dn.length ≤ n ∧ vo = .slice O out.length co ∧ vd = .slice D dn.length cd ∧ Hid (OwnS wr w.heap.size (.slice O out.length co) out) ∧ Hid (OwnI wr w.heap.size (.slice D dn.length cd) dn) ∧ Hid ((Value.slice D dn.length cd).ownBlock = none ∨ (Value.slice D dn.length cd).ownBlock ≠ (Value.slice O out.length co).ownBlock) ∧ Hid (Below w.heap.size w wr) ∧ Hid (∃ T, DoneI l T dn ∧ ∀ lo d, (∀ u ∈ l, lo < u.at_) → (∀ u ∈ l, u.fr ≠ d) → TidyOf lo d (ahd l T) out)) (fun _ vd _ => n - lenI vd)
  case atStart => exact ⟨[], [], none, none, 0, 0, Nat.le_refl _, Nat.zero_le _, rfl, rfl, Lib.hid (OwnS.nil _ _), Lib.hid (Own1.nil _ _ _), Lib.hid (Or.inl rfl), Lib.hid (Below.refl _ _), Lib.hid ⟨T0, HT0.out.1, fun lo d _ _ => HT0.out.2 lo d⟩⟩
  case round =>
    obtain ⟨wA, rfl⟩ : ∃ x, x = wr := ⟨wr, rfl⟩
    obtain ⟨out, dn, O, D, co, cd, hol, hdl, rfl, rfl, HO, HD, HAP, HX, HT⟩ := hrel
    obtain ⟨k, hk⟩ : ∃ k, dn.length = k := ⟨_, rfl⟩
    obtain ⟨q, hq⟩ : ∃ q, out.length = q := ⟨_, rfl⟩
    rw [hk] at HD HAP hol hdl ⊢
    rw [hq] at HO HAP hol ⊢
    have HKL := Lib.hid hk; have HQL := Lib.hid hq
    clear hk hq
    by_cases hlt : k < n
    · have HT2 := HT.out
      obtain ⟨T, hTd, hTt⟩ := HT2
      have HTD := Lib.hid hTd; have HTT := Lib.hid hTt
      clear hTd hTt HT
      go_wp2
      go_loopw [5, 6] (fun vb vi wr => ∃ (i : Nat) (B : Int), i ≤ n ∧ vi = .int .i64 i ∧ vb = .int .i64 B ∧ Hid (Below wA.heap.size wA wr) ∧ Hid (BestI l T i B)) (fun _ vi _ => n - (intOf vi).toNat)
      case atStart => exact ⟨0, -1, Nat.zero_le _, rfl, rfl, Lib.hid (Below.refl _ _), Lib.hid (Or.inl ⟨rfl, fun j s hj => by omega⟩)⟩
      case round =>
        obtain ⟨i, B, hin, rfl, rfl, HW, HB⟩ := hrel
        by_cases hlt2 : i < n
        · obtain ⟨b1, o1, s, eA, hs, c0, c1⟩ := ((H.out.below HX.out).below HW.out).lt (k := i) (by rw [HN.out]; exact hlt2)
          subst eA
          obtain ⟨r, hr⟩ : ∃ r, decide ((i : Int) ∈ dn) = r := ⟨_, rfl⟩
          have HC := Lib.hid fun (W : World) (hd : Ints W D cd dn) => HH.out dn i D k cd HKL.out (by omega) W hd
          rw [hr] at HC
          have hmem := HTD.out.mem i s hs
          cases r
          case true =>
            have HB2 : Hid (BestI l T (i + 1) B) := Lib.hid (HB.out.skip hs (hmem.1 (by simpa using hr)))
            clear hs hr hmem
            have HI : Hid (Ints wr.drew D cd dn) := Lib.hid (Ints.below (Ints.below (OwnI.ints' HD.out).2 HW.out) (dr wr))
            have HQ0 := Lib.hid (blw HW.out (dr wr))
            clear c0 c1
            go_wp2_with fail
            refine wp_region_R (fun _ => True) 21 (by kernel_rfl) ?_
            refine wpAnyR_leadI (by kernel_rfl) ?hQ ?hS0 [0, 1] 19 _ _ (by kernel_rfl) ?_
            case hQ => intro c a d v w h; cases d <;> exact h
            case hS0 => exact trivial
            iterate 2 (refine wpLeadI_read (v := ?_) _ rfl rfl (by rfl) ?_ ?_; rotate_left; (intro W hW; (try dsimp only at hW); go_simp; (try with_reducible rfl)); try simp only [Act.put, List.setIfInBounds_toArray, List.set_cons_succ, List.set_cons_zero])
            simp only [wpLeadI]
            refine wpAnyR_one (i := 2) rfl (by kernel_rfl) ?_
            intro K1 hK1
            go_simp
            refine (HC.out _ HI.out).mono ?_
            rintro e x1 ⟨rfl, hb2⟩
            have HQ1 := Lib.hid (blw HQ0.out hb2)
            clear hb2
            refine hK1.out _ _ trivial ?_
            clear hK1 K1
            refine wpAnyR_leadI (by kernel_rfl) ?hQ ?hS0 [3, 4, 5, 6, 7, 8, 9, 10, 11, 12, 13, 14, 15, 16, 17, 18, 19, 20] 0 _ _ (by kernel_rfl) ?_
            case hQ => intro c a d v w h; cases d <;> exact h
            case hS0 => exact trivial
            iterate 2 (refine wpLeadI_read (v := ?_) _ rfl rfl (by rfl) ?_ ?_; rotate_left; (intro W hW; (try dsimp only at hW); go_simp; (try with_reducible rfl)); try simp only [Act.put, List.setIfInBounds_toArray, List.set_cons_succ, List.set_cons_zero])
            iterate 15 (refine wpLeadI_skip _ rfl rfl (by kernel_rfl) ?_; try simp only [Act.put, List.setIfInBounds_toArray, List.set_cons_succ, List.set_cons_zero])
            iterate 1 (refine wpLeadI_read (v := ?_) _ rfl rfl (by rfl) ?_ ?_; rotate_left; (intro W hW; (try dsimp only at hW); go_simp; (try with_reducible rfl)); try simp only [Act.put, List.setIfInBounds_toArray, List.set_cons_succ, List.set_cons_zero])
            simp only [wpLeadI]
            refine ⟨by kernel_rfl, ?_⟩
            go_wp2_with fail
            go_roundw
            case rel => exact ⟨i + 1, _, by omega, by go_num, rfl, Lib.hid HQ1.out, Lib.hid HB2.out⟩
            case measure => simp [intOf]; omega
          case false =>
            have hge : T ≤ s.at_ := by
              have : ¬ s.at_ < T := fun q => by have := hmem.2 q; simp [this] at hr
              omega
            by_cases hB : B < 0
            · have HB2 : Hid (BestI l T (i + 1) (i : Int)) := Lib.hid (HB.out.take hs hge (by
                rcases HB.out with ⟨e, _⟩ | ⟨b, sb, e, _⟩
                · exact Or.inl e
                · omega))
              have g1 : decide (B < 0) = true := decide_eq_true hB
              clear hs hr hmem
              have HI : Hid (Ints wr.drew D cd dn) := Lib.hid (Ints.below (Ints.below (OwnI.ints' HD.out).2 HW.out) (dr wr))
              have HQ0 := Lib.hid (blw HW.out (dr wr))
              clear c0 c1
              go_wp2_with fail
              refine wp_region_R (fun _ => True) 21 (by kernel_rfl) ?_
              refine wpAnyR_leadI (by kernel_rfl) ?hQ ?hS0 [0, 1] 19 _ _ (by kernel_rfl) ?_
              case hQ => intro c a d v w h; cases d <;> exact h
              case hS0 => exact trivial
              iterate 2 (refine wpLeadI_read (v := ?_) _ rfl rfl (by rfl) ?_ ?_; rotate_left; (intro W hW; (try dsimp only at hW); go_simp; (try with_reducible rfl)); try simp only [Act.put, List.setIfInBounds_toArray, List.set_cons_succ, List.set_cons_zero])
              simp only [wpLeadI]
              refine wpAnyR_one (i := 2) rfl (by kernel_rfl) ?_
              intro K1 hK1
              go_simp
              refine (HC.out _ HI.out).mono ?_
              rintro e x1 ⟨rfl, hb2⟩
              have HQ1 := Lib.hid (blw HQ0.out hb2)
              clear hb2
              refine hK1.out _ _ trivial ?_
              clear hK1 K1
              refine wpAnyR_leadI (by kernel_rfl) ?hQ ?hS0 [3, 4, 5, 6, 7, 8, 9, 10, 11, 12, 13, 14, 15, 16, 17, 18, 19, 20] 0 _ _ (by kernel_rfl) ?_
              case hQ => intro c a d v w h; cases d <;> exact h
              case hS0 => exact trivial
              iterate 5 (refine wpLeadI_read (v := ?_) _ rfl rfl (by rfl) ?_ ?_; rotate_left; (intro W hW; (try dsimp only at hW); go_simp; (try with_reducible rfl)); try simp only [Act.put, List.setIfInBounds_toArray, List.set_cons_succ, List.set_cons_zero])
              iterate 11 (refine wpLeadI_skip _ rfl rfl (by kernel_rfl) ?_; try simp only [Act.put, List.setIfInBounds_toArray, List.set_cons_succ, List.set_cons_zero])
              iterate 2 (refine wpLeadI_read (v := ?_) _ rfl rfl (by rfl) ?_ ?_; rotate_left; (intro W hW; (try dsimp only at hW); go_simp; (try with_reducible rfl)); try simp only [Act.put, List.setIfInBounds_toArray, List.set_cons_succ, List.set_cons_zero])
              simp only [wpLeadI]
              refine ⟨by kernel_rfl, ?_⟩
              go_wp2_with fail
              go_roundw
              case rel => exact ⟨i + 1, _, by omega, by go_num, rfl, Lib.hid HQ1.out, Lib.hid HB2.out⟩
              case measure => simp [intOf]; omega
            · have HB3 := HB.out
              rcases HB3 with ⟨e, _⟩ | ⟨b, sb, e, hbi, hsb, _, _⟩
              · omega
              subst e
              obtain ⟨b2, o2, sb2, eA, hsb2, d0, d1⟩ := ((H.out.below HX.out).below HW.out).lt (k := b) (by rw [HN.out]; omega)
              injection eA with eA; injection eA with e1 e2; subst e1 e2
              rw [hsb] at hsb2; injection hsb2 with hsb2; subst hsb2
              have g1 : decide ((b : Int) < 0) = false := decide_eq_false hB
              have hbn : b < n := by omega
              by_cases hc : s.at_ < sb.at_
              · have HB2 : Hid (BestI l T (i + 1) (i : Int)) := Lib.hid (HB.out.take hs hge (Or.inr ⟨b, sb, rfl, hsb, by omega⟩))
                have g2 : decide (s.at_ < sb.at_) = true := decide_eq_true hc
                clear hs hr hmem hsb
                have HI : Hid (Ints wr.drew D cd dn) := Lib.hid (Ints.below (Ints.below (OwnI.ints' HD.out).2 HW.out) (dr wr))
                have HQ0 := Lib.hid (blw HW.out (dr wr))
                have s0 : wr.drew.cell? ⟨b1, o1 + i * 2, none⟩ = some (.int .i64 s.at_) ∧ wr.drew.cell? ⟨b1, o1 + b * 2, none⟩ = some (.int .i64 sb.at_) := ⟨kp (dr wr) c0, kp (dr wr) d0⟩
                clear c0 c1 d0 d1
                go_wp2_with fail
                refine wp_region_R (fun (W : World) => W.cell? ⟨b1, o1 + i * 2, none⟩ = some (.int .i64 s.at_) ∧ W.cell? ⟨b1, o1 + b * 2, none⟩ = some (.int .i64 sb.at_)) 21 (by kernel_rfl) ?_
                refine wpAnyR_leadI (by kernel_rfl) ?hQ ?hS0 [0, 1] 19 _ _ (by kernel_rfl) ?_
                case hQ => intro c a d v w h; cases d <;> exact h
                case hS0 => exact s0
                iterate 2 (refine wpLeadI_read (v := ?_) _ rfl rfl (by rfl) ?_ ?_; rotate_left; (intro W hW; (try dsimp only at hW); go_simp; (try with_reducible rfl)); try simp only [Act.put, List.setIfInBounds_toArray, List.set_cons_succ, List.set_cons_zero])
                simp only [wpLeadI]
                refine wpAnyR_one (i := 2) rfl (by kernel_rfl) ?_
                intro K1 hK1
                go_simp
                refine (HC.out _ HI.out).mono ?_
                rintro e x1 ⟨rfl, hb2⟩
                have HQ1 := Lib.hid (blw HQ0.out hb2)
                have s1 : x1.cell? ⟨b1, o1 + i * 2, none⟩ = some (.int .i64 s.at_) ∧ x1.cell? ⟨b1, o1 + b * 2, none⟩ = some (.int .i64 sb.at_) := ⟨kp hb2 s0.1, kp hb2 s0.2⟩
                clear hb2
                refine hK1.out _ _ s1 ?_
                clear hK1 K1
                refine wpAnyR_leadI (by kernel_rfl) ?hQ ?hS0 [3, 4, 5, 6, 7, 8, 9, 10, 11, 12, 13, 14, 15, 16, 17, 18, 19, 20] 0 _ _ (by kernel_rfl) ?_
                case hQ => intro c a d v w h; cases d <;> exact h
                case hS0 => exact s1
                iterate 18 (refine wpLeadI_read (v := ?_) _ rfl rfl (by rfl) ?_ ?_; rotate_left; (intro W hW; (try dsimp only at hW); go_simp; (try with_reducible rfl)); try simp only [Act.put, List.setIfInBounds_toArray, List.set_cons_succ, List.set_cons_zero])
                simp only [wpLeadI]
                refine ⟨by kernel_rfl, ?_⟩
                go_wp2_with fail
                go_roundw
                case rel => exact ⟨i + 1, _, by omega, by go_num, rfl, Lib.hid HQ1.out, Lib.hid HB2.out⟩
                case measure => simp [intOf]; omega
              · have HB2 : Hid (BestI l T (i + 1) (b : Int)) := Lib.hid (HB.out.keep hs hsb (by omega))
                have g2 : decide (s.at_ < sb.at_) = false := decide_eq_false hc
                clear hs hr hmem hsb
                have HI : Hid (Ints wr.drew D cd dn) := Lib.hid (Ints.below (Ints.below (OwnI.ints' HD.out).2 HW.out) (dr wr))
                have HQ0 := Lib.hid (blw HW.out (dr wr))
                have s0 : wr.drew.cell? ⟨b1, o1 + i * 2, none⟩ = some (.int .i64 s.at_) ∧ wr.drew.cell? ⟨b1, o1 + b * 2, none⟩ = some (.int .i64 sb.at_) := ⟨kp (dr wr) c0, kp (dr wr) d0⟩
                clear c0 c1 d0 d1
                go_wp2_with fail
                refine wp_region_R (fun (W : World) => W.cell? ⟨b1, o1 + i * 2, none⟩ = some (.int .i64 s.at_) ∧ W.cell? ⟨b1, o1 + b * 2, none⟩ = some (.int .i64 sb.at_)) 21 (by kernel_rfl) ?_
                refine wpAnyR_leadI (by kernel_rfl) ?hQ ?hS0 [0, 1] 19 _ _ (by kernel_rfl) ?_
                case hQ => intro c a d v w h; cases d <;> exact h
                case hS0 => exact s0
                iterate 2 (refine wpLeadI_read (v := ?_) _ rfl rfl (by rfl) ?_ ?_; rotate_left; (intro W hW; (try dsimp only at hW); go_simp; (try with_reducible rfl)); try simp only [Act.put, List.setIfInBounds_toArray, List.set_cons_succ, List.set_cons_zero])
                simp only [wpLeadI]
                refine wpAnyR_one (i := 2) rfl (by kernel_rfl) ?_
                intro K1 hK1
                go_simp
                refine (HC.out _ HI.out).mono ?_
                rintro e x1 ⟨rfl, hb2⟩
                have HQ1 := Lib.hid (blw HQ0.out hb2)
                have s1 : x1.cell? ⟨b1, o1 + i * 2, none⟩ = some (.int .i64 s.at_) ∧ x1.cell? ⟨b1, o1 + b * 2, none⟩ = some (.int .i64 sb.at_) := ⟨kp hb2 s0.1, kp hb2 s0.2⟩
                clear hb2
                refine hK1.out _ _ s1 ?_
                clear hK1 K1
                refine wpAnyR_leadI (by kernel_rfl) ?hQ ?hS0 [3, 4, 5, 6, 7, 8, 9, 10, 11, 12, 13, 14, 15, 16, 17, 18, 19, 20] 0 _ _ (by kernel_rfl) ?_
                case hQ => intro c a d v w h; cases d <;> exact h
                case hS0 => exact s1
                iterate 18 (refine wpLeadI_read (v := ?_) _ rfl rfl (by rfl) ?_ ?_; rotate_left; (intro W hW; (try dsimp only at hW); go_simp; (try with_reducible rfl)); try simp only [Act.put, List.setIfInBounds_toArray, List.set_cons_succ, List.set_cons_zero])
                simp only [wpLeadI]
                refine ⟨by kernel_rfl, ?_⟩
                go_wp2_with fail
                go_roundw
                case rel => exact ⟨i + 1, _, by omega, by go_num, rfl, Lib.hid HQ1.out, Lib.hid HB2.out⟩
                case measure => simp [intOf]; omega
        · have hbe := HB.out
          rw [show i = n from by omega] at hbe
          obtain ⟨b, sb, rfl, hbn, hsb, hTs, hmin⟩ := hbe.done HN.out HTD.out (by rw [HKL.out]; exact hlt)
          have HMIN := Lib.hid hmin; have HSB := Lib.hid hsb; have HTS := Lib.hid hTs
          obtain ⟨b1, o1, sb2, eA, hsb2, c0, c1⟩ := ((H.out.below HX.out).below HW.out).lt (k := b) (by rw [HN.out]; exact hbn)
          subst eA
          rw [hsb] at hsb2; injection hsb2 with hsb2; subst hsb2
          clear hmin hsb hTs hbe HB
          go_wp2_with fail
          have HR0 : Hid (RowS (wr.alloc (.cells #[.int .i64 sb.at_, .int .i64 sb.fr] 52)) wr.heap.size 1 [sb]) := Lib.hid (row1 _ _)
          have HO0 := Lib.hid ((HO.out.below HW.out).below (al wr (.cells #[.int .i64 sb.at_, .int .i64 sb.fr] 52)))
          have HD0 := Lib.hid (Dag.Own1.below (Dag.Own1.below HD.out HW.out) (al wr (.cells #[.int .i64 sb.at_, .int .i64 sb.fr] 52)))
          have HX0 := Lib.hid ((blw HX.out HW.out).trans ((al wr (.cells #[.int .i64 sb.at_, .int .i64 sb.fr] 52)).mono (blw HX.out HW.out).size))
          have HSN : Hid (w.heap.size ≤ wr.heap.size) := Lib.hid (blw HX.out HW.out).size
          have HON : Hid ((Value.slice O q co).ownBlock ≠ some wr.heap.size) := Lib.hid fun e => by
            have := ((HO.out.below HW.out).blk e).2; omega
          have HDN : Hid ((Value.slice D k cd).ownBlock = none ∨ ((Value.slice D k cd).ownBlock ≠ (Value.slice O q co).ownBlock ∧ (Value.slice D k cd).ownBlock ≠ some wr.heap.size)) := Lib.hid (by
            rcases HAP.out with e | e
            · exact Or.inl e
            · exact Or.inr ⟨e, fun e => by have := (Own1.lt (Dag.Own1.below HD.out HW.out) e).2; omega⟩)
          clear c0 c1
          generalize wr.alloc (.cells #[.int .i64 sb.at_, .int .i64 sb.fr] 52) = W0 at HR0 HO0 HD0 HX0 ⊢
          generalize wr.heap.size = sB at HR0 HSN HON HDN ⊢
          clear HW HX HD HO HAP hin hlt2
          go_loopw [4, 8] (fun vd vi W2 => ∃ (j : Nat) (sj : StepD) (dn2 : List Int) (D2 : Option Addr) (cd2 : Nat), j ≤ n ∧ dn2.length ≤ k + j ∧ vi = .int .i64 j ∧ vd = .slice D2 dn2.length cd2 ∧ Hid (RowS W2 sB 1 [sj]) ∧ Hid (OwnS W2 w.heap.size (.slice O q co) out) ∧ Hid (OwnI W2 w.heap.size (.slice D2 dn2.length cd2) dn2) ∧ Hid ((Value.slice D2 dn2.length cd2).ownBlock = none ∨ ((Value.slice D2 dn2.length cd2).ownBlock ≠ (Value.slice O q co).ownBlock ∧ (Value.slice D2 dn2.length cd2).ownBlock ≠ some sB)) ∧ Hid (Below w.heap.size w W2) ∧ Hid (PickI l sb.at_ dn j sj dn2)) (fun _ vi _ => n - (intOf vi).toNat)
          case atStart => exact ⟨0, sb, dn, D, cd, Nat.zero_le _, by rw [HKL.out]; omega, rfl, by rw [HKL.out], HR0, HO0, by rw [HKL.out]; exact HD0, by rw [HKL.out]; exact HDN, HX0, Lib.hid (PickI.start rfl)⟩
          case round =>
            clear HR0 HO0 HD0 HX0 HDN
            obtain ⟨j, sj, dn2, D2, cd2, hjn, hd2, rfl, rfl, HR1, HO1, HD1, HA1, HX1, HP⟩ := hrel
            obtain ⟨k2, hk2⟩ : ∃ k2, dn2.length = k2 := ⟨_, rfl⟩
            rw [hk2] at HD1 HA1 hd2 ⊢
            have HK2 := Lib.hid hk2
            clear hk2
            obtain ⟨sx, hsx, d0, d1⟩ := HR1.out.lt (k := 0) (by simp)
            simp only [List.getElem?_cons_zero] at hsx
            injection hsx with hsx
            subst hsx
            simp only [Nat.zero_mul, Nat.zero_add] at d0 d1
            by_cases hlt3 : j < n
            · obtain ⟨b2, o2, u, eA, hu, c0, c1⟩ := (H.out.below HX1.out).lt (k := j) (by rw [HN.out]; exact hlt3)
              injection eA with eA; injection eA with e1 e2; subst e1 e2
              by_cases hua : u.at_ = sb.at_
              · have HP2 := Lib.hid (HP.out.take hu hua)
                have hsa := HP.out.at_
                have hbe : (u.at_ == sj.at_) = true := by rw [beq_iff_eq, hua, hsa]
                clear hu hua hsa
                have s0 : wr.drew.cell? ⟨b1, o1 + j * 2, none⟩ = some (.int .i64 u.at_) ∧ wr.drew.cell? ⟨sB, 0, none⟩ = some (.int .i64 sj.at_) ∧ wr.drew.cell? ⟨b1, o1 + j * 2 + 1, none⟩ = some (.int .i64 u.fr) := ⟨kp (dr wr) c0, kp (dr wr) d0, kp (dr wr) c1⟩
                clear c0 c1 d0 d1
                go_wp2_with fail
                refine wp_region_R (fun (W : World) => W.cell? ⟨b1, o1 + j * 2, none⟩ = some (.int .i64 u.at_) ∧ W.cell? ⟨sB, 0, none⟩ = some (.int .i64 sj.at_) ∧ W.cell? ⟨b1, o1 + j * 2 + 1, none⟩ = some (.int .i64 u.fr)) 8 (by kernel_rfl) ?_
                refine wpAnyR_leadI (by kernel_rfl) ?hQ ?hS0 [0, 1, 2, 3, 4, 5, 6, 7] 0 _ _ (by kernel_rfl) ?_
                case hQ => intro c a d v w h; cases d <;> exact h
                case hS0 => exact s0
                iterate 8 (refine wpLeadI_read (v := ?_) _ rfl rfl (by rfl) ?_ ?_; rotate_left; (intro W hW; (try dsimp only at hW); go_simp; (try with_reducible rfl)); try simp only [Act.put, List.setIfInBounds_toArray, List.set_cons_succ, List.set_cons_zero])
                simp only [wpLeadI]
                refine ⟨by kernel_rfl, ?_⟩
                have HRd := Lib.hid (HR1.out.below (dr wr)); have HOd := Lib.hid (HO1.out.below (dr wr)); have HDd := Lib.hid (Dag.Own1.below HD1.out (dr wr)); have HXd := Lib.hid (HX1.out.trans ((dr wr).mono HX1.out.size))
                generalize wr.drew = W0 at HRd HOd HDd HXd s0 ⊢
                go_wp2_with (first
                  | (at_builtin; refine wpList_int1 rfl _ _ rfl w.heap.size _ dn2 rfl HDA.out W2.heap.size (j : Int) rfl HNW.out (by rw [HK2.out]; omega) HXA.out.size ?_; intro A' c' w' ho' hg' hob' hb'; have HD3 := Lib.hid ho'; have HO3 := Lib.hid (HOA.out.apart hg' (apart_sym (HA1.out.imp id (·.1)))); have HR3 := Lib.hid (HRA.out.apart hg' (some_ne (HA1.out.imp id (·.2)))); have HX3 := Lib.hid (HXA.out.trans hb'); have HA3 := Lib.hid (newblk HA1.out hob' (fun g hg => ((HOA.out.blk hg).2)) HRA.out.glt); clear ho' hg' hob' hb')
                  | (refine wpList_put rfl _ _ rfl sB 1 [sj] 0 u 0 (by simp [Act.eval]) rfl (by simp [Act.eval]) HRd.out (by simp) ?_; intro W2 h2 g2; have HRA : Hid (RowS (W2.alloc (.cells #[.int .i64 (j : Int)] 3)) sB 1 [u]) := Lib.hid (h2.below (al W2 _)); have HOA := Lib.hid ((HOd.out.apart g2 (Or.inr HON.out)).below (al W2 (.cells #[.int .i64 (j : Int)] 3))); have HDA := Lib.hid (Dag.Own1.below (Own1.apart HDd.out g2 (HA1.out.imp id (·.2))) (al W2 (.cells #[.int .i64 (j : Int)] 3))); have hx2 := HXd.out.grown g2 HXd.out.size (fun k hk => by injection hk with hk; subst hk; exact HSN.out); have HXA := Lib.hid (hx2.trans ((al W2 (.cells #[.int .i64 (j : Int)] 3)).mono hx2.size)); have HNW := Lib.hid (heap_alloc_new W2 (.cells #[.int .i64 (j : Int)] 3)); clear h2 g2 hx2))
                go_roundw
                case rel => exact ⟨j + 1, u, dn2 ++ [(j : Int)], A', c', by omega, by rw [List.length_append, HK2.out]; simp; omega, by go_num, by simp, HR3, HO3, HD3, HA3, HX3, HP2⟩
                case measure => simp [intOf]; omega
              · have HP2 := Lib.hid (HP.out.skip hu hua)
                have hsa := HP.out.at_
                have hbe : (u.at_ == sj.at_) = false := by rw [beq_eq_false_iff_ne, hsa]; exact hua
                clear hu hua hsa
                have s0 : wr.drew.cell? ⟨b1, o1 + j * 2, none⟩ = some (.int .i64 u.at_) ∧ wr.drew.cell? ⟨sB, 0, none⟩ = some (.int .i64 sj.at_) ∧ wr.drew.cell? ⟨b1, o1 + j * 2 + 1, none⟩ = some (.int .i64 u.fr) := ⟨kp (dr wr) c0, kp (dr wr) d0, kp (dr wr) c1⟩
                clear c0 c1 d0 d1
                go_wp2_with fail
                refine wp_region_R (fun (W : World) => W.cell? ⟨b1, o1 + j * 2, none⟩ = some (.int .i64 u.at_) ∧ W.cell? ⟨sB, 0, none⟩ = some (.int .i64 sj.at_) ∧ W.cell? ⟨b1, o1 + j * 2 + 1, none⟩ = some (.int .i64 u.fr)) 8 (by kernel_rfl) ?_
                refine wpAnyR_leadI (by kernel_rfl) ?hQ ?hS0 [0, 1, 2, 3, 4, 5, 6, 7] 0 _ _ (by kernel_rfl) ?_
                case hQ => intro c a d v w h; cases d <;> exact h
                case hS0 => exact s0
                iterate 8 (refine wpLeadI_read (v := ?_) _ rfl rfl (by rfl) ?_ ?_; rotate_left; (intro W hW; (try dsimp only at hW); go_simp; (try with_reducible rfl)); try simp only [Act.put, List.setIfInBounds_toArray, List.set_cons_succ, List.set_cons_zero])
                simp only [wpLeadI]
                refine ⟨by kernel_rfl, ?_⟩
                have HRd := Lib.hid (HR1.out.below (dr wr)); have HOd := Lib.hid (HO1.out.below (dr wr)); have HDd := Lib.hid (Dag.Own1.below HD1.out (dr wr)); have HXd := Lib.hid (HX1.out.trans ((dr wr).mono HX1.out.size))
                generalize wr.drew = W0 at HRd HOd HDd HXd s0 ⊢
                go_wp2
                go_roundw
                case rel => exact ⟨j + 1, sj, dn2, D2, cd2, by omega, by rw [HK2.out]; omega, by go_num, by rw [HK2.out], HRd, HOd, by rw [HK2.out]; exact HDd, by rw [HK2.out]; exact HA1, HXd, HP2⟩
                case measure => simp [intOf]; omega
            · have hP := HP.out
              rw [show j = n from by omega] at hP
              obtain ⟨p1, p2, p3, p4⟩ := hP.done (out := out) HN.out HTD.out HSB.out HTS.out HMIN.out
              have hk3 : k2 ≤ n := by
                have := p1.len
                have := ahd_len l (sj.at_ + 1)
                rw [HK2.out] at *
                rw [HN.out] at this
                omega
              have hkk : k < k2 := by rw [HKL.out, HK2.out] at p2; exact p2
              have HT3 : Hid (∃ T, DoneI l T dn2 ∧ ∀ lo d, (∀ u ∈ l, lo < u.at_) → (∀ u ∈ l, u.fr ≠ d) → TidyOf lo d (ahd l T) (putD out sj)) := Lib.hid ⟨_, p1, fun lo d h1 h2 => p3 lo d (h1 sj p4) (h2 sj p4) (HTT.out lo d h1 h2)⟩
              have hpl := put_len out sj
              rw [HQL.out] at hpl
              clear hP p1 p2 p3 p4
              go_wp2_with fail
              refine (tidyG_any out sj w.heap.size O q co _ HO1.out HX1.out.size (by omega)).mono ?_
              rintro e w3 ⟨A', c', rfl, ho3, hb3, g3, hob3⟩
              have HO3 := Lib.hid ho3; have HX3 := Lib.hid (HX1.out.trans hb3)
              have HD3 := Lib.hid (Own1.apart HD1.out g3 (HA1.out.imp id (·.1)))
              have HA3 := Lib.hid (newblk2 (HA1.out.imp id (·.1)) hob3 fun g hg => (Own1.lt HD1.out hg).2)
              clear ho3 hb3 g3 hob3
              go_wp2
              go_roundw
              case rel => exact ⟨putD out sj, dn2, A', D2, c', cd2, by rw [HK2.out]; omega, by rw [HK2.out]; exact hk3, rfl, by rw [HK2.out], HO3, by rw [HK2.out]; exact HD3, by rw [HK2.out]; exact HA3, HX3, HT3⟩
              case measure => simp [lenI]; omega
    · have hr : TidyR l out := fun lo d h1 h2 => by
        obtain ⟨T, hTd, hTt⟩ := HT.out
        have hl := hTd.len
        have := hTt lo d h1 h2
        rwa [ahd_full (by rw [← hl, HKL.out, HN.out]; omega)] at this
      have HRR := Lib.hid hr
      clear hr
      go_wp2
      go_ret
      exact ⟨out, HRR.out, O, co, by rw [HQL.out]; rfl, by rw [HQL.out]; exact HO.out, HX.out⟩
end Go.Proofs.Ytldmkbmkjdnaaaa.Stp

