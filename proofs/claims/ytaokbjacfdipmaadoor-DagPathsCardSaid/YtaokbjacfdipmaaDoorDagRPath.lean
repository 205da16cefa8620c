/- Of the document's: Path. -/
import Derived.Test.YtaokbjacfdipmaaDoorDagRReach
import Derived.Test.YtaokbjacfdipmaaDoorDagPathP
import Derived.Test.YtaokbjacfdipmaaDoorDagKnown
namespace Go.Proofs.YtaokbjacfdipmaaDoor
open Go.RowKit
set_option linter.unusedVariables false

/-- one arc more, of the first x, and of x to those below u -/
def canM (E : List (List Int)) (w k x u z : Nat) : Bool := ((List.range x).any fun y => canB E w k y && arc E y z) || (decide (z < u) && (canB E w k x && arc E x z))
theorem canM_zero (E : List (List Int)) (w k z : Nat) : canM E w k 0 0 z = false := by simp [canM]
theorem canM_at {E : List (List Int)} {w k x u : Nat} (h : (canB E w k x && arc E x u) = true) : canM E w k x (u + 1) u = true := by simp only [canM, h]; simp
theorem canM_ne {E : List (List Int)} {w k x u z : Nat} (h : z ≠ u) : canM E w k x (u + 1) z = canM E w k x u z := by
  unfold canM
  have : decide (z < u + 1) = decide (z < u) := by rw [decide_eq_decide]; omega
  rw [this]
theorem canM_skip {E : List (List Int)} {w k x u : Nat} (h : (canB E w k x && arc E x u) = false) : canM E w k x (u + 1) = canM E w k x u := by
  funext z
  by_cases e : z = u
  · subst e
    simp only [canM, h, Bool.and_false]
  · exact canM_ne e
theorem canM_next {E : List (List Int)} {w k x n z : Nat} (h : z < n) : canM E w k (x + 1) 0 z = canM E w k x n z := by
  unfold canM
  rw [List.range_succ, List.any_append]
  have h1 : decide (z < n) = true := decide_eq_true h
  have h2 : decide (z < 0) = false := rfl
  rw [h1, h2]
  simp
theorem canM_end (E : List (List Int)) (w k : Nat) : canM E w k E.length 0 = canB E w (k + 1) := by
  funext z
  unfold canM
  have h2 : decide (z < 0) = false := rfl
  rw [h2, Bool.false_and, Bool.or_false]
  rfl
theorem rowB_congr {n : Nat} {f g : Nat → Bool} (h : ∀ i, i < n → f i = g i) : rowB n f = rowB n g := List.map_congr_left fun i hi => by rw [h i (by simpa using hi)]
theorem canM_put {E : List (List Int)} {w k x u n : Nat} (hu : u < n) (h : (canB E w k x && arc E x u) = true) : (rowB n (canM E w k x u)).set u (.bool true) = rowB n (canM E w k x (u + 1)) := by
  rw [← canM_at h]
  exact rowB_set hu fun i _ hi => canM_ne hi
theorem rowB_false (n : Nat) : List.replicate n (Value.bool false) = rowB n fun _ => false := by
  unfold rowB
  apply List.ext_getElem?
  intro i
  rcases Nat.lt_or_ge i n with hi | hi
  · rw [range_map_get _ hi, List.getElem?_replicate, if_pos hi]
  · rw [List.getElem?_eq_none (by simpa using hi), List.getElem?_eq_none (by simpa using hi)]
theorem can_row0 {E : List (List Int)} {w n : Nat} (hw : w < n) : (rowB n fun _ => false).set w (.bool true) = rowB n (canB E w 0) := by
  have e : canB E w 0 w = true := can_zero.2 rfl
  rw [← e]
  refine rowB_set hw fun i _ hi => ?_
  rw [Bool.eq_false_iff]
  intro h
  exact hi (can_zero.1 h)
theorem rowsB_snoc (n m : Nat) (R : Nat → Nat → Bool) : rowsB n m R ++ [rowB n (R m)] = rowsB n (m + 1) R := by
  unfold rowsB
  rw [List.range_succ, List.map_append]; rfl

set_option maxRecDepth 100000 in
set_option maxHeartbeats 4000000 in
theorem rpath_any (E : List (List Int)) (hf : (order E).length = E.length) (w : World) (A : Option Addr) (c : Nat) (h : IRows w A c E) (hn : E.length ≤ 30) (hE : Valid E) (x y : Int) :
    Calls Tryd.prog 24 #[.slice A E.length c, .int .i64 x, .int .i64 y] w (RetL w (pthG E x y)) := by
  have H := Lib.hid h; have HE := Lib.hid hE; have HF := Lib.hid hf
  clear h hE hf
  by_cases hin : inG E x y
  · obtain ⟨⟨hx0, hx1⟩, hy0, hy1⟩ := hin
    obtain ⟨v, rfl⟩ : ∃ v : Nat, x = (v : Int) := ⟨x.toNat, by omega⟩
    obtain ⟨t, rfl⟩ : ∃ t : Nat, y = (t : Int) := ⟨y.toNat, by omega⟩
    have hv : v < E.length := by omega
    have ht : t < E.length := by omega
    clear hx0 hx1 hy0 hy1
    rw [pthG_in hv ht]
    have hmk := fun W : World => run_mk W 45 4 _ 1 Tryd.underlying45 info_bool rfl (by decide) E.length (by omega) _ _ rfl rfl
    have HMK := Lib.hid hmk
    have ho1 : Own1 (w.alloc (.cells ((Array.replicate E.length (.bool false)).setIfInBounds t (.bool true)) 4)) w.heap.size 4 (.slice (some ⟨w.heap.size, 0, none⟩) E.length E.length) (rowB E.length (canB E t 0)) := by
      have := Own1.litm w w.heap.size 4 (Nat.le_refl _) ((List.replicate E.length (Value.bool false)).set t (.bool true)) (n := E.length) (by simp) rfl (by unfold maxLen; omega)
      rw [show ((List.replicate E.length (Value.bool false)).set t (.bool true)).toArray = (Array.replicate E.length (Value.bool false)).setIfInBounds t (Value.bool true) from by rw [← Array.toList_inj]; simp] at this
      rw [rowB_false, can_row0 (E := E) ht] at this
      exact this
    have ho2 := Own1.litm (w.alloc (.cells ((Array.replicate E.length (.bool false)).setIfInBounds t (.bool true)) 4)) w.heap.size 45 (by simp) [.slice (some ⟨w.heap.size, 0, none⟩) E.length E.length] (n := 1) (g := w.heap.size + 1) rfl (by simp) (by simp [maxLen])
    have ht0 := (Tbl.nil w w.heap.size 45 4).push (by decide) (u := .slice (some ⟨w.heap.size, 0, none⟩) E.length E.length) (us := rowB E.length (canB E t 0)) (w' := (w.alloc (.cells ((Array.replicate E.length (.bool false)).setIfInBounds t (.bool true)) 4)).alloc (.cells #[.slice (some ⟨w.heap.size, 0, none⟩) E.length E.length] 45)) (v' := .slice (some ⟨w.heap.size + 1, 0, none⟩) 1 1)
      (fun b0 hb _ => (blw (al w _) (al _ _)).block b0 hb) ho2 (ho1.below (al _ _)) (fun b0 e => by have e' : w.heap.size = b0 := (by simpa [Value.ownBlock] using e); omega)
    have hb0 := blw (al w (.cells ((Array.replicate E.length (.bool false)).setIfInBounds t (.bool true)) 4)) (al _ (.cells #[.slice (some ⟨w.heap.size, 0, none⟩) E.length E.length] 45))
    have HT0 : Hid (Tbl ((w.alloc (.cells ((Array.replicate E.length (.bool false)).setIfInBounds t (.bool true)) 4)).alloc (.cells #[.slice (some ⟨w.heap.size, 0, none⟩) E.length E.length] 45)) w.heap.size 45 4 (.slice (some ⟨w.heap.size + 1, 0, none⟩) (0 + 1) 1) [.slice (some ⟨w.heap.size, 0, none⟩) E.length E.length] (rowsB E.length (0 + 1) (canB E t))) := Lib.hid ht0
    have HB0 := Lib.hid hb0
    have d1 : decide ((v : Int) < 0) = false := decide_eq_false (by omega)
    have d2 : decide ((t : Int) < 0) = false := decide_eq_false (by omega)
    have d3 : decide (E.length ≤ v) = false := decide_eq_false (by omega)
    have d4 : decide (E.length ≤ t) = false := decide_eq_false (by omega)
    clear ho1 ho2 hb0 ht0
    go_enter Tryd.func24, Tryd.ntmps24
    go_wp2_with fail
    generalize (w.alloc (.cells ((Array.replicate E.length (.bool false)).setIfInBounds t (.bool true)) 4)).alloc (.cells #[.slice (some ⟨w.heap.size, 0, none⟩) E.length E.length] 45) = W0 at HT0 HB0 ⊢
    clear hmk d1 d2 d3 d4
    go_loopw [8, 9] (fun cv kv wr => ∃ (k : Nat) (vs : List Value) (Ao : Option Addr) (co : Nat), k ≤ E.length ∧ kv = .int .i64 k ∧ cv = .slice Ao (k + 1) co ∧ Hid (Tbl wr w.heap.size 45 4 (.slice Ao (k + 1) co) vs (rowsB E.length (k + 1) (canB E t))) ∧ Hid (Below w.heap.size w wr) ∧ Hid (∀ j, j < k → canB E t j v = false)) (fun _ kv _ => E.length - (intOf kv).toNat)
    case atStart => exact ⟨0, _, _, _, Nat.zero_le _, rfl, rfl, HT0, HB0, Lib.hid fun j hj => absurd hj (Nat.not_lt_zero j)⟩
    case round =>
      clear HT0 HB0
      obtain ⟨k, vs, Ao, co, hk, rfl, rfl, HT, HB, HN⟩ := hrel
      obtain ⟨gk, Ak, ck, eA, _, _, hvk, cvk, _, hok⟩ := HT.out.row (rowsB_get (canB E t) (show k < k + 1 by omega))
      subst eA
      rw [rowB_len] at cvk hvk hok
      obtain ⟨gr, eAr, _, _, cvv, _⟩ := Own1.at_ hok (rowB_get _ hv)
      subst eAr
      obtain ⟨r, hr⟩ : ∃ r, canB E t k v = r := ⟨_, rfl⟩
      rw [hr] at cvv
      have hkw : IntKind.i64.wrap ((k : Int) + 1 - 1) = (k : Int) := by rw [IntKind.wrap_i64]; omega
      have HR := Lib.hid hr
      by_cases hex : k < E.length ∧ r = false
      · obtain ⟨hkl, rfl⟩ := hex
        have hbm := al wr (.cells (Array.replicate E.length (.bool false)) 4)
        have hom := Own1.make wr wr.heap.size 4 (Nat.le_refl _) E.length (by omega) (.bool false) rfl
        rw [rowB_false, ← funext (canM_zero E t k)] at hom
        have HBM := Lib.hid hbm; have HOM := Lib.hid hom
        have hmk := HMK.out
        clear hbm hom hr hok hvk
        go_wp2_with fail
        clear hmk cvk cvv
        generalize wr.alloc (.cells (Array.replicate E.length (.bool false)) 4) = WM at HBM HOM ⊢
        generalize eg : wr.heap.size = gr at HBM HOM ⊢
        have HGR := Lib.hid eg
        clear eg
        obtain ⟨W1, hW1⟩ : ∃ W1, W1 = wr := ⟨_, rfl⟩
        rw [← hW1] at HT HB HBM HGR
        clear hW1
        go_loopw [11] (fun xv wr => ∃ x : Nat, x ≤ E.length ∧ xv = .int .i64 x ∧ Hid (Own1 wr gr 4 (.slice (some ⟨gr, 0, none⟩) E.length E.length) (rowB E.length (canM E t k x 0))) ∧ Hid (Below gr W1 wr)) (fun xv _ => E.length - (intOf xv).toNat)
        case atStart => exact ⟨0, Nat.zero_le _, rfl, HOM, HBM⟩
        case round =>
          clear HOM HBM
          obtain ⟨x, hx, rfl, HO, HBW⟩ := hrel
          by_cases hxl : x < E.length
          · go_wp2_with fail
            go_loopw [12] (fun uv wr => ∃ u : Nat, u ≤ E.length ∧ uv = .int .i64 u ∧ Hid (Own1 wr gr 4 (.slice (some ⟨gr, 0, none⟩) E.length E.length) (rowB E.length (canM E t k x u))) ∧ Hid (Below gr W1 wr)) (fun uv _ => E.length - (intOf uv).toNat)
            case atStart => exact ⟨0, Nat.zero_le _, rfl, HO, HBW⟩
            case round =>
              clear HO HBW
              obtain ⟨u, hu, rfl, HO, HBW⟩ := hrel
              by_cases hul : u < E.length
              · have HBW0 : Hid (Below w.heap.size w wr) := Lib.hid (blw HB.out (by rw [HGR.out]; exact HBW.out))
                obtain ⟨gk, Ak, ck, eA, _, _, hvk, cvk, _, hok⟩ := (HT.out.below (by rw [HGR.out]; exact HBW.out)).row (rowsB_get (canB E t) (show k < k + 1 by omega))
                injection eA with eA
                injection eA with eA
                subst eA
                rw [rowB_len] at cvk hvk hok
                obtain ⟨gx, eAx, _, _, cvx, _⟩ := Own1.at_ hok (rowB_get _ hxl)
                subst eAx
                obtain ⟨gu, egu, _, _, ccu, fcu, _, hset⟩ := Own1.at_ HO.out (rowB_get _ hul)
                injection egu with egu
                injection egu with egu
                subst egu
                have HSET := Lib.hid hset
                obtain ⟨r1, hr1⟩ : ∃ r1, canB E t k x = r1 := ⟨_, rfl⟩
                obtain ⟨r2, hr2⟩ : ∃ r2, arc E x u = r2 := ⟨_, rfl⟩
                rw [hr1] at cvx
                have HR1 := Lib.hid hr1; have HR2 := Lib.hid hr2
                obtain ⟨b, off, A', c', rfl, hc0, hi⟩ := H.out.cells x _ (row_get hxl)
                have hc := (HBW0.out.cell (p := ⟨b, off + x, none⟩) (World.block_lt_of_cell? w _ hc0)).trans hc0
                have HI := Lib.hid (hi.below HBW0.out)
                have HRD : Hid (decide ((u : Int) ∈ row E x) = r2) := Lib.hid hr2
                clear hset hr1 hr2 hvk hok hc0 hi
                cases r1 with
                | false =>
                  go_wp2_with fail
                  go_roundw
                  case rel => exact ⟨u + 1, by omega, by go_num, by rw [canM_skip (by rw [HR1.out]; rfl)]; exact HO, HBW⟩
                  case measure => simp [intOf]; omega
                | true =>
                  cases r2 with
                  | false =>
                    go_wp2_with fail
                    refine (hasI_any (row E x) _ rfl (u : Int) _ _ _ HI.out false HRD.out).mono ?_
                    rintro e w1 ⟨rfl, rfl⟩
                    go_wp2_with fail
                    go_roundw
                    case rel => exact ⟨u + 1, by omega, by go_num, by rw [canM_skip (by rw [HR1.out, HR2.out]; rfl)]; exact HO, HBW⟩
                    case measure => simp [intOf]; omega
                  | true =>
                    go_wp2_with fail
                    refine (hasI_any (row E x) _ rfl (u : Int) _ _ _ HI.out true HRD.out).mono ?_
                    rintro e w1 ⟨rfl, rfl⟩
                    go_wp2_with fail
                    go_roundw
                    case rel => exact ⟨u + 1, by omega, by go_num, Lib.hid (by rw [← canM_put hul (by rw [HR1.out, HR2.out]; rfl)]; exact HSET.out _), Lib.hid (HBW.out.setCell (p := ⟨gr, u, none⟩) (Nat.le_refl _) _)⟩
                    case measure => simp [intOf]; omega
              · obtain rfl : u = E.length := by omega
                go_wp2_with fail
                go_roundw
                case rel => exact ⟨x + 1, by omega, by go_num, Lib.hid (by rw [rowB_congr fun i hi => canM_next hi]; exact HO.out), HBW⟩
                case measure => simp [intOf]; omega
          · obtain rfl : x = E.length := by omega
            have HO' : Hid (Own1 wr gr 4 (.slice (some ⟨gr, 0, none⟩) E.length E.length) (rowB E.length (canB E t (k + 1)))) := Lib.hid (by rw [← canM_end]; exact HO.out)
            have HBW0 : Hid (Below w.heap.size w wr) := Lib.hid (blw HB.out (by rw [HGR.out]; exact HBW.out))
            have hsz := HBW0.out.size
            have hgw : w.heap.size ≤ gr := by rw [← HGR.out]; exact HB.out.size
            have hvsl : vs.length = k + 1 := by rw [HT.out.len]; simp [rowsB]
            have hown := HT.out.out
            have HOW : Hid (Own1 (wr.alloc (.cells #[.slice (some ⟨gr, 0, none⟩) E.length E.length] 45)) w.heap.size 45 (.slice (some ⟨gk, 0, none⟩) (k + 1) co) vs) := Lib.hid ((hown.below (by rw [HGR.out]; exact HBW.out)).below (al _ _))
            clear hown HO
            go_wp2_with (at_builtin; refine wpList_appg rfl _ _ 54 45 (.slice none 0 0) 24 Tryd.underlying54 info_bs rfl (by decide) rfl w.heap.size (.slice (some ⟨gk, 0, none⟩) (k + 1) co) vs rfl HOW.out (some ⟨wr.heap.size, 0, none⟩) 1 1 [.slice (some ⟨gr, 0, none⟩) E.length E.length] rfl rfl (Sl.one rfl) (by simp [Value.oneCell']) (by simp; omega) (by simp; omega) ?_; intro l A9 c9 w9 el ho9 hg9 _ hbl9; have HO9 := Lib.hid ho9; have HG9 := Lib.hid hg9; have HB9 := Lib.hid hbl9; have EL := Lib.hid el; have hll : l.length = k + 1 + 1 := (by rw [el]; simp [hvsl]); rw [hll]; clear ho9 hg9 hbl9 el)
            go_roundw
            case rel =>
              refine ⟨k + 1, l, A9, c9, by omega, by go_num, rfl, Lib.hid ?_, Lib.hid ((HBW0.out.alloc HBW0.out.size _).trans HB9.out), Lib.hid fun j hj => ?_⟩
              · have hvlt : ∀ b0, (Value.slice (some ⟨gk, 0, none⟩) (k + 1) co).ownBlock = some b0 → b0 < gr := fun b0 e => by rw [← HGR.out]; exact (HT.out.out.lt e).2
                have := HT.out.push (by decide) (u := .slice (some ⟨gr, 0, none⟩) E.length E.length) (us := rowB E.length (canB E t (k + 1))) (w' := w9) (v' := .slice A9 (k + 1 + 1) c9)
                  (fun b0 hb hne => ((HG9.out.block b0 (by rw [HGR.out] at hb; have := HBW.out.size; simp; have := HGR.out; omega) (fun e => hne e.symm)).trans (Below.heap_alloc wr _ b0 (by rw [HGR.out] at hb; have := HBW.out.size; have := HGR.out; omega))).trans (HBW.out.block b0 (by rw [← HGR.out]; exact hb)))
                  (by rw [← EL.out, ← hll]; exact HO9.out)
                  ((HO'.out.rebase hgw).keep fun b0 e => by
                    have hb0 : gr = b0 := by simpa [Value.ownBlock] using e
                    subst hb0
                    have hlt := (HO'.out.lt e).2
                    refine (HG9.out.block _ (by simp; omega) fun e2 => ?_).trans (Below.heap_alloc wr _ _ hlt)
                    have := hvlt _ e2.symm
                    omega)
                  (fun b0 e => by
                    have hb0 : gr = b0 := by simpa [Value.ownBlock] using e
                    rw [HGR.out]; omega)
                rw [← EL.out, rowsB_snoc] at this
                exact this
              · rcases Nat.lt_or_ge j k with a | a
                · exact HN.out j a
                · have e : j = k := by omega
                  subst e
                  exact HR.out
            case measure => simp [intOf]; omega
      · cases r with
        | false =>
          obtain rfl : k = E.length := by
            have : ¬ k < E.length := fun a => hex ⟨a, rfl⟩
            omega
          have HP : Hid (pthL E v t = []) := Lib.hid (pthL_none (by
            cases hl : lea E t v with
            | none => rfl
            | some m =>
              obtain ⟨h1, h2⟩ := lea_some HF.out HE.out ht hl
              rw [HN.out m (can_short HF.out HE.out ht h1)] at h1
              cases h1))
          clear hex hok hvk hr
          go_wp2_with fail
          go_ret
          rw [HP.out]
          exact ⟨none, 0, rfl, Ints.empty _, HB.out⟩
        | true =>
          have HL : Hid (lea E t v = some k) := Lib.hid (lea_of HF.out HE.out ht hr fun m hm => by
            rcases Nat.lt_or_ge m k with a | a
            · rw [HN.out m a] at hm; cases hm
            · exact a)
          have hkl : k < E.length := can_short HF.out HE.out ht hr
          clear hex hok hvk hr
          go_wp2_with fail
          have HO : Hid (OwnI (wr.alloc (.cells #[.int .i64 (v : Int)] 3)) wr.heap.size (.slice (some ⟨wr.heap.size, 0, none⟩) 1 1) (num ([] ++ [v]))) := Lib.hid (Own1.litm wr wr.heap.size 3 (Nat.le_refl _) (ints [(v : Int)]) rfl rfl (by simp [maxLen]))
          have HA := Lib.hid (al wr (.cells #[.int .i64 (v : Int)] 3))
          obtain ⟨W1, hW1⟩ : ∃ W1, W1 = wr := ⟨_, rfl⟩
          generalize wr.alloc (.cells #[.int .i64 (v : Int)] 3) = W5 at HO HA ⊢
          rw [← hW1] at HT HB HA HO ⊢
          clear hW1 cvk cvv
          go_loopw [13, 14] (fun kv ov wq => ∃ (pre : List Nat) (m u l : Nat) (Al : Option Addr) (cl : Nat), l + m = k ∧ pre.length = l ∧ u < E.length ∧ kv = .int .i64 m ∧ ov = .slice Al (l + 1) cl ∧ Hid (canB E t m u = true) ∧ Hid (pre ++ pathL E t m u = pathL E t k v) ∧ Hid (OwnI wq W1.heap.size (.slice Al (l + 1) cl) (num (pre ++ [u]))) ∧ Hid (Below W1.heap.size W1 wq)) (fun kv _ _ => (intOf kv).toNat)
          case atStart => exact ⟨[], k, v, 0, _, _, by omega, rfl, hv, rfl, rfl, HR, Lib.hid rfl, HO, HA⟩
          case round =>
            clear HO HA
            obtain ⟨pre, m, u, l, Al, cl, hlm, hpl, hu, rfl, rfl, HC, HPP, HO, HA⟩ := hrel
            cases m with
            | zero =>
              go_wp2_with fail
              go_ret
              have hut : u = t := can_zero.1 HC.out
              have e : pre ++ [u] = pthL E v t := by rw [pthL_some HL.out, ← HPP.out]; rfl
              have hi := (OwnI.ints' HO.out).2
              rw [e] at hi
              refine ⟨Al, cl, ?_, hi, blw HB.out HA.out⟩
              rw [← e, num_len, List.length_append, List.length_singleton, hpl]; rfl
            | succ m =>
              rw [show ((m + 1 : Nat) : Int) = (m : Int) + 1 from by omega]
              obtain ⟨s1, s2, s3, s4⟩ := stp_get HC.out
              obtain ⟨s, hs⟩ : ∃ s, stp E t m u = s := ⟨_, rfl⟩
              rw [hs] at s1 s2 s3 s4
              have HST := Lib.hid hs; have HS2 := Lib.hid s2; have HS3 := Lib.hid s3; have HS4 := Lib.hid s4
              clear hs s2 s3 s4
              have hmw : IntKind.i64.wrap ((m : Int) + 1 - 1) = (m : Int) := by rw [IntKind.wrap_i64]; omega
              go_wp2_with fail
              clear hmw
              obtain ⟨W2, hW2⟩ : ∃ W2, W2 = wr := ⟨_, rfl⟩
              rw [← hW2] at HO HA ⊢
              clear hW2
              have hmk1 : m < k + 1 := by omega
              have hcu : (ints (num (pre ++ [u])))[l]? = some (.int .i64 (u : Int)) := ints_get (by rw [num_get, List.getElem?_append_right (by omega), hpl, Nat.sub_self]; rfl)
              have HCU := Lib.hid hcu
              clear hcu
              go_loopw [15] (fun xv wz => ∃ x : Nat, x ≤ s ∧ xv = .int .i64 x ∧ Hid (Below W2.heap.size W2 wz)) (fun xv _ => E.length - (intOf xv).toNat)
              case atStart => exact ⟨0, Nat.zero_le _, rfl, Lib.hid (Below.refl _ _)⟩
              case round =>
                obtain ⟨x, hxs, rfl, HZ⟩ := hrel
                have hxl : x < E.length := by omega
                have HAz := Lib.hid (blw HA.out HZ.out)
                have HBz := Lib.hid (blw HB.out HAz.out)
                obtain ⟨gk, Ak, ck, eA, _, _, hvk, cvk, _, hok⟩ := (HT.out.below HAz.out).row (rowsB_get (canB E t) hmk1)
                injection eA with eA
                injection eA with eA
                subst eA
                rw [rowB_len] at cvk hvk hok
                obtain ⟨gx, eAx, _, _, cvx, _⟩ := Own1.at_ hok (rowB_get _ hxl)
                subst eAx
                obtain ⟨r1, hr1⟩ : ∃ r1, canB E t m x = r1 := ⟨_, rfl⟩
                obtain ⟨r2, hr2⟩ : ∃ r2, arc E x u = r2 := ⟨_, rfl⟩
                rw [hr1] at cvx
                obtain ⟨b, off, A', c', rfl, hc0, hi⟩ := H.out.cells x _ (row_get hxl)
                have hc := (HBz.out.cell (p := ⟨b, off + x, none⟩) (World.block_lt_of_cell? w _ hc0)).trans hc0
                have HI := Lib.hid (hi.below HBz.out)
                have HRD : Hid (decide ((u : Int) ∈ row E x) = r2) := Lib.hid hr2
                obtain ⟨go, ego, _, _, cou, _⟩ := Own1.at_ (HO.out.below HZ.out) HCU.out
                subst ego
                have hlw : IntKind.i64.wrap ((l : Int) + 1 - 1) = (l : Int) := by rw [IntKind.wrap_i64]; omega
                have HR1 := Lib.hid hr1; have HR2 := Lib.hid hr2
                clear hr1 hr2 hvk hok hc0 hi
                cases r1 with
                | false =>
                  have hne : x ≠ s := fun e => by have := HR1.out; rw [e, HS2.out] at this; cases this
                  go_wp2_with fail
                  go_quiet (fail)
                  go_wp2
                  go_roundw
                  case rel => exact ⟨x + 1, by omega, by go_num, Lib.hid (blw HZ.out (below_drew wr nq))⟩
                  case measure => simp [intOf]; omega
                | true =>
                  cases r2 with
                  | false =>
                    have hne : x ≠ s := fun e => by have := HR2.out; rw [e, HS3.out] at this; cases this
                    have HAS := Lib.hid fun nn => hasI_any (row E x) _ rfl (u : Int) (wr.drewN nn) _ _ (HI.out.below (below_drew wr nn)) false HRD.out
                    go_wp2_with fail
                    go_quiet (first | (go_at_call 28; refine Calls.quiet_of_same ((HAS.out _).mono fun _ _ h => ⟨h.1, h.2.symm⟩)))
                    go_wp2
                    go_roundw
                    case rel => exact ⟨x + 1, by omega, by go_num, Lib.hid (blw HZ.out (below_drew wr nq))⟩
                    case measure => simp [intOf]; omega
                  | true =>
                    have hxe : x = s := by
                      rcases Nat.lt_or_ge x s with a | a
                      · have := HS4.out x a
                        rw [HR1.out, HR2.out] at this
                        cases this
                      · omega
                    subst hxe
                    have HAS := Lib.hid fun nn => hasI_any (row E x) _ rfl (u : Int) (wr.drewN nn) _ _ (HI.out.below (below_drew wr nn)) true HRD.out
                    go_wp2_with fail
                    go_quiet (first | (go_at_call 28; refine Calls.quiet_of_same ((HAS.out _).mono fun _ _ h => ⟨h.1, h.2.symm⟩)))
                    have HZ2 := Lib.hid (blw HZ.out (below_drew wr nq))
                    clear HAS HI HRD HZ HAz HBz cou cvk cvx hc
                    generalize wr.drewN nq = W3 at HZ2 ⊢
                    have HOZ : Hid (OwnI (W3.alloc (.cells #[.int .i64 (x : Int)] 3)) W1.heap.size (.slice (some ⟨go, 0, none⟩) (l + 1) cl) (num (pre ++ [u]))) := Lib.hid ((HO.out.below HZ2.out).below (al _ _))
                    have hsz := (blw HA.out HZ2.out).size
                    go_wp2_with (at_builtin; refine wpList_appg rfl _ _ 30 3 (.int .i64 0) 8 Tryd.underlying30 info_int rfl (by decide) rfl W1.heap.size (.slice (some ⟨go, 0, none⟩) (l + 1) cl) (ints (num (pre ++ [u]))) rfl HOZ.out (some ⟨W3.heap.size, 0, none⟩) 1 1 [.int .i64 (x : Int)] rfl rfl (Sl.one rfl) (by simp [Value.oneCell']) (by rw [ints_len, num_len]; simp; omega) (by simp; omega) ?_; intro l9 A9 c9 w9 el ho9 _ _ hbl9; have HO9 := Lib.hid ho9; have HBL := Lib.hid hbl9; have EL := Lib.hid el; clear ho9 hbl9 el)
                    go_roundw
                    case rel =>
                      have el : l9 = ints (num ((pre ++ [u]) ++ [x])) := by rw [EL.out, num_app (pre ++ [u]) [x], ints_app]; rfl
                      have hl9 : l9.length = l + 1 + 1 := by rw [el, ints_len, num_len]; simp; omega
                      refine ⟨pre ++ [u], m, x, l + 1, A9, c9, by omega, by simp; omega, hxl, rfl, by rw [hl9], HR1, Lib.hid ?_, Lib.hid ?_, Lib.hid ?_⟩
                      · rw [← HPP.out, List.append_assoc, ← HST.out]; rfl
                      · have := HO9.out
                        rw [el] at this
                        rw [el, ints_len, num_len] at hl9
                        rw [ints_len, num_len, hl9] at this
                        exact this
                      · exact ((blw HA.out HZ2.out).trans ((Below.refl _ W3).alloc hsz _)).trans HBL.out
                    case measure => simp [intOf]
  · have HO := Lib.hid (pthG_out hin)
    have hcase : x < 0 ∨ (0 ≤ x ∧ (E.length : Int) ≤ x) ∨ (0 ≤ x ∧ x < (E.length : Int) ∧ y < 0) ∨ (0 ≤ x ∧ x < (E.length : Int) ∧ 0 ≤ y ∧ (E.length : Int) ≤ y) := by
      unfold inG at hin; omega
    clear hin
    rw [HO.out]
    rcases hcase with h | ⟨h, h'⟩ | ⟨h, h', h''⟩ | ⟨h, h', h'', h3⟩
    all_goals
      go_enter Tryd.func24, Tryd.ntmps24
      go_wp2
      go_ret
      exact retL_nil _

end Go.Proofs.YtaokbjacfdipmaaDoor
