/- Of the document's Parse: links: children wait for parents. -/
import Derived.Test.YtkcijibkloamkaaGreatDoorFlwRTask
import Derived.Test.YtkcijibkloamkaaGreatDoorFlwLnkP
namespace Go.Proofs.YtkcijibkloamkaaGreatDoor
open Go.RowKit
open Dag (Ints Own1 Sl)
set_option linter.unusedVariables false
set_option maxRecDepth 100000

def RetDLinks (F : FlowD) (A : Option Addr) (c : Nat) (nm : Bool) (HA : Option Addr) (hh hc : Nat) (ps cs : List (List UInt8)) (w : World) (e : Ending) (w' : World) : Prop :=
  Below w.heap.size w w' ∧ (((∃ s ∈ ps ++ cs, s ∉ names F.tasks) ∧ e = .returned (.agg #[.string (sb F.name), .int .i64 F.deadline, .int .i64 F.priority, .slice A F.tasks.length c, .bool nm, .slice HA hh hc, .int .i64 52])) ∨
    ((∀ s ∈ ps ++ cs, s ∈ names F.tasks) ∧ ∃ A' c', e = .returned (.agg #[.string (sb F.name), .int .i64 F.deadline, .int .i64 F.priority, .slice A' F.tasks.length c', .bool nm, .slice HA hh hc, .int .i64 0]) ∧ TT w' A' c' ((cs.map fun s => (names F.tasks).idxOf s).foldl (linkOne (ps.map fun s => (names F.tasks).idxOf s)) F.tasks)))

set_option maxHeartbeats 3200000 in
theorem dlinks_any (F : FlowD) (A : Option Addr) (c : Nat) (w : World) (h : TT w A c F.tasks) (hm : F.tasks.length ≤ 1000000) (nm : Bool) (HA : Option Addr) (hh hc : Nat)
    (ps cs : List (List UInt8)) (hps : childW ∉ ps) (hcs : childW ∉ cs) (LA : Option Addr) (lc : Nat) (nL : Nat) (hnL : (ps ++ childW :: cs).length = nL) (hnm : nL ≤ 1000000) (hL : Words w LA lc (ps ++ childW :: cs)) (hsz : ∀ s ∈ ps ++ childW :: cs, s.length ≤ 1100000) :
    Calls Tryz.prog 88 #[.agg #[.string (sb F.name), .int .i64 F.deadline, .int .i64 F.priority, .slice A F.tasks.length c, .bool nm, .slice HA hh hc, .int .i64 0], .slice LA nL lc] w (RetDLinks F A c nm HA hh hc ps cs w) := by
  have hB0 := blw (al w (rO F A c nm HA hh hc 0)) (al (w.alloc (rO F A c nm HA hh hc 0)) (.cells zero7 67))
  have hO0 := keep_obj (al (w.alloc (rO F A c nm HA hh hc 0)) (.cells zero7 67)) (heap_alloc_new w (rO F A c nm HA hh hc 0))
  have hR0 := alloc_at (W := w.alloc (rO F A c nm HA hh hc 0)) (o := .cells zero7 67) (g := w.heap.size + 1) (by simp)
  obtain ⟨l, hl⟩ : ∃ l, ps ++ childW :: cs = l := ⟨_, rfl⟩
  obtain ⟨q, hq⟩ : ∃ q, ps.length = q := ⟨_, rfl⟩
  have hqn : q < nL := by rw [← hnL, ← hq]; simp
  have HQ : Hid (l[q]? = some childW) := Lib.hid (by rw [← hl, ← hq]; simp)
  have HNQ : Hid (∀ k s, l[k]? = some s → k ≠ q → s ≠ childW) := Lib.hid fun k s hk hne e => by
    subst e
    rw [← hl] at hk
    rcases Nat.lt_or_ge k ps.length with h1 | h1
    · rw [List.getElem?_append_left h1] at hk; exact hps (List.mem_of_getElem? hk)
    · rw [List.getElem?_append_right h1, show k - ps.length = (k - ps.length - 1) + 1 from by omega, List.getElem?_cons_succ] at hk
      exact hcs (List.mem_of_getElem? hk)
  rw [hl] at hL hnL hsz
  have HT := Lib.hid h; have HLW := Lib.hid hL; have HNL := Lib.hid hnL; have HSZ := Lib.hid hsz; have HEL := Lib.hid hl; have HQL := Lib.hid hq; have HPS := Lib.hid hps; have HCS := Lib.hid hcs
  have HC := Lib.hid fun (a : List UInt8) W (hW : Below w.heap.size w W) => rfind_any F A c W (h.tasks.below hW) a
  clear h hL hnL hsz hl hq hps hcs
  go_enter Tryz.func88, Tryz.ntmps88
  go_wp2_with fail
  unfold rO zero7 at hB0 hO0 hR0
  generalize (w.alloc (.cells #[.string (sb F.name), .int .i64 F.deadline, .int .i64 F.priority, .slice A F.tasks.length c, .bool nm, .slice HA hh hc, .int .i64 0] 67)).alloc (.cells #[.string ⟨#[]⟩, .int .i64 0, .int .i64 0, .slice none 0 0, .bool false, .slice none 0 0, .int .i64 0] 67) = W0 at hB0 hO0 hR0 ⊢
  have HB0 := Lib.hid hB0
  have HO0 : Hid (W0.heap[w.heap.size]? = some (rO F A c nm HA hh hc 0)) := Lib.hid hO0
  have HR0 : Hid (W0.heap[w.heap.size + 1]? = some (.cells zero7 67 (0, 0))) := Lib.hid hR0
  clear hB0 hO0 hR0
  generalize eG : w.heap.size = g at HO0 HR0 ⊢
  go_loopw [5, 6] (fun cu i wr => ∃ (k : Nat), k ≤ nL ∧ i = .int .i64 k ∧ cu = .int .i64 (if k ≤ q then 0 else (q : Int)) ∧ Hid (Below W0.heap.size W0 wr) ∧ Hid (∀ j, j < k → j ≠ q → ∀ s, l[j]? = some s → s ∈ names F.tasks)) (fun _ i _ => nL - (intOf i).toNat)
  case atStart => exact ⟨0, Nat.zero_le _, rfl, by rw [if_pos (Nat.zero_le _)], Lib.hid (Below.refl _ _), Lib.hid fun j hj => by omega⟩
  case round =>
    obtain ⟨k, hk, rfl, rfl, HB, HM⟩ := hrel
    by_cases hlt : k < nL
    · obtain ⟨bl, ol, s, eL, hx, hc0⟩ := HLW.out.at_ (k := k) (by rw [HNL.out]; exact hlt)
      subst eL
      have HBw := Lib.hid (blw HB0.out HB.out)
      have pl := keep_cell HBw.out hc0
      have hlb := World.block_lt_of_cell? wr _ pl
      by_cases hkq : k = q
      · subst hkq
        have hs : s = childW := by have := HQ.out; rw [hx] at this; injection this
        subst hs
        have g0 : ((sb childW).toList == [67, 72, 73, 76, 68]) = true := by rw [sb_toList]; decide
        have HM2 : Hid (∀ j, j < k + 1 → j ≠ k → ∀ s, l[j]? = some s → s ∈ names F.tasks) := Lib.hid fun j hj hne => HM.out j (by omega) hne
        clear hx hc0
        go_wp2
        go_roundw
        case rel => exact ⟨k + 1, by omega, by go_num, by rw [if_neg (by omega)], HB, HM2⟩
        case measure => simp [intOf]; omega
      · have hs := HNQ.out k s hx hkq
        have g0 : ((sb s).toList == [67, 72, 73, 76, 68]) = false := by rw [sb_toList, beq_eq_false_iff_ne]; exact hs
        obtain ⟨p0, p1, p2, p3, p4, p5, p6, hp⟩ := rO_cells (keep_obj HB.out HO0.out)
        have s0 : wr.drew.cell? ⟨g, 0, none⟩ = some (.string (sb F.name)) ∧ wr.drew.cell? ⟨g, 1, none⟩ = some (.int .i64 F.deadline) ∧ wr.drew.cell? ⟨g, 2, none⟩ = some (.int .i64 F.priority) ∧ wr.drew.cell? ⟨g, 3, none⟩ = some (.slice A F.tasks.length c) ∧ wr.drew.cell? ⟨bl, ol + k, none⟩ = some (.string (sb s)) := ⟨p0, p1, p2, p3, pl⟩
        have HC1 := Lib.hid (HC.out s wr.drew (blw HBw.out (drew_below wr)))
        have hcu : (if k + 1 ≤ q then (0 : Int) else (q : Int)) = if k ≤ q then 0 else (q : Int) := by
          by_cases h1 : k ≤ q
          · rw [if_pos h1, if_pos (by omega)]
          · rw [if_neg h1, if_neg (by omega)]
        have HCU := Lib.hid hcu
        clear hcu
        obtain ⟨cv, hcv⟩ : ∃ x, (if k ≤ q then (0 : Int) else (q : Int)) = x := ⟨_, rfl⟩
        rw [hcv] at HCU ⊢
        clear hcv
        by_cases hmem : s ∈ names F.tasks
        · have hf : 0 ≤ findI F.tasks s := by unfold findI; rw [if_pos hmem]; omega
          have HM2 : Hid (∀ j, j < k + 1 → j ≠ q → ∀ s, l[j]? = some s → s ∈ names F.tasks) := Lib.hid fun j hj hne s' hs' => by
            rcases Nat.lt_or_ge j k with a | a
            · exact HM.out j a hne s' hs'
            · have : j = k := by omega
              subst this
              rw [hx] at hs'; injection hs' with hs'; subst hs'; exact hmem
          obtain ⟨fi, hfi⟩ : ∃ x, findI F.tasks s = x := ⟨_, rfl⟩
          rw [hfi] at HC1 hf
          clear hx hc0 hs hmem hfi
          go_wp2_with fail
          go_region_held3 (fun (W : World) => W.cell? ⟨g, 0, none⟩ = some (.string (sb F.name)) ∧ W.cell? ⟨g, 1, none⟩ = some (.int .i64 F.deadline) ∧ W.cell? ⟨g, 2, none⟩ = some (.int .i64 F.priority) ∧ W.cell? ⟨g, 3, none⟩ = some (.slice A F.tasks.length c) ∧ W.cell? ⟨bl, ol + k, none⟩ = some (.string (sb s))) (first | exact s0 | exact s1) (first
            | (go_at_call 85; refine HC1.out.mono ?_; rintro e w1 ⟨rfl, hb1⟩; have hx1 := blw (drew_below wr) hb1; have HX1 := Lib.hid (blw HB.out hx1); have s1 : w1.cell? ⟨g, 0, none⟩ = some (.string (sb F.name)) ∧ w1.cell? ⟨g, 1, none⟩ = some (.int .i64 F.deadline) ∧ w1.cell? ⟨g, 2, none⟩ = some (.int .i64 F.priority) ∧ w1.cell? ⟨g, 3, none⟩ = some (.slice A F.tasks.length c) ∧ w1.cell? ⟨bl, ol + k, none⟩ = some (.string (sb s)) := ⟨keep_cell hx1 p0, keep_cell hx1 p1, keep_cell hx1 p2, keep_cell hx1 p3, keep_cell hx1 pl⟩; clear hb1 hx1))
          all_goals go_wp2
          all_goals go_roundw
          case rel => exact ⟨k + 1, by omega, by go_num, by rw [HCU.out], HX1, HM2⟩
          case measure => simp [intOf]; omega
        · have hf := findI_none (ts := F.tasks) (s := s) hmem
          have HEX : Hid (∃ s ∈ ps ++ cs, s ∉ names F.tasks) := Lib.hid (by
            refine ⟨s, ?_, hmem⟩
            have h1 := List.mem_of_getElem? hx
            rw [← HEL.out, List.mem_append, List.mem_cons] at h1
            rw [List.mem_append]
            rcases h1 with h1 | h1 | h1
            · exact Or.inl h1
            · exact absurd h1 hs
            · exact Or.inr h1)
          rw [hf] at HC1
          clear hx hc0 hs hmem hf
          go_wp2_with fail
          go_region_held3 (fun (W : World) => W.cell? ⟨g, 0, none⟩ = some (.string (sb F.name)) ∧ W.cell? ⟨g, 1, none⟩ = some (.int .i64 F.deadline) ∧ W.cell? ⟨g, 2, none⟩ = some (.int .i64 F.priority) ∧ W.cell? ⟨g, 3, none⟩ = some (.slice A F.tasks.length c) ∧ W.cell? ⟨bl, ol + k, none⟩ = some (.string (sb s))) (first | exact s0 | exact s1) (first
            | (go_at_call 85; refine HC1.out.mono ?_; rintro e w1 ⟨rfl, hb1⟩; have hx1 := blw (drew_below wr) hb1; have HX1 := Lib.hid (blw HB.out hx1); have s1 : w1.cell? ⟨g, 0, none⟩ = some (.string (sb F.name)) ∧ w1.cell? ⟨g, 1, none⟩ = some (.int .i64 F.deadline) ∧ w1.cell? ⟨g, 2, none⟩ = some (.int .i64 F.priority) ∧ w1.cell? ⟨g, 3, none⟩ = some (.slice A F.tasks.length c) ∧ w1.cell? ⟨bl, ol + k, none⟩ = some (.string (sb s)) := ⟨keep_cell hx1 p0, keep_cell hx1 p1, keep_cell hx1 p2, keep_cell hx1 p3, keep_cell hx1 pl⟩; clear hb1 hx1))
          all_goals
            clear p0 p1 p2 p3 p4 p5 p6 hp pl s0 s1
            have HO1 := Lib.hid (keep_obj HX1.out HO0.out)
            have HRS : Hid ((w1.setCell ⟨g, 6, none⟩ (.int .i64 52)).heap[g + 1]? = some (.cells zero7 67 (0, 0))) := Lib.hid ((Dag.blk_other (by omega)).trans (keep_obj HX1.out HR0.out))
            obtain ⟨p0, p1, p2, p3, p4, p5, p6, hp⟩ := rO_cells HO1.out
            have pf := Dag.blk_frozen HO1.out 6
            go_wp2_with (refine wpList_storeA rfl 67 _ _ rfl (g + 1) #[.string (sb F.name), .int .i64 F.deadline, .int .i64 F.priority, .slice A F.tasks.length c, .bool nm, .slice HA hh hc, .int .i64 52] zero7 _ rfl rfl HRS.out rfl info_R (rO_one F A c nm HA hh hc 52) ?_; intro w3 hp3; have HP3 := Lib.hid hp3; clear hp3)
            refine bodyPost_ret (results_cell_row rfl _ _ _ _ _ _ _ rfl HP3.out.blk Tryz.underlying67 rfl info_R) rfl ?_
            exact ⟨HP3.out.below ((blw HB0.out HX1.out).setCell (by rw [eG]; exact Nat.le_refl _) _) (by omega), Or.inl ⟨HEX.out, rfl⟩⟩
    · obtain rfl : nL = k := by omega
      obtain ⟨nC, hnC⟩ : ∃ x, cs.length = x := ⟨_, rfl⟩
      have hnLC : nL = q + 1 + nC := by have h1 := HNL.out; have h2 := HEL.out; have h3 := HQL.out; rw [← h2, List.length_append, List.length_cons, h3, hnC] at h1; omega
      have HPI : Hid (∀ j s, ps[j]? = some s → l[j]? = some s) := Lib.hid fun j s hj => by rw [← HEL.out, List.getElem?_append_left (List.getElem?_eq_some_iff.1 hj).1]; exact hj
      have HCI : Hid (∀ j s, cs[j]? = some s → l[q + 1 + j]? = some s) := Lib.hid fun j s hj => by rw [← HEL.out, List.getElem?_append_right (by rw [HQL.out]; omega), HQL.out, show q + 1 + j - q = j + 1 from by omega, List.getElem?_cons_succ]; exact hj
      have HPN : Hid (∀ j s, ps[j]? = some s → s ∈ names F.tasks) := Lib.hid fun j s hj => by
        have hlj := (List.getElem?_eq_some_iff.1 hj).1
        rw [HQL.out] at hlj
        exact HM.out j (by omega) (by omega) s (HPI.out j s hj)
      have HCN : Hid (∀ j s, cs[j]? = some s → s ∈ names F.tasks) := Lib.hid fun j s hj => by
        have hlj := (List.getElem?_eq_some_iff.1 hj).1
        rw [hnC] at hlj
        exact HM.out (q + 1 + j) (by omega) (by omega) s (HCI.out j s hj)
      have HCL := Lib.hid hnC
      obtain ⟨L0, hL0, hTL0⟩ := HT.out
      have HL0 := Lib.hid hL0; have HTL0 := Lib.hid hTL0
      have HBS : Hid (Below w.heap.size w wr) := Lib.hid (blw HB0.out HB.out)
      have HOS := Lib.hid (keep_obj HB.out HO0.out)
      have HRS := Lib.hid (keep_obj HB.out HR0.out)
      obtain ⟨pid, hpid⟩ : ∃ x, (ps.map fun s => (names F.tasks).idxOf s) = x := ⟨_, rfl⟩
      obtain ⟨cid, hcid⟩ : ∃ x, (cs.map fun s => (names F.tasks).idxOf s) = x := ⟨_, rfl⟩
      have HPID := Lib.hid hpid; have HCID := Lib.hid hcid
      have HNLC := Lib.hid hnLC
      clear hnC hL0 hTL0 HB HB0 HO0 HR0 HM HC hpid hcid hnLC
      go_wp2_with fail
      go_loopw [7] (fun i wr => ∃ (m : Nat) (L : List TaskA) (A' : Option Addr) (c' : Nat), m ≤ nC ∧ i = .int .i64 ((q + 1 + m : Nat) : Int) ∧ Hid (L.map Prod.fst = (cid.take m).foldl (linkOne pid) F.tasks) ∧ Hid (Below w.heap.size w wr) ∧ Hid (wr.heap[g]? = some (rO F A' c' nm HA hh hc 0)) ∧ Hid (wr.heap[g + 1]? = some (.cells zero7 67 (0, 0))) ∧
        Hid (∀ W, Below w.heap.size w W → (∀ b, b < wr.heap.size → b ≠ g → b ≠ g + 1 → W.heap[b]? = wr.heap[b]?) → TL W A' c' L)) (fun i _ => q + 1 + nC - (intOf i).toNat)
      case atStart => exact ⟨0, L0, A, c, Nat.zero_le _, by go_num, HL0, HBS, HOS, HRS, Lib.hid fun W hW _ => HTL0.out.below hW⟩
      case round =>
        clear HBS HOS HRS HL0 HTL0
        obtain ⟨m, L, A', c', hm2, rfl, HLT, HBW, HOW, HRW, HKL⟩ := hrel
        obtain ⟨wA, rfl⟩ : ∃ x, x = wr := ⟨wr, rfl⟩
        have hLn : L.length = F.tasks.length := by have := congrArg List.length HLT.out; rwa [List.length_map, links_len] at this
        have hLN : names (L.map Prod.fst) = names F.tasks := by rw [HLT.out, links_names]
        by_cases hlt : m < nC
        · obtain ⟨bl, ol, s, eL, hx, hc0⟩ := HLW.out.at_ (k := q + 1 + m) (by rw [HNL.out, HNLC.out]; omega)
          subst eL
          obtain ⟨s', hs'⟩ : ∃ s', cs[m]? = some s' := ⟨_, List.getElem?_eq_getElem (by rw [HCL.out]; exact hlt)⟩
          obtain rfl : s = s' := by have := HCI.out m s' hs'; rw [hx] at this; injection this
          have hmem := HCN.out m s hs'
          obtain ⟨v, hv⟩ : ∃ v, (names F.tasks).idxOf s = v := ⟨_, rfl⟩
          have hvl : v < F.tasks.length := by have := List.idxOf_lt_length_of_mem hmem; rw [hv] at this; simpa [names] using this
          obtain ⟨⟨t, At, ct⟩, hxt⟩ : ∃ x, L[v]? = some x := ⟨_, List.getElem?_eq_getElem (by rw [hLn]; exact hvl)⟩
          have hcm : cid[m]? = some v := by rw [← HCID.out, List.getElem?_map, hs']; simp [hv]
          have hft : (L.map Prod.fst)[v]? = some t := by rw [List.getElem?_map, hxt]; rfl
          have HST := Lib.hid (show (cid.take (m + 1)).foldl (linkOne pid) F.tasks = (L.map Prod.fst).set v { t with after := Dag.num ((List.range F.tasks.length).filter fun u => decide ((u : Int) ∈ t.after) || decide (u ∈ pid)) } from by
            rw [fold_take (linkOne pid) cid F.tasks hcm, ← HLT.out, linkOne_set pid hft, List.length_map, hLn])
          have tl := HKL.out wA HBW.out (fun _ _ _ _ => rfl)
          have HTL := Lib.hid tl
          have HF : Hid (∀ W, Below wA.heap.size wA W → ∀ a, Calls Tryz.prog 85 #[.agg #[.string (sb F.name), .int .i64 F.deadline, .int .i64 F.priority, .slice A' F.tasks.length c'], .string (sb a)] W fun e w' => e = .returned (.int .i64 (findI (L.map Prod.fst) a)) ∧ Below W.heap.size W w') := Lib.hid fun W hW a => by
            have h := rfind_any { F with tasks := L.map Prod.fst } A' c' W ((tl.below hW).tasks) a
            dsimp only at h
            rw [List.length_map, hLn] at h
            exact h
          have hfs : findI (L.map Prod.fst) s = (v : Int) := by unfold findI; rw [hLN, if_pos hmem, hv]
          have HC1 := HF.out wA.drew (drew_below wA) s
          rw [hfs] at HC1
          have HC1 := Lib.hid HC1
          have HXT := Lib.hid hxt; have HLN := Lib.hid hLn; have HNN := Lib.hid hLN
          obtain ⟨p0, p1, p2, p3, p4, p5, p6, hp⟩ := rO_cells HOW.out
          have pl := keep_cell HBW.out hc0
          have hlb := World.block_lt_of_cell? wA _ pl
          have hlt2 : q + 1 + m < nL := by have := HNLC.out; omega
          obtain ⟨ix, hix⟩ : ∃ x, q + 1 + m = x := ⟨_, rfl⟩
          rw [hix] at pl hlt2 ⊢
          have HIX := Lib.hid hix
          clear hix
          have s0 : wA.drew.cell? ⟨g, 0, none⟩ = some (.string (sb F.name)) ∧ wA.drew.cell? ⟨g, 1, none⟩ = some (.int .i64 F.deadline) ∧ wA.drew.cell? ⟨g, 2, none⟩ = some (.int .i64 F.priority) ∧ wA.drew.cell? ⟨g, 3, none⟩ = some (.slice A' F.tasks.length c') ∧ wA.drew.cell? ⟨bl, ol + ix, none⟩ = some (.string (sb s)) := ⟨p0, p1, p2, p3, pl⟩
          clear hx hc0 hs' hmem hcm hft tl hfs hxt hLn hLN hv HLT
          go_wp2_with fail
          go_region_held3 (fun (W : World) => W.cell? ⟨g, 0, none⟩ = some (.string (sb F.name)) ∧ W.cell? ⟨g, 1, none⟩ = some (.int .i64 F.deadline) ∧ W.cell? ⟨g, 2, none⟩ = some (.int .i64 F.priority) ∧ W.cell? ⟨g, 3, none⟩ = some (.slice A' F.tasks.length c') ∧ W.cell? ⟨bl, ol + ix, none⟩ = some (.string (sb s))) (first | exact s0 | exact s1) (first
            | (go_at_call 85; refine HC1.out.mono ?_; rintro e w1 ⟨rfl, hb1⟩; have HX1 := Lib.hid (blw (drew_below wA) hb1); have s1 : w1.cell? ⟨g, 0, none⟩ = some (.string (sb F.name)) ∧ w1.cell? ⟨g, 1, none⟩ = some (.int .i64 F.deadline) ∧ w1.cell? ⟨g, 2, none⟩ = some (.int .i64 F.priority) ∧ w1.cell? ⟨g, 3, none⟩ = some (.slice A' F.tasks.length c') ∧ w1.cell? ⟨bl, ol + ix, none⟩ = some (.string (sb s)) := ⟨keep_cell HX1.out p0, keep_cell HX1.out p1, keep_cell HX1.out p2, keep_cell HX1.out p3, keep_cell HX1.out pl⟩; clear hb1))
          all_goals
            clear p0 p1 p2 p3 p4 p5 p6 hp pl s0 s1 hlb HC1
            have HB1 := Lib.hid (blw HBW.out HX1.out)
            have HO1 := Lib.hid (keep_obj HX1.out HOW.out)
            have HR1 := Lib.hid (keep_obj HX1.out HRW.out)
            obtain ⟨p0, p1, p2, p3, p4, p5, p6, hp⟩ := rO_cells HO1.out
            obtain ⟨bt, ot, eA, hct⟩ := (HTL.out.below HX1.out).2.2.2.1 v _ HXT.out
            subst eA
            have HK6 := Lib.hid hct
            clear hct
            go_wp2_with (refine wpList_load_mid rfl 48 _ rfl bt (ot + v * 6) (by simp [Act.eval]) (tkC (t, At, ct)) _ (fun j u hu => HK6.out j u hu) Tryz.underlying48 rfl info_T6 ?_; unfold tkC)
            have hgt : g + 1 < w1.heap.size := Dag.blk_lt HR1.out
            have hwt : wA.heap.size ≤ w1.heap.size := HX1.out.size
            have hwg : w.heap.size ≤ g := by rw [eG]; exact Nat.le_refl _
            have HX2 := blw HX1.out (al w1 (.cells #[.string (sb t.name), .int .i64 t.nodes, .int .i64 t.wall, .int .i64 t.retry, .bool t.done, .slice At t.after.length ct] 48))
            have HB2 := blw HBW.out HX2
            have HO2 := keep_obj (al w1 (.cells #[.string (sb t.name), .int .i64 t.nodes, .int .i64 t.wall, .int .i64 t.retry, .bool t.done, .slice At t.after.length ct] 48)) HO1.out
            have HR2 := keep_obj (al w1 (.cells #[.string (sb t.name), .int .i64 t.nodes, .int .i64 t.wall, .int .i64 t.retry, .bool t.done, .slice At t.after.length ct] 48)) HR1.out
            have HTB := heap_alloc_new w1 (.cells #[.string (sb t.name), .int .i64 t.nodes, .int .i64 t.wall, .int .i64 t.retry, .bool t.done, .slice At t.after.length ct] 48)
            have hs2 : w1.heap.size + 1 = (w1.alloc (.cells #[.string (sb t.name), .int .i64 t.nodes, .int .i64 t.wall, .int .i64 t.retry, .bool t.done, .slice At t.after.length ct] 48)).heap.size := by simp
            clear p0 p1 p2 p3 p4 p5 p6 hp HO1 HR1 HB1 HX1 HK6
            generalize w1.alloc (.cells #[.string (sb t.name), .int .i64 t.nodes, .int .i64 t.wall, .int .i64 t.retry, .bool t.done, .slice At t.after.length ct] 48) = w2 at HX2 HB2 HO2 HR2 HTB hs2 ⊢
            generalize w1.heap.size = tb at HTB hgt hwt hs2 ⊢
            have HX2 := Lib.hid HX2; have HB2 := Lib.hid HB2; have HO2 := Lib.hid HO2; have HR2 := Lib.hid HR2
            have HTB : Hid (w2.heap[tb]? = some (.cells #[.string (sb t.name), .int .i64 t.nodes, .int .i64 t.wall, .int .i64 t.retry, .bool t.done, .slice At t.after.length ct] 48 (0, 0))) := Lib.hid HTB
            have HIT := Lib.hid (show Dag.Ints wA At ct t.after from (HTL.out.2.2.1 _ (List.mem_of_getElem? HXT.out)).ints)
            obtain ⟨pin, hpin⟩ : ∃ f : Nat → Bool, (fun (u : Nat) => decide ((u : Int) ∈ t.after) || decide (u ∈ pid)) = f := ⟨_, rfl⟩
            have HPIN := Lib.hid hpin
            clear hpin
            go_loopw [10, 11] (fun af u wq => ∃ (k : Nat) (A6 : Option Addr) (c6 : Nat) (zs : List Int), k ≤ F.tasks.length ∧ u = .int .i64 (k : Int) ∧ af = .slice A6 zs.length c6 ∧ zs.length ≤ k ∧ Hid (zs = Dag.num ((List.range k).filter pin)) ∧ Hid (Own1 wq w2.heap.size 3 (.slice A6 zs.length c6) (Dag.ints zs)) ∧ Hid (Below w2.heap.size w2 wq)) (fun _ i _ => F.tasks.length - (intOf i).toNat)
            case atStart => exact ⟨0, none, 0, [], Nat.zero_le _, rfl, rfl, Nat.le_refl _, Lib.hid rfl, Lib.hid (by simpa [Dag.ints] using Own1.nil w2 w2.heap.size 3), Lib.hid (Below.refl _ _)⟩
            case round =>
              obtain ⟨k, A6, c6, zs, hkn, rfl, rfl, hzk, HZ, HO6, HBQ⟩ := hrel
              obtain ⟨wq, rfl⟩ : ∃ x, x = wr := ⟨wr, rfl⟩
              have p3 := keep_cell HBQ.out (rO_cells HO2.out).2.2.2.1
              have tq : wq.cell? ⟨tb, 5, none⟩ = some (.slice At t.after.length ct) := (Dag.blk_cell (keep_obj HBQ.out HTB.out) 5).trans rfl
              have hXQ := blw HX2.out HBQ.out
              by_cases hlt3 : k < F.tasks.length
              · obtain ⟨b0, hb0⟩ : ∃ b, decide ((k : Int) ∈ t.after) = b := ⟨_, rfl⟩
                have HHAS := Lib.hid (Dag.hasI_any t.after _ rfl (k : Int) wq At ct (HIT.out.below hXQ) b0 hb0)
                have HB00 := Lib.hid hb0
                have HXQ := Lib.hid hXQ
                clear hb0 hXQ
                go_wp2_with fail
                refine HHAS.out.mono ?_
                rintro e w9 ⟨rfl, rfl⟩
                clear HHAS
                go_wp2_with fail
                go_loopw [12, 13] (fun bb j wj => ∃ (jj : Nat), jj ≤ q ∧ j = .int .i64 jj ∧ bb = .bool (b0 || decide (k ∈ pid.take jj)) ∧ Hid (Below wq.heap.size wq wj)) (fun _ i _ => q - (intOf i).toNat)
                case atStart => exact ⟨0, Nat.zero_le _, rfl, by simp, Lib.hid (Below.refl _ _)⟩
                case round =>
                  obtain ⟨jj, hjq, rfl, rfl, HBJ⟩ := hrel
                  obtain ⟨wj, rfl⟩ : ∃ x, x = wr := ⟨wr, rfl⟩
                  by_cases hlt4 : jj < q
                  · obtain ⟨bl2, ol2, sj, eL, hx, hc0⟩ := HLW.out.at_ (k := jj) (by rw [HNL.out]; omega)
                    injection eL with eL; injection eL with e1 e2; subst e1 e2
                    obtain ⟨s', hs'⟩ : ∃ s', ps[jj]? = some s' := ⟨_, List.getElem?_eq_getElem (by rw [HQL.out]; exact hlt4)⟩
                    obtain rfl : sj = s' := by have := HPI.out jj s' hs'; rw [hx] at this; injection this
                    have hmem := HPN.out jj sj hs'
                    obtain ⟨x, hxv⟩ : ∃ v, (names F.tasks).idxOf sj = v := ⟨_, rfl⟩
                    have hpx : pid[jj]? = some x := by rw [← HPID.out, List.getElem?_map, hs']; simp [hxv]
                    have hfs : findI (L.map Prod.fst) sj = (x : Int) := by unfold findI; rw [HNN.out, if_pos hmem, hxv]
                    have HMS := Lib.hid (mem_take_succ (u := k) hpx)
                    have HXJ := Lib.hid (blw HXQ.out HBJ.out)
                    have HC1 := HF.out wj.drew (blw HXJ.out (drew_below wj)) sj
                    rw [hfs] at HC1
                    have HC1 := Lib.hid HC1
                    obtain ⟨p0, p1, p2, p3, p4, p5, p6, hp⟩ := rO_cells (keep_obj HBJ.out (keep_obj HBQ.out HO2.out))
                    have pl := keep_cell (blw HBW.out HXJ.out) hc0
                    have hlb := World.block_lt_of_cell? wj _ pl
                    have s0 : wj.drew.cell? ⟨g, 0, none⟩ = some (.string (sb F.name)) ∧ wj.drew.cell? ⟨g, 1, none⟩ = some (.int .i64 F.deadline) ∧ wj.drew.cell? ⟨g, 2, none⟩ = some (.int .i64 F.priority) ∧ wj.drew.cell? ⟨g, 3, none⟩ = some (.slice (some ⟨bt, ot, none⟩) F.tasks.length c') ∧ wj.drew.cell? ⟨bl, ol + jj, none⟩ = some (.string (sb sj)) := ⟨p0, p1, p2, p3, pl⟩
                    have hjn : jj < nL := by omega
                    clear hx hc0 hs' hmem hpx hfs hxv
                    obtain ⟨b1, hb1⟩ : ∃ b, (b0 || decide (k ∈ pid.take jj)) = b := ⟨_, rfl⟩
                    have HMS : Hid ((b0 || decide (k ∈ pid.take (jj + 1))) = (b1 || decide (x = k))) := Lib.hid (by rw [HMS.out, ← hb1, Bool.or_assoc])
                    rw [hb1]
                    clear hb1
                    cases b1 with
                    | true =>
                      clear HC1
                      go_wp2
                      go_quiet (fail)
                      have HBN := Lib.hid (blw HBJ.out (Dag.below_drew wj nq))
                      generalize wj.drewN nq = wz at HBN ⊢
                      go_wp2
                      go_roundw
                      case rel => exact ⟨jj + 1, by omega, by go_num, by rw [HMS.out]; rfl, HBN⟩
                      case measure => simp [intOf]; omega
                    | false =>
                      by_cases hxk : x = k
                      · subst hxk
                        go_wp2_with fail
                        go_region_held3 (fun (W : World) => W.cell? ⟨g, 0, none⟩ = some (.string (sb F.name)) ∧ W.cell? ⟨g, 1, none⟩ = some (.int .i64 F.deadline) ∧ W.cell? ⟨g, 2, none⟩ = some (.int .i64 F.priority) ∧ W.cell? ⟨g, 3, none⟩ = some (.slice (some ⟨bt, ot, none⟩) F.tasks.length c') ∧ W.cell? ⟨bl, ol + jj, none⟩ = some (.string (sb sj))) (first | exact s0 | exact s1) (first
                          | (go_at_call 85; refine HC1.out.mono ?_; rintro e w1 ⟨rfl, hb1⟩; have HX1 := Lib.hid (blw (drew_below wj) hb1); have s1 : w1.cell? ⟨g, 0, none⟩ = some (.string (sb F.name)) ∧ w1.cell? ⟨g, 1, none⟩ = some (.int .i64 F.deadline) ∧ w1.cell? ⟨g, 2, none⟩ = some (.int .i64 F.priority) ∧ w1.cell? ⟨g, 3, none⟩ = some (.slice (some ⟨bt, ot, none⟩) F.tasks.length c') ∧ w1.cell? ⟨bl, ol + jj, none⟩ = some (.string (sb sj)) := ⟨keep_cell HX1.out p0, keep_cell HX1.out p1, keep_cell HX1.out p2, keep_cell HX1.out p3, keep_cell HX1.out pl⟩; clear hb1))
                        all_goals go_wp2
                        all_goals go_roundw
                        case rel => exact ⟨jj + 1, by omega, by go_num, by rw [HMS.out]; simp, Lib.hid (blw HBJ.out HX1.out)⟩
                        case measure => simp [intOf]; omega
                      · have hne : ((x : Int) == (k : Int)) = false := by rw [beq_eq_false_iff_ne]; omega
                        go_wp2_with fail
                        go_region_held3 (fun (W : World) => W.cell? ⟨g, 0, none⟩ = some (.string (sb F.name)) ∧ W.cell? ⟨g, 1, none⟩ = some (.int .i64 F.deadline) ∧ W.cell? ⟨g, 2, none⟩ = some (.int .i64 F.priority) ∧ W.cell? ⟨g, 3, none⟩ = some (.slice (some ⟨bt, ot, none⟩) F.tasks.length c') ∧ W.cell? ⟨bl, ol + jj, none⟩ = some (.string (sb sj))) (first | exact s0 | exact s1) (first
                          | (go_at_call 85; refine HC1.out.mono ?_; rintro e w1 ⟨rfl, hb1⟩; have HX1 := Lib.hid (blw (drew_below wj) hb1); have s1 : w1.cell? ⟨g, 0, none⟩ = some (.string (sb F.name)) ∧ w1.cell? ⟨g, 1, none⟩ = some (.int .i64 F.deadline) ∧ w1.cell? ⟨g, 2, none⟩ = some (.int .i64 F.priority) ∧ w1.cell? ⟨g, 3, none⟩ = some (.slice (some ⟨bt, ot, none⟩) F.tasks.length c') ∧ w1.cell? ⟨bl, ol + jj, none⟩ = some (.string (sb sj)) := ⟨keep_cell HX1.out p0, keep_cell HX1.out p1, keep_cell HX1.out p2, keep_cell HX1.out p3, keep_cell HX1.out pl⟩; clear hb1))
                        all_goals go_wp2
                        all_goals go_roundw
                        case rel => exact ⟨jj + 1, by omega, by go_num, by rw [HMS.out]; simp [hxk], Lib.hid (blw HBJ.out HX1.out)⟩
                        case measure => simp [intOf]; omega
                  · have hjq2 : jj = q := by omega
                    have hpq : pid.take jj = pid := List.take_of_length_le (by rw [← HPID.out, List.length_map, HQL.out]; omega)
                    have hpk : (b0 || decide (k ∈ pid.take jj)) = pin k := by rw [hpq, ← HB00.out, ← HPIN.out]
                    rw [hpk]
                    have hnf := num_filter_succ pin k
                    subst hjq2
                    have HBJ2 := Lib.hid (blw HBQ.out HBJ.out)
                    have HO7 := Lib.hid (HO6.out.below HBJ.out)
                    clear hpq hpk
                    obtain ⟨b2, hb2⟩ : ∃ b, pin k = b := ⟨_, rfl⟩
                    rw [hb2] at hnf ⊢
                    have HNF := Lib.hid hnf
                    have HLZ := Lib.hid (Dag.ints_len zs)
                    clear hb2 hnf
                    cases b2 with
                    | false =>
                      go_wp2
                      go_roundw
                      case rel => exact ⟨k + 1, A6, c6, zs, by omega, by go_num, rfl, by omega, Lib.hid (by rw [HNF.out, ← HZ.out]; simp), HO7, HBJ2⟩
                      case measure => simp [intOf]; omega
                    | true =>
                      go_wp2_with (at_builtin; refine Dag.wpList_appg rfl _ _ 34 3 (.int .i64 0) 8 Tryz.underlying34 Dag.info_int rfl (by decide) rfl w2.heap.size (.slice A6 zs.length c6) (Dag.ints zs) rfl (Own1.below HO7.out (al _ _)) (some ⟨wj.heap.size, 0, none⟩) 1 1 [.int .i64 (k : Int)] rfl rfl (Sl.one rfl) (by simp; rfl) (by rw [HLZ.out]; simp; omega) (by have := HBJ2.out.size; simp; omega) ?_; intro l9 A9 c9 w9 el ho9 hg9 hb9 hbl9; have HO9 := Lib.hid ho9; have HBL := Lib.hid hbl9; have EL := Lib.hid el; clear ho9 hg9 hb9 hbl9 el)
                      have e9 : l9 = Dag.ints (zs ++ [(k : Int)]) := by rw [EL.out]; simp [Dag.ints]
                      have hl9 : l9.length = (zs ++ [(k : Int)]).length := by rw [e9, Dag.ints_len]
                      have hO := HO9.out
                      rw [hl9] at hO ⊢
                      rw [e9] at hO
                      have HO := Lib.hid hO
                      clear hO
                      go_roundw
                      case rel => exact ⟨k + 1, A9, c9, zs ++ [(k : Int)], by omega, by go_num, rfl, by simp; omega, Lib.hid (by rw [HNF.out, ← HZ.out]; simp), HO, Lib.hid ((HBJ2.out.trans (al wj _ |>.mono HBJ2.out.size)).trans HBL.out)⟩
                      case measure => simp [intOf]; omega
              · obtain rfl : k = F.tasks.length := by omega
                have HB5 := Lib.hid (blw HB2.out HBQ.out)
                have HO5 := Lib.hid (keep_obj HBQ.out HO2.out)
                have HR5 := Lib.hid (keep_obj HBQ.out HR2.out)
                have HTB5 := Lib.hid (keep_obj HBQ.out HTB.out)
                have HS2 : Hid (w2.heap.size ≤ wq.heap.size) := Lib.hid HBQ.out.size
                clear p3
                obtain ⟨p0, p1, p2, p3, p4, p5, p6, hp⟩ := rO_cells HO5.out
                have tf := Dag.blk_frozen HTB5.out 5
                have HX6 : Hid (Below wA.heap.size wA (wq.setCell ⟨tb, 5, none⟩ (.slice A6 zs.length c6))) := Lib.hid (hXQ.setCell hwt _)
                have HT6 : Hid ((wq.setCell ⟨tb, 5, none⟩ (.slice A6 zs.length c6)).heap[tb]? = some (.cells #[.string (sb t.name), .int .i64 t.nodes, .int .i64 t.wall, .int .i64 t.retry, .bool t.done, .slice A6 zs.length c6] 48 (0, 0))) := Lib.hid (by rw [Dag.blk_set HTB5.out]; simp)
                have HO6b : Hid ((wq.setCell ⟨tb, 5, none⟩ (.slice A6 zs.length c6)).heap[g]? = some (rO F (some ⟨bt, ot, none⟩) c' nm HA hh hc 0)) := Lib.hid ((Dag.blk_other (by omega)).trans HO5.out)
                have HR6 : Hid ((wq.setCell ⟨tb, 5, none⟩ (.slice A6 zs.length c6)).heap[g + 1]? = some (.cells zero7 67 (0, 0))) := Lib.hid ((Dag.blk_other (by omega)).trans HR5.out)
                have HB6 : Hid (Below w.heap.size w (wq.setCell ⟨tb, 5, none⟩ (.slice A6 zs.length c6))) := Lib.hid (HB5.out.setCell (show w.heap.size ≤ tb by omega) _)
                have HN6 : Hid (Own1 (wq.setCell ⟨tb, 5, none⟩ (.slice A6 zs.length c6)) w2.heap.size 3 (.slice A6 zs.length c6) (Dag.ints zs)) := Lib.hid (HO6.out.keep fun b hb => Dag.blk_other (by have := (HO6.out.lt hb).1; omega))
                clear hXQ
                go_wp2_with (refine wpList_loadA rfl 48 _ rfl tb #[.string (sb t.name), .int .i64 t.nodes, .int .i64 t.wall, .int .i64 t.retry, .bool t.done, .slice A6 zs.length c6] 48 rfl HT6.out _ Tryz.underlying48 rfl info_T6 ?_)
                refine (withL_any F (some ⟨bt, ot, none⟩) c' _ L F.tasks.length HLN.out (fun k x hx => by obtain ⟨b, off, e, hc⟩ := HTL.out.2.2.2.1 k x hx; exact ⟨b, off, e, fun j u hu => keep_cell HX6.out (hc j u hu)⟩) v hvl hm { t with after := zs } A6 c6).mono ?_
                rintro e w7 ⟨A7, c7, rfl, ho7, hb7⟩
                have HB7 := Lib.hid (HB6.out.trans (hb7.mono HB6.out.size))
                have HX7 := Lib.hid (HX6.out.trans (hb7.mono HX6.out.size))
                have HO7 := Lib.hid (keep_obj hb7 HO6b.out)
                have HR7 := Lib.hid (keep_obj hb7 HR6.out)
                have HTH7 := Lib.hid (rO_there HO7.out)
                have HN7 := Lib.hid (HN6.out.below hb7)
                have HL7 := Lib.hid ho7
                clear hb7 ho7 p0 p1 p2 p3 p4 p5 p6 hp tq tf HT6 HO6b HR6 HB6 HO5 HR5 HTB5 HB5 HN6 HX6
                go_wp2_with (refine wpList_store_mid rfl 25 _ _ rfl g 0 #[.string (sb F.name), .int .i64 F.deadline, .int .i64 F.priority, .slice A7 F.tasks.length c7] (by simp [Act.eval]) (by simp [Act.eval]) HTH7.out info_flow (flow4_one _ _ _ _ _ _) ?_; change wpList _ _ _ _ _ (w7.setCells g 0 [.string (sb F.name), .int .i64 F.deadline, .int .i64 F.priority, .slice A7 F.tasks.length c7]); have HO8 := Lib.hid (rO_setF HO7.out A7 c7); have HR8 := Lib.hid ((setCells_other g [.string (sb F.name), .int .i64 F.deadline, .int .i64 F.priority, .slice A7 F.tasks.length c7] 0 w7 (g + 1) (by omega)).trans HR7.out); have HB8 := Lib.hid (below_setCells (o := 0) (vs := [.string (sb F.name), .int .i64 F.deadline, .int .i64 F.priority, .slice A7 F.tasks.length c7]) HB7.out hwg); have HW8 : Hid (∀ b, b ≠ g → (w7.setCells g 0 [.string (sb F.name), .int .i64 F.deadline, .int .i64 F.priority, .slice A7 F.tasks.length c7]).heap[b]? = w7.heap[b]?) := Lib.hid (fun b hb => setCells_other g [.string (sb F.name), .int .i64 F.deadline, .int .i64 F.priority, .slice A7 F.tasks.length c7] 0 w7 b hb); have HZ8 : Hid ((w7.setCells g 0 [.string (sb F.name), .int .i64 F.deadline, .int .i64 F.priority, .slice A7 F.tasks.length c7]).heap.size = w7.heap.size) := Lib.hid (setCells_rest g [.string (sb F.name), .int .i64 F.deadline, .int .i64 F.priority, .slice A7 F.tasks.length c7] 0 w7).2.2.2; generalize w7.setCells g 0 [.string (sb F.name), .int .i64 F.deadline, .int .i64 F.priority, .slice A7 F.tasks.length c7] = w8 at HO8 HR8 HB8 HW8 HZ8 ⊢; obtain ⟨p0, p1, p2, p3, p4, p5, p6, hp⟩ := rO_cells HO8.out)
                go_roundw
                case rel =>
                  refine ⟨m + 1, L.set v ({ t with after := zs }, A6, c6), A7, c7, by omega, ?_, Lib.hid ?_, HB8, HO8, HR8, Lib.hid fun W hW hKW => ?_⟩
                  · rw [← HIX.out]; go_num
                  · rw [List.map_set, HST.out, HPIN.out, ← HZ.out]
                  · have hold : TL W (some ⟨bt, ot, none⟩) c' L := HKL.out W hW fun b hb h1 h2 => by
                      rw [hKW b (by rw [HZ8.out]; exact Nat.lt_of_lt_of_le hb HX7.out.size) h1 h2, HW8.out b h1]; exact HX7.out.block b hb
                    have hnew : Own1 W w2.heap.size 3 (.slice A6 zs.length c6) (Dag.ints zs) := HN7.out.keep fun b hb => by
                      have h1 := HN7.out.lt hb
                      rw [hKW b (by rw [HZ8.out]; exact h1.2) (by omega) (by omega), HW8.out b (by omega)]
                    have hl2 : (L.set v ({ t with after := zs }, A6, c6)).length = F.tasks.length := by rw [List.length_set, HLN.out]
                    have hL7 := HL7.out
                    rw [← hl2] at hL7
                    refine TL.own (hL7.keep fun b cs hb => ?_) (fun x hx => ?_) (fun x hx => ?_)
                    · have h1 : b ≠ g := ty_ne hb HO7.out (by decide)
                      have h2 : b ≠ g + 1 := ty_ne hb HR7.out (by decide)
                      rw [hKW b (by rw [HZ8.out]; exact Dag.blk_lt hb) h1 h2, HW8.out b h1]
                    · rcases List.mem_or_eq_of_mem_set hx with hx | rfl
                      · exact hold.2.2.1 x hx
                      · exact IntsT.own hnew
                    · rcases List.mem_or_eq_of_mem_set hx with hx | rfl
                      · exact HTL.out.2.1 x hx
                      · exact HTL.out.2.1 (t, At, ct) (List.mem_of_getElem? HXT.out)
                case measure => have := HIX.out; simp [intOf]; omega
        · obtain rfl : nC = m := by omega
          obtain rfl : nL = q + 1 + nC := HNLC.out
          have h1 := HLT.out
          have HPC : Hid (∀ s ∈ ps ++ cs, s ∈ names F.tasks) := Lib.hid fun s hs => by
            rcases List.mem_append.1 hs with h | h
            · obtain ⟨j, hj⟩ := List.mem_iff_getElem?.1 h; exact HPN.out j s hj
            · obtain ⟨j, hj⟩ := List.mem_iff_getElem?.1 h; exact HCN.out j s hj
          rw [List.take_of_length_le (by rw [← HCID.out, List.length_map, HCL.out]; exact Nat.le_refl _)] at h1
          have HLT2 := Lib.hid h1
          obtain ⟨p0, p1, p2, p3, p4, p5, p6, hp⟩ := rO_cells HOW.out
          clear h1 HLT
          go_wp2_with (refine wpList_storeA rfl 67 _ _ rfl (g + 1) #[.string (sb F.name), .int .i64 F.deadline, .int .i64 F.priority, .slice A' F.tasks.length c', .bool nm, .slice HA hh hc, .int .i64 0] zero7 _ rfl rfl HRW.out rfl info_R (rO_one F A' c' nm HA hh hc 0) ?_; intro w3 hp3; have HP3 := Lib.hid hp3; clear hp3)
          refine bodyPost_ret (results_cell_row rfl _ _ _ _ _ _ _ rfl HP3.out.blk Tryz.underlying67 rfl info_R) rfl ?_
          have hb3 := HP3.out.below HBW.out (by omega)
          refine ⟨hb3, Or.inr ⟨HPC.out, A', c', rfl, ?_⟩⟩
          rw [HPID.out, HCID.out, ← HLT2.out]
          exact ⟨_, rfl, HKL.out w3 hb3 (fun b _ _ hb => HP3.out.other b hb)⟩
end Go.Proofs.YtkcijibkloamkaaGreatDoor

