/- Lines that tell something of one task. -/
import Derived.Test.YtkcijibkloamkaaGreatDoorFlwSet
import Derived.Deep.QuietTactic
import Derived.BigQuiet
namespace Go.Proofs.YtkcijibkloamkaaGreatDoor
open Go.RowKit
open Clk (readE readV)
set_option linter.unusedVariables false
set_option maxRecDepth 100000

theorem zero_intW (w : World) : (zeroValue 3).run Tryz.prog w = .ok (.int .i64 0) w := zero_int w
/-- a look into the index, as an equation -/
theorem run_getM {w : World} {b n m : Nat} {g : List UInt8 → Option Int} (h : MapAt w b n g m) (s : List UInt8) (hs : s.length ≤ maxLen) :
    (Instr.lookup 56 (.map (some b)) (.string (sb s)) true).run Tryz.prog w = .ok (.tuple #[.int .i64 ((g s).getD 0), .bool (g s).isSome]) w := by
  obtain ⟨D, ho, h1, h2, h3⟩ := h.ex
  obtain ⟨v, ps, hrun, hv⟩ := ho.look_ok keyed_str Tryz.underlying56 (zero_int w) (plainElem_int Tryz.underlying3 (by decide)) (keyL_of hs)
  rw [h2 s] at hv
  obtain ⟨c, rfl, hc, _⟩ := plainElem_int_inv Tryz.underlying3 hv
  have hc1 := congrArg Prod.fst hc
  injection hc1 with hc1
  injection hc1 with _ hc1
  rw [hrun, ← hc1, h1 s]
theorem getM_drew {w : World} {b n m : Nat} {g : List UInt8 → Option Int} (h : MapAt w b n g m) (s : List UInt8) (hs : s.length ≤ maxLen) {x : Int} {k : Bool} (hx : (g s).getD 0 = x) (hk : (g s).isSome = k) (q : Nat) :
    (Instr.lookup 56 (.map (some b)) (.string (sb s)) true).run Tryz.prog (w.drewN q) = .ok (.tuple #[.int .i64 x, .bool k]) (w.drewN q) := by
  subst hx hk
  exact run_getM (w := w.drewN q) (h.keep rfl) s hs
theorem bdrew (w : World) (n : Nat) : Below w.heap.size w (w.drewN n) := (Dag.Quiet.drew w n).below
theorem flat_same {α : Type} {c : α → List Value} : ∀ (l : List α) (k : Nat) (a a' : α), l[k]? = some a → c a = c a' → flat c (l.set k a') = flat c l
  | [], k, a, a', h, _ => by simp at h
  | b :: l, 0, a, a', h, he => by simp at h; subst h; simp [flat, he]
  | b :: l, k + 1, a, a', h, he => by
    rw [List.getElem?_cons_succ] at h
    rw [List.set_cons_succ, flat, flat, flat_same l k a a' h he]
theorem namesP_set {ts : List TaskP} {v : Nat} {t t' : TaskP} (h : ts[v]? = some t) (hn : t'.name = t.name) : namesP (ts.set v t') = namesP ts := by
  unfold namesP
  rw [List.map_set, hn]
  apply List.ext_getElem?
  intro i
  rw [List.getElem?_set]
  split
  · rename_i e; subst e
    split
    · rw [List.getElem?_map, h]; rfl
    · rename_i hlt; rw [List.getElem?_eq_none (by simpa using hlt)]
  · rfl
theorem nameI_set {ts : List TaskP} {v : Nat} {t t' : TaskP} (h : ts[v]? = some t) (hn : t'.name = t.name) : nameI (ts.set v t') = nameI ts := by
  funext s
  unfold nameI
  rw [namesP_set h hn]
theorem mem_set_nm {ts : List TaskP} {v : Nat} {t t' : TaskP} (h : ts[v]? = some t) (hn : t'.name = t.name) (hm : ∀ x ∈ ts, x.name.length ≤ maxLen) : ∀ x ∈ ts.set v t', x.name.length ≤ maxLen := by
  intro x hx
  rcases List.mem_or_eq_of_mem_set hx with hx | rfl
  · exact hm x hx
  · rw [hn]; exact hm t (List.mem_of_getElem? h)
theorem nameI_some {ts : List TaskP} {a : List UInt8} (ha : a ∈ namesP ts) : nameI ts a = some ((namesP ts).idxOf a : Int) := by unfold nameI; rw [if_pos ha]
theorem idx_lt {ts : List TaskP} {a : List UInt8} (ha : a ∈ namesP ts) : (namesP ts).idxOf a < ts.length := by
  have := List.idxOf_lt_length_of_mem ha
  simpa [namesP] using this
theorem mark_names (t : TaskP) (k : Nat) : (t.mark k).name = t.name := rfl

/-- the parts of a draft, one task another one: both rows written -/
theorem Prt.task {w w' : World} {base : Nat} {ts : List TaskP} {links : List (List Nat × List Nat)} {TA : Option Addr} {tc : Nat} {HA : Option Addr} {hc : Nat} {LA : Option Addr} {lc M : Nat} (h : Prt w base ts links TA tc HA hc LA lc M) {v : Nat} {t t' : TaskP} (hv : ts[v]? = some t) (hn : t'.name = t.name)
    (h1 : OwnN w' base 48 6 TA ts.length tc (flat taskC (ts.set v t'))) (h2 : OwnN w' base 55 9 HA ts.length hc (flat toldC (ts.set v t')))
    (hk : Kept [110, 3] w w') (hm : KeptM w w') : Prt w' base (ts.set v t') links TA tc HA hc LA lc M := by
  obtain ⟨lv, g1, g2⟩ := h.links
  refine ⟨by rw [List.length_set]; exact h1, by rw [List.length_set]; exact h2, ⟨lv, g1.keep (hk _ (by simp)), g2.keep (hk _ (by simp))⟩, ?_, h.low, mem_set_nm hv hn h.nm⟩
  rw [nameI_set hv hn, List.length_set]
  exact h.idx.keepM hm
theorem telSt_ok {s : St} {k v : Nat} {t : TaskP} {b : List UInt8} (hto : t.told k = false) (h7 : k ≠ 7) (hn : numE k b = 0) : telSt s k v t [b] = .ok { s with tasks := s.tasks.set v ((t.mark k).put k (readV b)) } := by
  unfold telSt
  rw [if_neg (by rw [hto]; decide), if_neg h7]
  exact if_neg (fun h => h hn)
theorem telSt_err {s : St} {k v : Nat} {t : TaskP} {b : List UInt8} (hto : t.told k = false) (h7 : k ≠ 7) (hn : numE k b ≠ 0) : telSt s k v t [b] = .error (numE k b) := by
  unfold telSt
  rw [if_neg (by rw [hto]; decide), if_neg h7]
  exact if_pos hn
theorem Kept.trans {tys : List TypeId} {a b c : World} (h : Kept tys a b) (k : Kept tys b c) : Kept tys a c := fun ty hty i cs hi => by
  have h1 := h ty hty i cs hi
  exact (k ty hty i cs (h1.trans hi)).trans h1
theorem KeptM.trans {a b c : World} (h : KeptM a b) (k : KeptM b c) : KeptM a c := fun i es n hi => by
  have h1 := h i es n hi
  exact (k i es n (h1.trans hi)).trans h1
theorem Kept.sub {tys tys' : List TypeId} {a b : World} (h : Kept tys a b) (hs : ∀ t ∈ tys', t ∈ tys) : Kept tys' a b := fun ty hty => h ty (hs ty hty)

/-- a line of it told: the cell of its row written -/
theorem Prt.tell {w : World} {base : Nat} {ts : List TaskP} {links : List (List Nat × List Nat)} {TA : Option Addr} {tc gh : Nat} {hc : Nat} {LA : Option Addr} {lc M : Nat} (h : Prt w base ts links TA tc (some ⟨gh, 0, none⟩) hc LA lc M) {v k : Nat} {t : TaskP} (hv : ts[v]? = some t) (hk : k < 9)
    (h9 : (toldC t).set k (.bool true) = toldC (t.mark k)) : Prt (w.setCell ⟨gh, v * 9 + k, none⟩ (.bool true)) base (ts.set v (t.mark k)) links TA tc (some ⟨gh, 0, none⟩) hc LA lc M := by
  have hlen : k < (toldC t).length := hk
  obtain ⟨g2, e2, _, _, _, _, ⟨cs, hth⟩, hset⟩ := h.told.at_ (i := v * 9 + k) (u := (toldC t)[k]) (by rw [flat_get toldC_len _ _ _ _ hv hk, List.getElem?_eq_getElem])
  injection e2 with e2; injection e2 with e2; subst e2
  have h2 := hset (.bool true)
  rw [flat_set toldC_len _ _ _ _ _ _ hv hk h9] at h2
  refine h.task hv rfl ?_ h2 (Kept.set hth (by decide)) (KeptM.set hth)
  rw [flat_same _ _ _ _ hv (show taskC t = taskC (t.mark k) from rfl)]
  exact h.tasks.keep (Kept.set (tys := [48]) hth (by decide) _ (by simp))
theorem Prt.put {w : World} {base : Nat} {ts : List TaskP} {links : List (List Nat × List Nat)} {HA : Option Addr} {tc gt : Nat} {hc : Nat} {LA : Option Addr} {lc M : Nat} (h : Prt w base ts links (some ⟨gt, 0, none⟩) tc HA hc LA lc M) {v o : Nat} {t t' : TaskP} {x : Value} (hv : ts[v]? = some t) (hk : o < 6)
    (h6 : (taskC t).set o x = taskC t') (hn : t'.name = t.name) (hto : toldC t = toldC t') : Prt (w.setCell ⟨gt, v * 6 + o, none⟩ x) base (ts.set v t') links (some ⟨gt, 0, none⟩) tc HA hc LA lc M := by
  have hlen : o < (taskC t).length := hk
  obtain ⟨g2, e2, _, _, _, _, ⟨cs, hth⟩, hset⟩ := h.tasks.at_ (i := v * 6 + o) (u := (taskC t)[o]) (by rw [flat_get taskC_len _ _ _ _ hv hk, List.getElem?_eq_getElem])
  injection e2 with e2; injection e2 with e2; subst e2
  have h2 := hset x
  rw [flat_set taskC_len _ _ _ _ _ _ hv hk h6] at h2
  refine h.task hv hn h2 ?_ (Kept.set hth (by decide)) (KeptM.set hth)
  rw [flat_same _ _ _ _ hv hto]
  exact h.told.keep (Kept.set (tys := [55]) hth (by decide) _ (by simp))
theorem mark_told (t : TaskP) {k : Nat} (hk : k < 9) : (toldC t).set k (.bool true) = toldC (t.mark k) := by
  match k, hk with
  | 0, _ | 1, _ | 2, _ | 3, _ | 4, _ | 5, _ | 6, _ | 7, _ | 8, _ => simp [toldC, marksC, TaskP.mark, upB]
theorem set_set (ts : List TaskP) (v : Nat) (a b : TaskP) : (ts.set v a).set v b = ts.set v b := by simp
theorem get_set {ts : List TaskP} {v : Nat} {t : TaskP} (h : ts[v]? = some t) (a : TaskP) : (ts.set v a)[v]? = some a := by
  rw [List.getElem?_set, if_pos rfl, if_pos (List.getElem?_eq_some_iff.1 h).1]

set_option maxHeartbeats 3200000 in
theorem setTask7_any (s : St) (a : List UInt8) (w : World) (base D : Nat) (h : Drf w base D s) (A : Option Addr) (c : Nat) (hW : Words w A c [a]) (ha : a.length ≤ maxLen) (hw : base ≤ w.heap.size) (hn : s.tasks.length ≤ 100000) :
    Calls Tryz.prog 115 #[.pointer (some ⟨D, 0, none⟩), .int .i64 7, .slice A 1 c] w (RetD w base D (taskSt s 7 a [])) := by
  obtain ⟨TA, tc, HA, hc, LA, lc, M, hD, hP⟩ := h.ex
  have HH := Lib.hid h
  have HD := Lib.hid hD; have HP := Lib.hid hP
  have hl := h.low
  have hlt := Dag.blk_lt hD
  obtain ⟨k3, f3⟩ := Drf.cells hD 3
  obtain ⟨k13, f13⟩ := Drf.cells hD 13
  obtain ⟨k14, f14⟩ := Drf.cells hD 14
  simp only [draftC, List.getElem?_toArray, List.getElem?_cons_succ, List.getElem?_cons_zero] at k3 k13 k14
  obtain ⟨bw, ow, x, rfl, hx, hw0⟩ := hW.at_ (k := 0) (by simp)
  rw [List.getElem?_cons_zero] at hx
  injection hx with hx
  subst hx
  rw [Nat.add_zero] at hw0
  have hal := ha
  clear h hD hP hW
  by_cases hm : a ∈ namesP s.tasks
  case neg =>
    have HN := Lib.hid (show taskSt s 7 a [] = .error 52 from by unfold taskSt; rw [if_neg hm])
    have HG := Lib.hid (nameI_none hm)
    clear hm
    have hlk := getM_drew HP.out.idx a hal (x := 0) (k := false) (by rw [HG.out]; rfl) (by rw [HG.out]; rfl)
    go_enter Tryz.func115, Tryz.ntmps115
    go_wp2
    go_quiet (fail)
    go_wp2
    go_ret
    exact ret_err HN.out (by decide) (HH.out.below (bdrew _ _)) ((bdrew _ _).mono hw)
  have HG := Lib.hid (nameI_some hm)
  have hvl := idx_lt hm
  obtain ⟨v, hv⟩ : ∃ v, (namesP s.tasks).idxOf a = v := ⟨_, rfl⟩
  rw [hv] at hvl
  have HG2 := Lib.hid (show nameI s.tasks a = some (v : Int) from by rw [HG.out, hv])
  obtain ⟨t, ht⟩ : ∃ t, s.tasks[v]? = some t := ⟨_, List.getElem?_eq_getElem hvl⟩
  have HTS := Lib.hid (show taskSt s 7 a [] = telSt s 7 v t [] from by unfold taskSt; rw [if_pos hm, hv, ht])
  obtain ⟨gh, eH, hbh, hlh, hch, hfh, ⟨csh, hth⟩, hseth⟩ := HP.out.told.at_ (i := v * 9 + 7) (u := .bool (t.told 7)) (by rw [flat_get toldC_len _ _ _ _ ht (by decide)]; rfl)
  subst eH
  clear HG hm hv
  cases hto : t.told 7
  case true =>
    rw [hto] at hch
    have HN := Lib.hid (show taskSt s 7 a [] = .error 51 from by rw [HTS.out]; unfold telSt; rw [hto]; rfl)
    clear ht hseth hth
    have hlk := getM_drew HP.out.idx a hal (x := (v : Int)) (k := true) (by rw [HG2.out]; rfl) (by rw [HG2.out]; rfl)
    go_enter Tryz.func115, Tryz.ntmps115
    go_wp2
    go_quiet (fail)
    go_wp2
    go_ret
    exact ret_err HN.out (by decide) (HH.out.below (bdrew _ _)) ((bdrew _ _).mono hw)
  rw [hto] at hch
  have hlk := getM_drew HP.out.idx a hal (x := (v : Int)) (k := true) (by rw [HG2.out]; rfl) (by rw [HG2.out]; rfl)
  obtain ⟨gt, eT, hbt, hlt2, hct, hft, ⟨cst, htt⟩, _⟩ := HP.out.tasks.at_ (i := v * 6 + 4) (u := .bool t.done) (by rw [flat_get taskC_len _ _ _ _ ht (by decide)]; rfl)
  subst eT
  have HTH := Lib.hid hth; have HTT := Lib.hid htt; have HSH := Lib.hid hseth; have HT := Lib.hid ht
  have hgg : gh ≠ gt := ty_ne hth htt (by decide)
  have hgd : gh ≠ D := ty_ne hth HD.out (by decide)
  have hgd2 : gt ≠ D := ty_ne htt HD.out (by decide)
  clear hth htt hseth ht
  go_enter Tryz.func115, Tryz.ntmps115
  go_wp2
  go_quiet (fail)
  go_wp2
  go_ret
  have hq := bdrew w nq
  generalize w.drewN nq = w1 at hq
  have hP1 := (HP.out.keep (Kept.below hq) (KeptM.below hq)).tell HT.out (k := 7) (by decide) (mark_told t (by decide))
  have hP2 := hP1.put (t := t.mark 7) (t' := (t.mark 7).put 7 0) (o := 4) (x := .bool true) (get_set HT.out _) (by decide) rfl rfl rfl
  rw [set_set] at hP2
  have HN := Lib.hid (show taskSt s 7 a [] = .ok { s with tasks := s.tasks.set v ((t.mark 7).put 7 0) } from by rw [HTS.out]; unfold telSt; rw [hto]; rfl)
  refine ret_ok HN.out ⟨⟨_, _, _, _, _, _, _, ?_, hP2⟩, hl⟩ (((hq.mono hw).setCell hbh _).setCell hbt _)
  rw [Dag.blk_other hgd2.symm, Dag.blk_other hgd.symm, hq.block D hlt, HD.out]
  simp [draftC]
set_option maxHeartbeats 3200000 in
theorem setTask4_any (s : St) (a b : List UInt8) (w : World) (base D : Nat) (h : Drf w base D s) (A : Option Addr) (c : Nat) (hW : Words w A c [a, b]) (hty : TypS w A) (ha : a.length ≤ maxLen) (hb : b.length ≤ maxLen) (hw : base ≤ w.heap.size) (hn : s.tasks.length ≤ 100000) (hS : TabS w) (hgb : 0 < base) :
    Calls Tryz.prog 115 #[.pointer (some ⟨D, 0, none⟩), .int .i64 4, .slice A 2 c] w (RetD w base D (taskSt s 4 a [b])) := by
  obtain ⟨TA, tc, HA, hc, LA, lc, M, hD, hP⟩ := h.ex
  have HH := Lib.hid h
  have HD := Lib.hid hD; have HP := Lib.hid hP
  have hl := h.low
  have hlt := Dag.blk_lt hD
  obtain ⟨k3, f3⟩ := Drf.cells hD 3
  obtain ⟨k13, f13⟩ := Drf.cells hD 13
  obtain ⟨k14, f14⟩ := Drf.cells hD 14
  simp only [draftC, List.getElem?_toArray, List.getElem?_cons_succ, List.getElem?_cons_zero] at k3 k13 k14
  obtain ⟨bw, ow, x, rfl, hx, hw0⟩ := hW.at_ (k := 0) (by simp)
  rw [List.getElem?_cons_zero] at hx
  injection hx with hx
  subst hx
  rw [Nat.add_zero] at hw0
  obtain ⟨bw2, ow2, y, e2, hy, hw1⟩ := hW.at_ (k := 1) (by simp)
  injection e2 with e2; injection e2 with e2 e3
  subst e2 e3
  rw [List.getElem?_cons_succ, List.getElem?_cons_zero] at hy
  injection hy with hy
  subst hy
  obtain ⟨csw, hcw⟩ := hty _ rfl
  have hbl := hb
  obtain ⟨q0, q1, q2, q3⟩ := hS.s4
  have hgl := hS.lt
  have hal := ha
  clear h hD hP hW
  by_cases hm : a ∈ namesP s.tasks
  case neg =>
    have HN := Lib.hid (show taskSt s 4 a [b] = .error 52 from by unfold taskSt; rw [if_neg hm])
    have HG := Lib.hid (nameI_none hm)
    clear hm
    have hlk := getM_drew HP.out.idx a hal (x := 0) (k := false) (by rw [HG.out]; rfl) (by rw [HG.out]; rfl)
    go_enter Tryz.func115, Tryz.ntmps115
    go_wp2
    go_quiet (fail)
    go_wp2
    go_ret
    exact ret_err HN.out (by decide) (HH.out.below (bdrew _ _)) ((bdrew _ _).mono hw)
  have HG := Lib.hid (nameI_some hm)
  have hvl := idx_lt hm
  obtain ⟨v, hv⟩ : ∃ v, (namesP s.tasks).idxOf a = v := ⟨_, rfl⟩
  rw [hv] at hvl
  have HG2 := Lib.hid (show nameI s.tasks a = some (v : Int) from by rw [HG.out, hv])
  obtain ⟨t, ht⟩ : ∃ t, s.tasks[v]? = some t := ⟨_, List.getElem?_eq_getElem hvl⟩
  have HTS := Lib.hid (show taskSt s 4 a [b] = telSt s 4 v t [b] from by unfold taskSt; rw [if_pos hm, hv, ht])
  obtain ⟨gh, eH, hbh, hlh, hch, hfh, ⟨csh, hth⟩, hseth⟩ := HP.out.told.at_ (i := v * 9 + 4) (u := .bool (t.told 4)) (by rw [flat_get toldC_len _ _ _ _ ht (by decide)]; rfl)
  subst eH
  clear HG hm hv
  cases hto : t.told 4
  case true =>
    rw [hto] at hch
    have HN := Lib.hid (show taskSt s 4 a [b] = .error 51 from by rw [HTS.out]; unfold telSt; rw [hto]; rfl)
    clear ht hseth hth
    have hlk := getM_drew HP.out.idx a hal (x := (v : Int)) (k := true) (by rw [HG2.out]; rfl) (by rw [HG2.out]; rfl)
    go_enter Tryz.func115, Tryz.ntmps115
    go_wp2
    go_quiet (fail)
    go_wp2
    go_ret
    exact ret_err HN.out (by decide) (HH.out.below (bdrew _ _)) ((bdrew _ _).mono hw)
  rw [hto] at hch
  have hlk := getM_drew HP.out.idx a hal (x := (v : Int)) (k := true) (by rw [HG2.out]; rfl) (by rw [HG2.out]; rfl)
  obtain ⟨gt, eT, hbt, hlt2, hct, hft, ⟨cst, htt⟩, _⟩ := HP.out.tasks.at_ (i := v * 6 + 1) (u := .int .i64 t.nodes) (by rw [flat_get taskC_len _ _ _ _ ht (by decide)]; rfl)
  subst eT
  have HTH := Lib.hid hth; have HTT := Lib.hid htt; have HSH := Lib.hid hseth; have HT := Lib.hid ht
  have hgg : gh ≠ gt := ty_ne hth htt (by decide)
  have hgd : gh ≠ D := ty_ne hth HD.out (by decide)
  have hgd2 : gt ≠ D := ty_ne htt HD.out (by decide)
  clear hth htt hseth ht
  go_enter Tryz.func115, Tryz.ntmps115
  go_wp2
  go_quiet (fail)
  have hg0 : gh ≠ 0 := by omega
  have hg1 : gh ≠ bw := ty_ne HTH.out hcw (by decide)
  have c0 : ((w.drewN nq).setCell ⟨gh, v * 9 + 4, none⟩ (.bool true)).cell? ⟨0, 16, none⟩ = some (.string (sb (kwB 4))) := (World.cell?_setCell_far _ _ _ _ hg0).trans q0
  have c1 : ((w.drewN nq).setCell ⟨gh, v * 9 + 4, none⟩ (.bool true)).cell? ⟨0, 16 + 1, none⟩ = some (.int .i64 (wordsN 4)) := (World.cell?_setCell_far _ _ _ _ hg0).trans q1
  have c2 : ((w.drewN nq).setCell ⟨gh, v * 9 + 4, none⟩ (.bool true)).cell? ⟨0, 16 + 2, none⟩ = some (.int .i64 (leastN 4)) := (World.cell?_setCell_far _ _ _ _ hg0).trans q2
  have c3 : ((w.drewN nq).setCell ⟨gh, v * 9 + 4, none⟩ (.bool true)).cell? ⟨0, 16 + 3, none⟩ = some (.int .i64 (mostN 4)) := (World.cell?_setCell_far _ _ _ _ hg0).trans q3
  have cw : ((w.drewN nq).setCell ⟨gh, v * 9 + 4, none⟩ (.bool true)).cell? ⟨bw, ow + 1, none⟩ = some (.string (sb b)) := (World.cell?_setCell_far _ _ _ _ hg1).trans hw1
  clear q0 q1 q2 q3 hw1
  have hTT := mark_told t (k := 4) (by decide)
  have HMT := Lib.hid hTT; clear hTT
  by_cases hne : numE 4 b = 0
  · have HV := Lib.hid (show numV 4 b = readV b from by unfold numV; rw [if_pos hne])
    have HN := Lib.hid (show taskSt s 4 a [b] = .ok { s with tasks := s.tasks.set v ((t.mark 4).put 4 (readV b)) } from by rw [HTS.out, telSt_ok hto (by decide) hne])
    have HE := Lib.hid hne; clear hne
    have hq := bdrew w nq
    have hP1 := (HP.out.keep (Kept.below hq) (KeptM.below hq)).tell HT.out (k := 4) (by decide) HMT.out
    have hD1 : ((w.drewN nq).setCell ⟨gh, v * 9 + 4, none⟩ (.bool true)).heap[D]? = _ := (Dag.blk_other hgd.symm).trans HD.out
    have hB1 : Below base w ((w.drewN nq).setCell ⟨gh, v * 9 + 4, none⟩ (.bool true)) := (hq.mono hw).setCell hbh (.bool true)
    have HP1 := Lib.hid hP1; have HD1 := Lib.hid hD1; have HB1 := Lib.hid hB1
    clear hq hP1 hD1 hB1
    go_wp2
    generalize hw1 : (w.drewN nq).setCell ⟨gh, v * 9 + 4, none⟩ (.bool true) = w1 at c0 c1 c2 c3 cw HP1 HD1 HB1 ⊢
    go_region_held3 (fun (W : World) => W.cell? ⟨0, 16, none⟩ = some (.string (sb (kwB 4))) ∧ W.cell? ⟨0, 16 + 1, none⟩ = some (.int .i64 (wordsN 4)) ∧ W.cell? ⟨0, 16 + 2, none⟩ = some (.int .i64 (leastN 4)) ∧ W.cell? ⟨0, 16 + 3, none⟩ = some (.int .i64 (mostN 4)) ∧ W.cell? ⟨bw, ow + 1, none⟩ = some (.string (sb b))) (first | exact ⟨c0, c1, c2, c3, cw⟩ | exact ⟨d0, d1, d2, d3, dw⟩) (first | (go_at_call 143; refine (number_any 4 b _ hbl).mono ?_; rintro e w2 ⟨rfl, hb2⟩; have d0 := keep_cell hb2 c0; have d1 := keep_cell hb2 c1; have d2 := keep_cell hb2 c2; have d3 := keep_cell hb2 c3; have dw := keep_cell hb2 cw))
    rw [HE.out, HV.out]
    have hb2 := blw (drew_below w1) hb2
    have hP2 := HP1.out.keep (Kept.below hb2) (KeptM.below hb2)
    have hD1 := HD1.out
    have hD2 := (hb2.block D (Dag.blk_lt hD1)).trans hD1
    obtain ⟨g3, e3, hb3, hl3, hc3, hf3, _, _⟩ := hP2.tasks.at_ (i := v * 6 + 1) (u := .int .i64 (t.mark 4).nodes) (by rw [flat_get taskC_len _ _ _ _ (get_set HT.out _) (by decide)]; rfl)
    injection e3 with e3; injection e3 with e3; subst e3
    have HP2 := Lib.hid hP2; have HD2 := Lib.hid hD2
    have HB2 := Lib.hid (HB1.out.trans (hb2.mono (Nat.le_trans hw HB1.out.size)))
    clear hP2 hD2 hD1
    go_wp2
    all_goals go_ret
    all_goals
      have hP3 := HP2.out.put (t := t.mark 4) (t' := (t.mark 4).put 4 (readV b)) (o := 1) (x := .int .i64 (readV b)) (get_set HT.out _) (by decide) rfl rfl rfl
      rw [set_set] at hP3
      refine ret_ok HN.out ⟨⟨_, _, _, _, _, _, _, ?_, hP3⟩, hl⟩ (HB2.out.setCell hbt _)
      rw [Dag.blk_other hgd2.symm, HD2.out]
      simp [draftC]
  · have hne2 : (numE 4 b != 0) = true := by simp [hne]
    have HN := Lib.hid (show taskSt s 4 a [b] = .error (numE 4 b) from by rw [HTS.out, telSt_err hto (by decide) hne])
    have HE := Lib.hid hne; clear hne
    have hq := bdrew w nq
    have hP1 := (HP.out.keep (Kept.below hq) (KeptM.below hq)).tell HT.out (k := 4) (by decide) HMT.out
    have hD1 : ((w.drewN nq).setCell ⟨gh, v * 9 + 4, none⟩ (.bool true)).heap[D]? = _ := (Dag.blk_other hgd.symm).trans HD.out
    have hB1 : Below base w ((w.drewN nq).setCell ⟨gh, v * 9 + 4, none⟩ (.bool true)) := (hq.mono hw).setCell hbh (.bool true)
    have HP1 := Lib.hid hP1; have HD1 := Lib.hid hD1; have HB1 := Lib.hid hB1
    clear hq hP1 hD1 hB1
    go_wp2
    generalize hw1 : (w.drewN nq).setCell ⟨gh, v * 9 + 4, none⟩ (.bool true) = w1 at c0 c1 c2 c3 cw HP1 HD1 HB1 ⊢
    go_region_held3 (fun (W : World) => W.cell? ⟨0, 16, none⟩ = some (.string (sb (kwB 4))) ∧ W.cell? ⟨0, 16 + 1, none⟩ = some (.int .i64 (wordsN 4)) ∧ W.cell? ⟨0, 16 + 2, none⟩ = some (.int .i64 (leastN 4)) ∧ W.cell? ⟨0, 16 + 3, none⟩ = some (.int .i64 (mostN 4)) ∧ W.cell? ⟨bw, ow + 1, none⟩ = some (.string (sb b))) (first | exact ⟨c0, c1, c2, c3, cw⟩ | exact ⟨d0, d1, d2, d3, dw⟩) (first | (go_at_call 143; refine (number_any 4 b _ hbl).mono ?_; rintro e w2 ⟨rfl, hb2⟩; have d0 := keep_cell hb2 c0; have d1 := keep_cell hb2 c1; have d2 := keep_cell hb2 c2; have d3 := keep_cell hb2 c3; have dw := keep_cell hb2 cw))
    have hb2 := blw (drew_below w1) hb2
    have hP2 := HP1.out.keep (Kept.below hb2) (KeptM.below hb2)
    have hD1 := HD1.out
    have HD2 := Lib.hid ((hb2.block D (Dag.blk_lt hD1)).trans hD1)
    have HP2 := Lib.hid hP2
    have HB2 := Lib.hid (HB1.out.trans (hb2.mono (Nat.le_trans hw HB1.out.size)))
    clear hP2 hD1
    go_wp2
    go_ret
    refine ret_err (s' := { s with tasks := s.tasks.set v (t.mark 4) }) HN.out HE.out ⟨⟨_, _, _, _, _, _, _, ?_, HP2.out⟩, hl⟩ HB2.out
    rw [HD2.out]
    simp [draftC]

set_option maxHeartbeats 3200000 in
theorem setTask5_any (s : St) (a b : List UInt8) (w : World) (base D : Nat) (h : Drf w base D s) (A : Option Addr) (c : Nat) (hW : Words w A c [a, b]) (hty : TypS w A) (ha : a.length ≤ maxLen) (hb : b.length ≤ maxLen) (hw : base ≤ w.heap.size) (hn : s.tasks.length ≤ 100000) (hS : TabS w) (hgb : 0 < base) :
    Calls Tryz.prog 115 #[.pointer (some ⟨D, 0, none⟩), .int .i64 5, .slice A 2 c] w (RetD w base D (taskSt s 5 a [b])) := by
  obtain ⟨TA, tc, HA, hc, LA, lc, M, hD, hP⟩ := h.ex
  have HH := Lib.hid h
  have HD := Lib.hid hD; have HP := Lib.hid hP
  have hl := h.low
  have hlt := Dag.blk_lt hD
  obtain ⟨k3, f3⟩ := Drf.cells hD 3
  obtain ⟨k13, f13⟩ := Drf.cells hD 13
  obtain ⟨k14, f14⟩ := Drf.cells hD 14
  simp only [draftC, List.getElem?_toArray, List.getElem?_cons_succ, List.getElem?_cons_zero] at k3 k13 k14
  obtain ⟨bw, ow, x, rfl, hx, hw0⟩ := hW.at_ (k := 0) (by simp)
  rw [List.getElem?_cons_zero] at hx
  injection hx with hx
  subst hx
  rw [Nat.add_zero] at hw0
  obtain ⟨bw2, ow2, y, e2, hy, hw1⟩ := hW.at_ (k := 1) (by simp)
  injection e2 with e2; injection e2 with e2 e3
  subst e2 e3
  rw [List.getElem?_cons_succ, List.getElem?_cons_zero] at hy
  injection hy with hy
  subst hy
  obtain ⟨csw, hcw⟩ := hty _ rfl
  have hbl := hb
  obtain ⟨q0, q1, q2, q3⟩ := hS.s5
  have hgl := hS.lt
  have hal := ha
  clear h hD hP hW
  by_cases hm : a ∈ namesP s.tasks
  case neg =>
    have HN := Lib.hid (show taskSt s 5 a [b] = .error 52 from by unfold taskSt; rw [if_neg hm])
    have HG := Lib.hid (nameI_none hm)
    clear hm
    have hlk := getM_drew HP.out.idx a hal (x := 0) (k := false) (by rw [HG.out]; rfl) (by rw [HG.out]; rfl)
    go_enter Tryz.func115, Tryz.ntmps115
    go_wp2
    go_quiet (fail)
    go_wp2
    go_ret
    exact ret_err HN.out (by decide) (HH.out.below (bdrew _ _)) ((bdrew _ _).mono hw)
  have HG := Lib.hid (nameI_some hm)
  have hvl := idx_lt hm
  obtain ⟨v, hv⟩ : ∃ v, (namesP s.tasks).idxOf a = v := ⟨_, rfl⟩
  rw [hv] at hvl
  have HG2 := Lib.hid (show nameI s.tasks a = some (v : Int) from by rw [HG.out, hv])
  obtain ⟨t, ht⟩ : ∃ t, s.tasks[v]? = some t := ⟨_, List.getElem?_eq_getElem hvl⟩
  have HTS := Lib.hid (show taskSt s 5 a [b] = telSt s 5 v t [b] from by unfold taskSt; rw [if_pos hm, hv, ht])
  obtain ⟨gh, eH, hbh, hlh, hch, hfh, ⟨csh, hth⟩, hseth⟩ := HP.out.told.at_ (i := v * 9 + 5) (u := .bool (t.told 5)) (by rw [flat_get toldC_len _ _ _ _ ht (by decide)]; rfl)
  subst eH
  clear HG hm hv
  cases hto : t.told 5
  case true =>
    rw [hto] at hch
    have HN := Lib.hid (show taskSt s 5 a [b] = .error 51 from by rw [HTS.out]; unfold telSt; rw [hto]; rfl)
    clear ht hseth hth
    have hlk := getM_drew HP.out.idx a hal (x := (v : Int)) (k := true) (by rw [HG2.out]; rfl) (by rw [HG2.out]; rfl)
    go_enter Tryz.func115, Tryz.ntmps115
    go_wp2
    go_quiet (fail)
    go_wp2
    go_ret
    exact ret_err HN.out (by decide) (HH.out.below (bdrew _ _)) ((bdrew _ _).mono hw)
  rw [hto] at hch
  have hlk := getM_drew HP.out.idx a hal (x := (v : Int)) (k := true) (by rw [HG2.out]; rfl) (by rw [HG2.out]; rfl)
  obtain ⟨gt, eT, hbt, hlt2, hct, hft, ⟨cst, htt⟩, _⟩ := HP.out.tasks.at_ (i := v * 6 + 2) (u := .int .i64 t.wall) (by rw [flat_get taskC_len _ _ _ _ ht (by decide)]; rfl)
  subst eT
  have HTH := Lib.hid hth; have HTT := Lib.hid htt; have HSH := Lib.hid hseth; have HT := Lib.hid ht
  have hgg : gh ≠ gt := ty_ne hth htt (by decide)
  have hgd : gh ≠ D := ty_ne hth HD.out (by decide)
  have hgd2 : gt ≠ D := ty_ne htt HD.out (by decide)
  clear hth htt hseth ht
  go_enter Tryz.func115, Tryz.ntmps115
  go_wp2
  go_quiet (fail)
  have hg0 : gh ≠ 0 := by omega
  have hg1 : gh ≠ bw := ty_ne HTH.out hcw (by decide)
  have c0 : ((w.drewN nq).setCell ⟨gh, v * 9 + 5, none⟩ (.bool true)).cell? ⟨0, 20, none⟩ = some (.string (sb (kwB 5))) := (World.cell?_setCell_far _ _ _ _ hg0).trans q0
  have c1 : ((w.drewN nq).setCell ⟨gh, v * 9 + 5, none⟩ (.bool true)).cell? ⟨0, 20 + 1, none⟩ = some (.int .i64 (wordsN 5)) := (World.cell?_setCell_far _ _ _ _ hg0).trans q1
  have c2 : ((w.drewN nq).setCell ⟨gh, v * 9 + 5, none⟩ (.bool true)).cell? ⟨0, 20 + 2, none⟩ = some (.int .i64 (leastN 5)) := (World.cell?_setCell_far _ _ _ _ hg0).trans q2
  have c3 : ((w.drewN nq).setCell ⟨gh, v * 9 + 5, none⟩ (.bool true)).cell? ⟨0, 20 + 3, none⟩ = some (.int .i64 (mostN 5)) := (World.cell?_setCell_far _ _ _ _ hg0).trans q3
  have cw : ((w.drewN nq).setCell ⟨gh, v * 9 + 5, none⟩ (.bool true)).cell? ⟨bw, ow + 1, none⟩ = some (.string (sb b)) := (World.cell?_setCell_far _ _ _ _ hg1).trans hw1
  clear q0 q1 q2 q3 hw1
  have hTT := mark_told t (k := 5) (by decide)
  have HMT := Lib.hid hTT; clear hTT
  by_cases hne : numE 5 b = 0
  · have HV := Lib.hid (show numV 5 b = readV b from by unfold numV; rw [if_pos hne])
    have HN := Lib.hid (show taskSt s 5 a [b] = .ok { s with tasks := s.tasks.set v ((t.mark 5).put 5 (readV b)) } from by rw [HTS.out, telSt_ok hto (by decide) hne])
    have HE := Lib.hid hne; clear hne
    have hq := bdrew w nq
    have hP1 := (HP.out.keep (Kept.below hq) (KeptM.below hq)).tell HT.out (k := 5) (by decide) HMT.out
    have hD1 : ((w.drewN nq).setCell ⟨gh, v * 9 + 5, none⟩ (.bool true)).heap[D]? = _ := (Dag.blk_other hgd.symm).trans HD.out
    have hB1 : Below base w ((w.drewN nq).setCell ⟨gh, v * 9 + 5, none⟩ (.bool true)) := (hq.mono hw).setCell hbh (.bool true)
    have HP1 := Lib.hid hP1; have HD1 := Lib.hid hD1; have HB1 := Lib.hid hB1
    clear hq hP1 hD1 hB1
    go_wp2
    generalize hw1 : (w.drewN nq).setCell ⟨gh, v * 9 + 5, none⟩ (.bool true) = w1 at c0 c1 c2 c3 cw HP1 HD1 HB1 ⊢
    go_region_held3 (fun (W : World) => W.cell? ⟨0, 20, none⟩ = some (.string (sb (kwB 5))) ∧ W.cell? ⟨0, 20 + 1, none⟩ = some (.int .i64 (wordsN 5)) ∧ W.cell? ⟨0, 20 + 2, none⟩ = some (.int .i64 (leastN 5)) ∧ W.cell? ⟨0, 20 + 3, none⟩ = some (.int .i64 (mostN 5)) ∧ W.cell? ⟨bw, ow + 1, none⟩ = some (.string (sb b))) (first | exact ⟨c0, c1, c2, c3, cw⟩ | exact ⟨d0, d1, d2, d3, dw⟩) (first | (go_at_call 143; refine (number_any 5 b _ hbl).mono ?_; rintro e w2 ⟨rfl, hb2⟩; have d0 := keep_cell hb2 c0; have d1 := keep_cell hb2 c1; have d2 := keep_cell hb2 c2; have d3 := keep_cell hb2 c3; have dw := keep_cell hb2 cw))
    rw [HE.out, HV.out]
    have hb2 := blw (drew_below w1) hb2
    have hP2 := HP1.out.keep (Kept.below hb2) (KeptM.below hb2)
    have hD1 := HD1.out
    have hD2 := (hb2.block D (Dag.blk_lt hD1)).trans hD1
    obtain ⟨g3, e3, hb3, hl3, hc3, hf3, _, _⟩ := hP2.tasks.at_ (i := v * 6 + 2) (u := .int .i64 (t.mark 5).wall) (by rw [flat_get taskC_len _ _ _ _ (get_set HT.out _) (by decide)]; rfl)
    injection e3 with e3; injection e3 with e3; subst e3
    have HP2 := Lib.hid hP2; have HD2 := Lib.hid hD2
    have HB2 := Lib.hid (HB1.out.trans (hb2.mono (Nat.le_trans hw HB1.out.size)))
    clear hP2 hD2 hD1
    go_wp2
    all_goals go_ret
    all_goals
      have hP3 := HP2.out.put (t := t.mark 5) (t' := (t.mark 5).put 5 (readV b)) (o := 2) (x := .int .i64 (readV b)) (get_set HT.out _) (by decide) rfl rfl rfl
      rw [set_set] at hP3
      refine ret_ok HN.out ⟨⟨_, _, _, _, _, _, _, ?_, hP3⟩, hl⟩ (HB2.out.setCell hbt _)
      rw [Dag.blk_other hgd2.symm, HD2.out]
      simp [draftC]
  · have hne2 : (numE 5 b != 0) = true := by simp [hne]
    have HN := Lib.hid (show taskSt s 5 a [b] = .error (numE 5 b) from by rw [HTS.out, telSt_err hto (by decide) hne])
    have HE := Lib.hid hne; clear hne
    have hq := bdrew w nq
    have hP1 := (HP.out.keep (Kept.below hq) (KeptM.below hq)).tell HT.out (k := 5) (by decide) HMT.out
    have hD1 : ((w.drewN nq).setCell ⟨gh, v * 9 + 5, none⟩ (.bool true)).heap[D]? = _ := (Dag.blk_other hgd.symm).trans HD.out
    have hB1 : Below base w ((w.drewN nq).setCell ⟨gh, v * 9 + 5, none⟩ (.bool true)) := (hq.mono hw).setCell hbh (.bool true)
    have HP1 := Lib.hid hP1; have HD1 := Lib.hid hD1; have HB1 := Lib.hid hB1
    clear hq hP1 hD1 hB1
    go_wp2
    generalize hw1 : (w.drewN nq).setCell ⟨gh, v * 9 + 5, none⟩ (.bool true) = w1 at c0 c1 c2 c3 cw HP1 HD1 HB1 ⊢
    go_region_held3 (fun (W : World) => W.cell? ⟨0, 20, none⟩ = some (.string (sb (kwB 5))) ∧ W.cell? ⟨0, 20 + 1, none⟩ = some (.int .i64 (wordsN 5)) ∧ W.cell? ⟨0, 20 + 2, none⟩ = some (.int .i64 (leastN 5)) ∧ W.cell? ⟨0, 20 + 3, none⟩ = some (.int .i64 (mostN 5)) ∧ W.cell? ⟨bw, ow + 1, none⟩ = some (.string (sb b))) (first | exact ⟨c0, c1, c2, c3, cw⟩ | exact ⟨d0, d1, d2, d3, dw⟩) (first | (go_at_call 143; refine (number_any 5 b _ hbl).mono ?_; rintro e w2 ⟨rfl, hb2⟩; have d0 := keep_cell hb2 c0; have d1 := keep_cell hb2 c1; have d2 := keep_cell hb2 c2; have d3 := keep_cell hb2 c3; have dw := keep_cell hb2 cw))
    have hb2 := blw (drew_below w1) hb2
    have hP2 := HP1.out.keep (Kept.below hb2) (KeptM.below hb2)
    have hD1 := HD1.out
    have HD2 := Lib.hid ((hb2.block D (Dag.blk_lt hD1)).trans hD1)
    have HP2 := Lib.hid hP2
    have HB2 := Lib.hid (HB1.out.trans (hb2.mono (Nat.le_trans hw HB1.out.size)))
    clear hP2 hD1
    go_wp2
    go_ret
    refine ret_err (s' := { s with tasks := s.tasks.set v (t.mark 5) }) HN.out HE.out ⟨⟨_, _, _, _, _, _, _, ?_, HP2.out⟩, hl⟩ HB2.out
    rw [HD2.out]
    simp [draftC]

set_option maxHeartbeats 3200000 in
theorem setTask6_any (s : St) (a b : List UInt8) (w : World) (base D : Nat) (h : Drf w base D s) (A : Option Addr) (c : Nat) (hW : Words w A c [a, b]) (hty : TypS w A) (ha : a.length ≤ maxLen) (hb : b.length ≤ maxLen) (hw : base ≤ w.heap.size) (hn : s.tasks.length ≤ 100000) (hS : TabS w) (hgb : 0 < base) :
    Calls Tryz.prog 115 #[.pointer (some ⟨D, 0, none⟩), .int .i64 6, .slice A 2 c] w (RetD w base D (taskSt s 6 a [b])) := by
  obtain ⟨TA, tc, HA, hc, LA, lc, M, hD, hP⟩ := h.ex
  have HH := Lib.hid h
  have HD := Lib.hid hD; have HP := Lib.hid hP
  have hl := h.low
  have hlt := Dag.blk_lt hD
  obtain ⟨k3, f3⟩ := Drf.cells hD 3
  obtain ⟨k13, f13⟩ := Drf.cells hD 13
  obtain ⟨k14, f14⟩ := Drf.cells hD 14
  simp only [draftC, List.getElem?_toArray, List.getElem?_cons_succ, List.getElem?_cons_zero] at k3 k13 k14
  obtain ⟨bw, ow, x, rfl, hx, hw0⟩ := hW.at_ (k := 0) (by simp)
  rw [List.getElem?_cons_zero] at hx
  injection hx with hx
  subst hx
  rw [Nat.add_zero] at hw0
  obtain ⟨bw2, ow2, y, e2, hy, hw1⟩ := hW.at_ (k := 1) (by simp)
  injection e2 with e2; injection e2 with e2 e3
  subst e2 e3
  rw [List.getElem?_cons_succ, List.getElem?_cons_zero] at hy
  injection hy with hy
  subst hy
  obtain ⟨csw, hcw⟩ := hty _ rfl
  have hbl := hb
  obtain ⟨q0, q1, q2, q3⟩ := hS.s6
  have hgl := hS.lt
  have hal := ha
  clear h hD hP hW
  by_cases hm : a ∈ namesP s.tasks
  case neg =>
    have HN := Lib.hid (show taskSt s 6 a [b] = .error 52 from by unfold taskSt; rw [if_neg hm])
    have HG := Lib.hid (nameI_none hm)
    clear hm
    have hlk := getM_drew HP.out.idx a hal (x := 0) (k := false) (by rw [HG.out]; rfl) (by rw [HG.out]; rfl)
    go_enter Tryz.func115, Tryz.ntmps115
    go_wp2
    go_quiet (fail)
    go_wp2
    go_ret
    exact ret_err HN.out (by decide) (HH.out.below (bdrew _ _)) ((bdrew _ _).mono hw)
  have HG := Lib.hid (nameI_some hm)
  have hvl := idx_lt hm
  obtain ⟨v, hv⟩ : ∃ v, (namesP s.tasks).idxOf a = v := ⟨_, rfl⟩
  rw [hv] at hvl
  have HG2 := Lib.hid (show nameI s.tasks a = some (v : Int) from by rw [HG.out, hv])
  obtain ⟨t, ht⟩ : ∃ t, s.tasks[v]? = some t := ⟨_, List.getElem?_eq_getElem hvl⟩
  have HTS := Lib.hid (show taskSt s 6 a [b] = telSt s 6 v t [b] from by unfold taskSt; rw [if_pos hm, hv, ht])
  obtain ⟨gh, eH, hbh, hlh, hch, hfh, ⟨csh, hth⟩, hseth⟩ := HP.out.told.at_ (i := v * 9 + 6) (u := .bool (t.told 6)) (by rw [flat_get toldC_len _ _ _ _ ht (by decide)]; rfl)
  subst eH
  clear HG hm hv
  cases hto : t.told 6
  case true =>
    rw [hto] at hch
    have HN := Lib.hid (show taskSt s 6 a [b] = .error 51 from by rw [HTS.out]; unfold telSt; rw [hto]; rfl)
    clear ht hseth hth
    have hlk := getM_drew HP.out.idx a hal (x := (v : Int)) (k := true) (by rw [HG2.out]; rfl) (by rw [HG2.out]; rfl)
    go_enter Tryz.func115, Tryz.ntmps115
    go_wp2
    go_quiet (fail)
    go_wp2
    go_ret
    exact ret_err HN.out (by decide) (HH.out.below (bdrew _ _)) ((bdrew _ _).mono hw)
  rw [hto] at hch
  have hlk := getM_drew HP.out.idx a hal (x := (v : Int)) (k := true) (by rw [HG2.out]; rfl) (by rw [HG2.out]; rfl)
  obtain ⟨gt, eT, hbt, hlt2, hct, hft, ⟨cst, htt⟩, _⟩ := HP.out.tasks.at_ (i := v * 6 + 3) (u := .int .i64 t.retry) (by rw [flat_get taskC_len _ _ _ _ ht (by decide)]; rfl)
  subst eT
  have HTH := Lib.hid hth; have HTT := Lib.hid htt; have HSH := Lib.hid hseth; have HT := Lib.hid ht
  have hgg : gh ≠ gt := ty_ne hth htt (by decide)
  have hgd : gh ≠ D := ty_ne hth HD.out (by decide)
  have hgd2 : gt ≠ D := ty_ne htt HD.out (by decide)
  clear hth htt hseth ht
  go_enter Tryz.func115, Tryz.ntmps115
  go_wp2
  go_quiet (fail)
  have hg0 : gh ≠ 0 := by omega
  have hg1 : gh ≠ bw := ty_ne HTH.out hcw (by decide)
  have c0 : ((w.drewN nq).setCell ⟨gh, v * 9 + 6, none⟩ (.bool true)).cell? ⟨0, 24, none⟩ = some (.string (sb (kwB 6))) := (World.cell?_setCell_far _ _ _ _ hg0).trans q0
  have c1 : ((w.drewN nq).setCell ⟨gh, v * 9 + 6, none⟩ (.bool true)).cell? ⟨0, 24 + 1, none⟩ = some (.int .i64 (wordsN 6)) := (World.cell?_setCell_far _ _ _ _ hg0).trans q1
  have c2 : ((w.drewN nq).setCell ⟨gh, v * 9 + 6, none⟩ (.bool true)).cell? ⟨0, 24 + 2, none⟩ = some (.int .i64 (leastN 6)) := (World.cell?_setCell_far _ _ _ _ hg0).trans q2
  have c3 : ((w.drewN nq).setCell ⟨gh, v * 9 + 6, none⟩ (.bool true)).cell? ⟨0, 24 + 3, none⟩ = some (.int .i64 (mostN 6)) := (World.cell?_setCell_far _ _ _ _ hg0).trans q3
  have cw : ((w.drewN nq).setCell ⟨gh, v * 9 + 6, none⟩ (.bool true)).cell? ⟨bw, ow + 1, none⟩ = some (.string (sb b)) := (World.cell?_setCell_far _ _ _ _ hg1).trans hw1
  clear q0 q1 q2 q3 hw1
  have hTT := mark_told t (k := 6) (by decide)
  have HMT := Lib.hid hTT; clear hTT
  by_cases hne : numE 6 b = 0
  · have HV := Lib.hid (show numV 6 b = readV b from by unfold numV; rw [if_pos hne])
    have HN := Lib.hid (show taskSt s 6 a [b] = .ok { s with tasks := s.tasks.set v ((t.mark 6).put 6 (readV b)) } from by rw [HTS.out, telSt_ok hto (by decide) hne])
    have HE := Lib.hid hne; clear hne
    have hq := bdrew w nq
    have hP1 := (HP.out.keep (Kept.below hq) (KeptM.below hq)).tell HT.out (k := 6) (by decide) HMT.out
    have hD1 : ((w.drewN nq).setCell ⟨gh, v * 9 + 6, none⟩ (.bool true)).heap[D]? = _ := (Dag.blk_other hgd.symm).trans HD.out
    have hB1 : Below base w ((w.drewN nq).setCell ⟨gh, v * 9 + 6, none⟩ (.bool true)) := (hq.mono hw).setCell hbh (.bool true)
    have HP1 := Lib.hid hP1; have HD1 := Lib.hid hD1; have HB1 := Lib.hid hB1
    clear hq hP1 hD1 hB1
    go_wp2
    generalize hw1 : (w.drewN nq).setCell ⟨gh, v * 9 + 6, none⟩ (.bool true) = w1 at c0 c1 c2 c3 cw HP1 HD1 HB1 ⊢
    go_region_held3 (fun (W : World) => W.cell? ⟨0, 24, none⟩ = some (.string (sb (kwB 6))) ∧ W.cell? ⟨0, 24 + 1, none⟩ = some (.int .i64 (wordsN 6)) ∧ W.cell? ⟨0, 24 + 2, none⟩ = some (.int .i64 (leastN 6)) ∧ W.cell? ⟨0, 24 + 3, none⟩ = some (.int .i64 (mostN 6)) ∧ W.cell? ⟨bw, ow + 1, none⟩ = some (.string (sb b))) (first | exact ⟨c0, c1, c2, c3, cw⟩ | exact ⟨d0, d1, d2, d3, dw⟩) (first | (go_at_call 143; refine (number_any 6 b _ hbl).mono ?_; rintro e w2 ⟨rfl, hb2⟩; have d0 := keep_cell hb2 c0; have d1 := keep_cell hb2 c1; have d2 := keep_cell hb2 c2; have d3 := keep_cell hb2 c3; have dw := keep_cell hb2 cw))
    rw [HE.out, HV.out]
    have hb2 := blw (drew_below w1) hb2
    have hP2 := HP1.out.keep (Kept.below hb2) (KeptM.below hb2)
    have hD1 := HD1.out
    have hD2 := (hb2.block D (Dag.blk_lt hD1)).trans hD1
    obtain ⟨g3, e3, hb3, hl3, hc3, hf3, _, _⟩ := hP2.tasks.at_ (i := v * 6 + 3) (u := .int .i64 (t.mark 6).retry) (by rw [flat_get taskC_len _ _ _ _ (get_set HT.out _) (by decide)]; rfl)
    injection e3 with e3; injection e3 with e3; subst e3
    have HP2 := Lib.hid hP2; have HD2 := Lib.hid hD2
    have HB2 := Lib.hid (HB1.out.trans (hb2.mono (Nat.le_trans hw HB1.out.size)))
    clear hP2 hD2 hD1
    go_wp2
    all_goals go_ret
    all_goals
      have hP3 := HP2.out.put (t := t.mark 6) (t' := (t.mark 6).put 6 (readV b)) (o := 3) (x := .int .i64 (readV b)) (get_set HT.out _) (by decide) rfl rfl rfl
      rw [set_set] at hP3
      refine ret_ok HN.out ⟨⟨_, _, _, _, _, _, _, ?_, hP3⟩, hl⟩ (HB2.out.setCell hbt _)
      rw [Dag.blk_other hgd2.symm, HD2.out]
      simp [draftC]
  · have hne2 : (numE 6 b != 0) = true := by simp [hne]
    have HN := Lib.hid (show taskSt s 6 a [b] = .error (numE 6 b) from by rw [HTS.out, telSt_err hto (by decide) hne])
    have HE := Lib.hid hne; clear hne
    have hq := bdrew w nq
    have hP1 := (HP.out.keep (Kept.below hq) (KeptM.below hq)).tell HT.out (k := 6) (by decide) HMT.out
    have hD1 : ((w.drewN nq).setCell ⟨gh, v * 9 + 6, none⟩ (.bool true)).heap[D]? = _ := (Dag.blk_other hgd.symm).trans HD.out
    have hB1 : Below base w ((w.drewN nq).setCell ⟨gh, v * 9 + 6, none⟩ (.bool true)) := (hq.mono hw).setCell hbh (.bool true)
    have HP1 := Lib.hid hP1; have HD1 := Lib.hid hD1; have HB1 := Lib.hid hB1
    clear hq hP1 hD1 hB1
    go_wp2
    generalize hw1 : (w.drewN nq).setCell ⟨gh, v * 9 + 6, none⟩ (.bool true) = w1 at c0 c1 c2 c3 cw HP1 HD1 HB1 ⊢
    go_region_held3 (fun (W : World) => W.cell? ⟨0, 24, none⟩ = some (.string (sb (kwB 6))) ∧ W.cell? ⟨0, 24 + 1, none⟩ = some (.int .i64 (wordsN 6)) ∧ W.cell? ⟨0, 24 + 2, none⟩ = some (.int .i64 (leastN 6)) ∧ W.cell? ⟨0, 24 + 3, none⟩ = some (.int .i64 (mostN 6)) ∧ W.cell? ⟨bw, ow + 1, none⟩ = some (.string (sb b))) (first | exact ⟨c0, c1, c2, c3, cw⟩ | exact ⟨d0, d1, d2, d3, dw⟩) (first | (go_at_call 143; refine (number_any 6 b _ hbl).mono ?_; rintro e w2 ⟨rfl, hb2⟩; have d0 := keep_cell hb2 c0; have d1 := keep_cell hb2 c1; have d2 := keep_cell hb2 c2; have d3 := keep_cell hb2 c3; have dw := keep_cell hb2 cw))
    have hb2 := blw (drew_below w1) hb2
    have hP2 := HP1.out.keep (Kept.below hb2) (KeptM.below hb2)
    have hD1 := HD1.out
    have HD2 := Lib.hid ((hb2.block D (Dag.blk_lt hD1)).trans hD1)
    have HP2 := Lib.hid hP2
    have HB2 := Lib.hid (HB1.out.trans (hb2.mono (Nat.le_trans hw HB1.out.size)))
    clear hP2 hD1
    go_wp2
    go_ret
    refine ret_err (s' := { s with tasks := s.tasks.set v (t.mark 6) }) HN.out HE.out ⟨⟨_, _, _, _, _, _, _, ?_, HP2.out⟩, hl⟩ HB2.out
    rw [HD2.out]
    simp [draftC]


end Go.Proofs.YtkcijibkloamkaaGreatDoor

