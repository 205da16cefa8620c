/- Parse: the workflow that a text describes, or the line and the error. -/
import Derived.Test.YtkcijibkloamkaaGreatDoorFlwInv
import Derived.Test.YtkcijibkloamkaaGreatDoorFlwCheck
namespace Go.Proofs.YtkcijibkloamkaaGreatDoor
open Go.RowKit
open Txt (nameD linesE linesV)
set_option linter.unusedVariables false
set_option maxRecDepth 100000

theorem flow_names {s : St} (h : Inv s) : s.flow.name.length ≤ 9000000000000000000 ∧ ∀ t ∈ s.flow.tasks, t.name.length ≤ 9000000000000000000 := by
  constructor
  · show s.name.length ≤ _
    rcases h.name with e | e
    · rw [e]; simp
    · have := nameD_len e; omega
  · intro t ht
    obtain ⟨k, hk, rfl⟩ := List.getElem_of_mem ht
    have h4 := full_get s.links s.tasks.length s.tasks 0 k
    rw [show s.flow.tasks = fullL s.links s.tasks.length 0 s.tasks from rfl] at hk
    rw [List.getElem?_eq_getElem hk] at h4
    cases htk : s.tasks[k]? with
    | none => rw [htk] at h4; cases h4
    | some t0 =>
      rw [htk] at h4
      injection h4 with h4
      have := nameD_len (h.names t0 (List.mem_of_getElem? htk))
      show (fullL s.links s.tasks.length 0 s.tasks)[k].name.length ≤ _
      rw [h4]
      show t0.name.length ≤ _
      omega
def flowV (f : FlowD) (A : Option Addr) (c : Nat) : Value := .agg #[.string (sb f.name), .int .i64 f.deadline, .int .i64 f.priority, .slice A f.tasks.length c]
def RetParse (w : World) (r : FlowD × Nat × Int) (e : Ending) (w' : World) : Prop := Below w.heap.size w w' ∧ ∃ A c, e = .returned (.tuple #[flowV r.1 A c, .int .i64 (r.2.1 : Int), .int .i64 r.2.2]) ∧ Tasks w' A c r.1.tasks
theorem retP {w w' : World} {r : FlowD × Nat × Int} {f : FlowD} {i : Nat} {x : Int} (hr : r = (f, i, x)) (hb : Below w.heap.size w w') {A : Option Addr} {c : Nat} (ht : Tasks w' A c f.tasks) : RetParse w r (.returned (.tuple #[.agg #[.string (sb f.name), .int .i64 f.deadline, .int .i64 f.priority, .slice A f.tasks.length c], .int .i64 (i : Int), .int .i64 x])) w' := by
  subst hr; exact ⟨hb, A, c, rfl, ht⟩
theorem retP0 {w w' : World} {r : FlowD × Nat × Int} {i : Nat} {x : Int} (hr : r = (noFlow, i, x)) (hb : Below w.heap.size w w') : RetParse w r (.returned (.tuple #[.agg #[.string ⟨#[]⟩, .int .i64 0, .int .i64 0, .slice none 0 0], .int .i64 (i : Int), .int .i64 x])) w' :=
  retP (f := noFlow) hr hb (A := none) (c := 0) (Tasks.empty _)

theorem parse_long {l : List UInt8} (h : linesE l ≠ 0) : parseD l = (noFlow, 0, linesE l) := by unfold parseD; rw [if_pos h]
theorem parse_bad {l : List UInt8} {i : Nat} {x : Int} (h : linesE l = 0) (hf : feed St.start 0 (linesV l) = .inl (i, x)) : parseD l = (noFlow, i, x) := by unfold parseD; rw [if_neg (fun e => e h), hf]
theorem parse_none {l : List UInt8} {s : St} (h : linesE l = 0) (hf : feed St.start 0 (linesV l) = .inr s) (hh : s.had 0 = false) : parseD l = (noFlow, 0, 50) := by unfold parseD; rw [if_neg (fun e => e h), hf]; simp [hh]
theorem parse_chk {l : List UInt8} {s : St} (h : linesE l = 0) (hf : feed St.start 0 (linesV l) = .inr s) (hh : s.had 0 = true) (hc : checkE s.flow ≠ 0) : parseD l = (noFlow, 0, checkE s.flow) := by unfold parseD; rw [if_neg (fun e => e h), hf]; simp [hh, hc]
theorem parse_ok {l : List UInt8} {s : St} (h : linesE l = 0) (hf : feed St.start 0 (linesV l) = .inr s) (hh : s.had 0 = true) (hc : checkE s.flow = 0) : parseD l = (s.flow, 0, 0) := by unfold parseD; rw [if_neg (fun e => e h), hf]; simp [hh, hc]
theorem linesA_mem : ∀ (l cur : List UInt8), ∀ x ∈ Txt.linesA l cur, x.length ≤ cur.length + l.length
  | [], cur, x, h => by
    unfold Txt.linesA at h
    split at h
    · cases h
    · simp at h; subst h; simp
  | b :: t, cur, x, h => by
    unfold Txt.linesA at h
    split at h
    · rcases List.mem_cons.1 h with rfl | h
      · simp
      · have := linesA_mem t [] x h; simp at this ⊢; omega
    · have := linesA_mem t _ x h; simp at this ⊢; omega
theorem info_flow : (Tryz.prog.info? 25).map (·.size) = some 4 := by kernel_rfl
def zero4 : Array Value := #[.string ⟨#[]⟩, .int .i64 0, .int .i64 0, .slice none 0 0]
theorem flow4_one (s : ByteArray) (a b : Int) (A : Option Addr) (n c : Nat) : (#[Value.string s, .int .i64 a, .int .i64 b, .slice A n c] : Array Value).all (·.oneCell') = true := by simp [Value.oneCell']

theorem Kept.put {w w' : World} {b : Nat} {cs cur : Array Value} (hp : PutA w w' b cs 25) (hb : w.heap[b]? = some (Obj.cells cur 25 (0, 0))) : Kept [48, 3] w w' := fun ty hty k cs' hk => hp.other k (ty_ne hk hb (by
  rintro rfl
  revert hty
  decide))

set_option maxHeartbeats 6400000 in
theorem parse_any (N : Nat) (Tb : World → Prop) (hN : NewOK N Tb) (hTb : ∀ w w', Tb w → Below w.heap.size w w' → Tb w') (l : List UInt8) (w : World) (hl : l.length ≤ maxLen) (hS : TabS w) (hT : Txt.Tabs w) (hB : Tb w)
    (hlen : ∀ s, linesE l = 0 → feed St.start 0 (linesV l) = .inr s → s.tasks.length ≤ 4096 → s.tasks.length ≤ N) :
    Calls Tryz.prog 9 #[.string (sb l)] w (RetParse w (parseD l)) := by
  have HS := Lib.hid hS; have HT := Lib.hid hT; have HB := Lib.hid hB; have HLN := Lib.hid hlen
  have HN := Lib.hid hN; have HTB := Lib.hid hTb
  clear hS hT hB hlen hN hTb
  go_enter Tryz.func9, Tryz.ntmps9
  go_wp2_with fail
  refine (Txt.lines_any (sb l) _ (sb_sz hl) (HT.out.below (al _ _))).mono ?_
  rintro e w1 ⟨⟨A1, c1, zs, rfl, hS1, hz⟩, hb1⟩
  rw [show Txt.lst (sb l) = l from sb_list l] at hz ⊢
  have HL1 := Lib.hid (strsL_of hS1 hz)
  have HZL := Lib.hid (show (linesV l).length = zs.length from by rw [← hz, List.length_map])
  have HR1 := Lib.hid (keep_obj hb1 (heap_alloc_new w (.cells zero4 25)))
  have HB1 := Lib.hid (blw (al w (.cells zero4 25)) hb1)
  have hlr1 := Dag.blk_lt HR1.out
  clear hS1 hz hb1
  obtain ⟨n, hn⟩ : ∃ n, zs.length = n := ⟨_, rfl⟩
  rw [hn] at HZL ⊢
  clear hn
  by_cases he : linesE l = 0
  case neg =>
    have hne : (linesE l != 0) = true := by simp [he]
    have HP := Lib.hid (parse_long he)
    clear he
    go_wp2_with (refine wpList_storeA rfl 25 _ _ rfl w.heap.size zero4 zero4 _ rfl rfl HR1.out rfl info_flow (flow4_one _ _ _ _ _ _) ?_; intro w3 hp3; have HP3 := Lib.hid hp3; clear hp3)
    refine bodyPost_ret (results_cell3 rfl _ rfl HP3.out.blk _ Tryz.underlying25 rfl info_flow) rfl ?_
    exact retP0 HP.out (HP3.out.below HB1.out (Nat.le_refl _))
  have heq : (linesE l != 0) = false := by simp [he]
  have HE := Lib.hid he
  have hl6 : l.length ≤ 60000 := by
    unfold linesE at he
    split at he
    · cases he
    · omega
  have hn6 : n ≤ 60001 := by
    have := HZL.out
    unfold linesV at this
    rw [if_neg (by omega)] at this
    split at this
    · have h2 := Txt.linesA_len l []; omega
    · simp at this; omega
  have HLM : Hid (∀ x ∈ linesV l, x.length ≤ 60000) := Lib.hid fun x hx => by
    unfold linesV at hx
    rw [if_neg (by omega)] at hx
    split at hx
    · have := linesA_mem l [] x hx; simp at this; omega
    · cases hx
  rw [he]
  clear he
  go_wp2_with fail
  refine (read_any (linesV l) n HZL.out (by omega) _ A1 c1 HL1.out HLM.out (HS.out.below HB1.out) (HT.out.below HB1.out)).mono ?_
  rintro e w2 ⟨hb2, h2⟩
  have HB2 := Lib.hid (blw HB1.out hb2)
  have HR2 := Lib.hid (keep_obj hb2 HR1.out)
  have hlr2 := Dag.blk_lt HR2.out
  clear hb2
  cases hf : feed St.start 0 (linesV l) with
  | inl ix =>
    obtain ⟨i, x⟩ := ix
    rw [hf] at h2
    obtain ⟨s, TA, tc, HA, hc, LA, lc, M, rfl, hx0⟩ := h2
    have HP := Lib.hid (parse_bad HE.out hf)
    have hne : (x != 0) = true := by simp [hx0]
    clear hf hx0
    go_wp2_with (first
      | (refine wpList_storeA rfl 60 _ _ rfl w2.heap.size (draftC s TA tc HA hc LA lc M) zero16 60 rfl rfl (heap_alloc_new w2 _) rfl info_draft (draftC_one _ _ _ _ _ _ _ _) ?_; intro w3 hp3; have HP3 := Lib.hid hp3; have HR3 := Lib.hid ((hp3.other w.heap.size (Nat.ne_of_lt hlr2)).trans (keep_obj (al w2 (.cells zero16 60)) HR2.out)); have hlr3 : w.heap.size < w3.heap.size := Dag.blk_lt HR3.out; clear hp3)
      | (refine wpList_storeA rfl 25 _ _ rfl w.heap.size zero4 zero4 _ rfl rfl HR3.out rfl info_flow (flow4_one _ _ _ _ _ _) ?_; intro w4 hp4; have HP4 := Lib.hid hp4; clear hp4))
    refine bodyPost_ret (results_cell3 rfl _ rfl HP4.out.blk _ Tryz.underlying25 rfl info_flow) rfl ?_
    exact retP0 HP.out (HP4.out.below (HP3.out.below (blw HB2.out (al _ _)) HB2.out.size) (Nat.le_refl _))
  | inr s =>
    rw [hf] at h2
    obtain ⟨TA, tc, HA, hc, LA, lc, M, base, rfl, hPrt, hbase⟩ := h2
    have HPR := Lib.hid hPrt; clear hPrt
    have HF := Lib.hid hf
    obtain ⟨hinv, htl, hll⟩ := Inv.start.feed hf
    have htl2 : s.tasks.length ≤ 60001 := by have := HZL.out; simp [St.start] at htl; omega
    have hll2 : s.links.length ≤ 60001 := by have := HZL.out; simp [St.start] at hll; omega
    have HI := Lib.hid hinv
    clear hf hinv htl hll
    cases hh : s.had 0
    · have HP := Lib.hid (parse_none HE.out HF.out hh)
      go_wp2_with (first
        | (refine wpList_storeA rfl 60 _ _ rfl w2.heap.size (draftC s TA tc HA hc LA lc M) zero16 60 rfl rfl (heap_alloc_new w2 _) rfl info_draft (draftC_one _ _ _ _ _ _ _ _) ?_; intro w3 hp3; have HP3 := Lib.hid hp3; have HR3 := Lib.hid ((hp3.other w.heap.size (Nat.ne_of_lt hlr2)).trans (keep_obj (al w2 (.cells zero16 60)) HR2.out)); have hlr3 : w.heap.size < w3.heap.size := Dag.blk_lt HR3.out; have k4 := (Drf.cells hp3.blk 4).1; have hltd := Dag.blk_lt hp3.blk; simp only [draftC, List.getElem?_toArray, List.getElem?_cons_succ, List.getElem?_cons_zero, hh] at k4; clear hp3)
        | (refine wpList_storeA rfl 25 _ _ rfl w.heap.size zero4 zero4 _ rfl rfl HR3.out rfl info_flow (flow4_one _ _ _ _ _ _) ?_; intro w4 hp4; have HP4 := Lib.hid hp4; clear hp4))
      refine bodyPost_ret (results_cell3 rfl _ rfl HP4.out.blk _ Tryz.underlying25 rfl info_flow) rfl ?_
      exact retP0 HP.out (HP4.out.below (HP3.out.below (blw HB2.out (al _ _)) HB2.out.size) (Nat.le_refl _))
    · go_wp2_with (refine wpList_storeA rfl 60 _ _ rfl w2.heap.size (draftC s TA tc HA hc LA lc M) zero16 60 rfl rfl (heap_alloc_new w2 _) rfl info_draft (draftC_one _ _ _ _ _ _ _ _) ?_; intro w3 hp3; have HP3 := Lib.hid hp3; have HR3 := Lib.hid ((hp3.other w.heap.size (Nat.ne_of_lt hlr2)).trans (keep_obj (al w2 (.cells zero16 60)) HR2.out)); have hlr3 : w.heap.size < w3.heap.size := Dag.blk_lt HR3.out; have k4 := (Drf.cells hp3.blk 4).1; have hltd := Dag.blk_lt hp3.blk; simp only [draftC, List.getElem?_toArray, List.getElem?_cons_succ, List.getElem?_cons_zero, hh] at k4; clear hp3)
      have hb23 : Below w2.heap.size w2 w3 := HP3.out.below (al w2 _) (Nat.le_refl _)
      have hP3 := HPR.out.keep (Kept.below hb23) (KeptM.below hb23)
      have hbD : base ≤ w2.heap.size := Nat.le_trans HPR.out.low (Nat.le_of_lt HPR.out.idx.lt)
      have hb3 := blw HB2.out hb23
      have hbw3 : base ≤ w3.heap.size := Nat.le_trans hbD hb23.size
      have HB3 := Lib.hid hb3
      clear hb23 hb3
      refine (join_any s HI.out.links _ base w2.heap.size ⟨⟨TA, tc, HA, hc, LA, lc, M, HP3.out.blk, hP3⟩, hbD⟩ (by omega) (by omega) hbw3).mono ?_
      rintro e w4 ⟨rfl, hb4, TA4, tc4, HA4, hc4, LA4, lc4, M4, hD4, hT4⟩
      have hb04 : Below w.heap.size w w4 := HB3.out.trans (hb4.mono (by omega))
      have HB4 := Lib.hid hb04
      have HR4 := Lib.hid ((hb4.block w.heap.size (by omega)).trans HR3.out)
      have HD4 := Lib.hid hD4
      have HT4 := Lib.hid hT4
      have hT4 := hT4 w4 (fun ty _ b cs _ => rfl)
      obtain ⟨q0, r0⟩ := Drf.cells hD4 0
      obtain ⟨q1, r1⟩ := Drf.cells hD4 1
      obtain ⟨q2, r2⟩ := Drf.cells hD4 2
      obtain ⟨q3, r3⟩ := Drf.cells hD4 3
      simp only [draftC, List.getElem?_toArray, List.getElem?_cons_succ, List.getElem?_cons_zero] at q0 q1 q2 q3
      have hlt4 := Dag.blk_lt hD4
      obtain ⟨hn1, hn2⟩ := flow_names HI.out
      have hfl : s.flow.tasks.length = s.tasks.length := full_len _ _ _ _
      have HFL := Lib.hid hfl
      have hN2 : s.flow.tasks.length ≤ 4096 → s.flow.tasks.length ≤ N := fun h => by rw [hfl] at h ⊢; exact HLN.out s HE.out HF.out h
      have hchk := check_any N Tb HN.out HTB.out s.flow TA4 tc4 w4 hT4 (HT.out.below hb04) (HS.out.below hb04) (HTB.out _ _ HB.out hb04) hn1 hn2 hN2
      rw [hfl] at hchk
      have HC := Lib.hid (show Calls Tryz.prog 34 #[.agg #[.string (sb s.name), .int .i64 s.deadline, .int .i64 s.priority, .slice TA4 s.tasks.length tc4]] w4 _ from hchk)
      clear hP3 hb4 hb04 hD4 hT4 hn1 hn2 hfl hN2 hchk r0 r1 r2 r3 k4
      go_wp2_with fail
      refine HC.out.mono ?_
      rintro e w5 ⟨rfl, hb5⟩
      have HB5 := Lib.hid (blw HB4.out hb5)
      have HR5 := Lib.hid (keep_obj hb5 HR4.out)
      have HT5 := Lib.hid (show ∀ w2, Kept [48, 3] w5 w2 → Tasks w2 TA4 tc4 s.flow.tasks from fun w2 hk => HT4.out w2 (Kept.trans (Kept.below hb5) hk))
      have p0 := keep_cell hb5 q0
      have p1 := keep_cell hb5 q1
      have p2 := keep_cell hb5 q2
      have p3 := keep_cell hb5 q3
      have hlt5 : w2.heap.size < w5.heap.size := Nat.lt_of_lt_of_le hlt4 hb5.size
      clear hb5 HC q0 q1 q2 q3
      by_cases hc0 : checkE s.flow = 0
      · have hcb : (checkE s.flow != 0) = false := by simp [hc0]
        have HP := Lib.hid (parse_ok HE.out HF.out hh hc0)
        rw [hc0]
        clear hc0
        go_wp2_with (refine wpList_storeA rfl 25 _ _ rfl w.heap.size #[.string (sb s.name), .int .i64 s.deadline, .int .i64 s.priority, .slice TA4 s.tasks.length tc4] zero4 _ rfl rfl HR5.out rfl info_flow (flow4_one _ _ _ _ _ _) ?_; intro w6 hp6; have HP6 := Lib.hid hp6; clear hp6)
        refine bodyPost_ret (results_cell3 rfl _ rfl HP6.out.blk _ Tryz.underlying25 rfl info_flow) rfl ?_
        have hfin := retP (w := w) (w' := w6) (A := TA4) (c := tc4) HP.out (HP6.out.below HB5.out (Nat.le_refl _)) (HT5.out _ (Kept.put HP6.out HR5.out))
        rw [HFL.out] at hfin
        exact hfin
      · have hcb : (checkE s.flow != 0) = true := by simp [hc0]
        have HP := Lib.hid (parse_chk HE.out HF.out hh hc0)
        clear hc0
        go_wp2_with (refine wpList_storeA rfl 25 _ _ rfl w.heap.size zero4 zero4 _ rfl rfl HR5.out rfl info_flow (flow4_one _ _ _ _ _ _) ?_; intro w6 hp6; have HP6 := Lib.hid hp6; clear hp6)
        refine bodyPost_ret (results_cell3 rfl _ rfl HP6.out.blk _ Tryz.underlying25 rfl info_flow) rfl ?_
        exact retP0 HP.out (HP6.out.below HB5.out (Nat.le_refl _))

end Go.Proofs.YtkcijibkloamkaaGreatDoor

