/- Layer 7: of the document's Path: best: of some tasks the first one with the greatest rank.
   Layer 7: of the document's Path: the chain of the best ones, and that it ends. No program.
   Layer 7: the document's Path.
   Layer 7: of the program's Path: the greatest one of some tasks, in order; what is in order and holds each number once. No program. -/
import Derived.Test.YtaiolhanbjndcaaGreatDoorMRnk
namespace Go.Proofs.YtaiolhanbjndcaaGreatDoor
open Go.RowKit
open Dag (Ints Own1 Sl num num_len)
set_option linter.unusedVariables false
set_option maxRecDepth 100000

/-- of the first k that p takes the first one with the greatest number -/
def bestN (U : Nat → Int) (p : Nat → Bool) : Nat → Option Nat
  | 0 => none
  | k + 1 => if p k = true then (match bestN U p k with
    | none => some k
    | some b => if U b < U k then some k else some b) else bestN U p k
def optI : Option Nat → Int
  | none => -1
  | some k => (k : Int)
theorem bestN_lt (U : Nat → Int) (p : Nat → Bool) : ∀ (k b : Nat), bestN U p k = some b → b < k
  | 0, b, h => by simp [bestN] at h
  | k + 1, b, h => by
    simp only [bestN] at h
    split at h
    · split at h
      · injection h with h; omega
      · rename_i b' hb'
        have := bestN_lt U p k b' hb'
        split at h <;> injection h with h <;> omega
    · have := bestN_lt U p k b h; omega
def takesB (ts : List TaskD) (v : Int) (w : Nat) : Bool := decide (v < 0) || (match ts[w]? with
  | some t => decide (v ∈ t.after)
  | none => false)

set_option maxHeartbeats 3200000 in
theorem rbest_any (f : FlowD) (A : Option Addr) (c : Nat) (w : World) (h : Tasks w A c f.tasks) (hlen : f.tasks.length ≤ 30) (xs : List Int) (hxl : xs.length = f.tasks.length) (B : Option Addr) (d : Nat) (hB : Ints w B d xs) (v : Int) :
    Calls Tryz.prog 45 #[.agg #[.string (sb f.name), .int .i64 f.deadline, .int .i64 f.priority, .slice A f.tasks.length c], .slice B f.tasks.length d, .int .i64 v] w fun e w' => e = .returned (.int .i64 (optI (bestN (atL xs) (takesB f.tasks v) f.tasks.length))) ∧ Below w.heap.size w w' := by
  have H := Lib.hid h; have HX := Lib.hid hxl; have HB := Lib.hid hB
  clear h hxl hB
  go_enter Tryz.func45, Tryz.ntmps45
  have hb0 := al w (flowO f A c)
  have ho0 := heap_alloc_new w (flowO f A c)
  go_wp2
  unfold flowO at hb0 ho0
  generalize w.alloc (.cells #[.string (sb f.name), .int .i64 f.deadline, .int .i64 f.priority, .slice A f.tasks.length c] 24) = W0 at hb0 ho0 ⊢
  have HB0 := Lib.hid hb0
  have HO0 : Hid (W0.heap[w.heap.size]? = some (flowO f A c)) := Lib.hid ho0
  clear hb0 ho0
  have hnl : f.tasks.length ≤ 9223372036854775807 := by omega
  go_loopw [7, 8] (fun bb i wr => ∃ (k : Nat) (o : Option Nat), k ≤ f.tasks.length ∧ i = .int .i64 k ∧ bb = .int .i64 (optI o) ∧ Hid (o = bestN (atL xs) (takesB f.tasks v) k) ∧ Hid (Below w.heap.size w wr) ∧ Hid (wr.heap[w.heap.size]? = some (flowO f A c))) (fun _ i _ => f.tasks.length - (intOf i).toNat)
  case atStart => exact ⟨0, none, Nat.zero_le _, rfl, rfl, Lib.hid rfl, HB0, HO0⟩
  case round =>
    clear HB0 HO0
    obtain ⟨k, o, hk, rfl, rfl, HOB, HBW, HO⟩ := hrel
    obtain ⟨wA, rfl⟩ : ∃ x, x = wr := ⟨wr, rfl⟩
    obtain ⟨p0, p1, p2, p3, hp⟩ := flowO_cells HO.out
    by_cases hlt : k < f.tasks.length
    · obtain ⟨t, ht⟩ : ∃ t, f.tasks[k]? = some t := ⟨_, List.getElem?_eq_getElem hlt⟩
      obtain ⟨b, off, A2, c2, eA, h0, h1, h2, h3, h4, h5, hI⟩ := (H.out.below HBW.out).cells k t ht
      subst eA
      by_cases hv : v < 0
      · have hta : takesB f.tasks v k = true := by unfold takesB; rw [decide_eq_true hv]; rfl
        clear ht hI h0 h1 h2 h3 h4 h5
        have HTA := Lib.hid hta
        clear hta
        cases o with
        | none =>
          have HS := Lib.hid (show some k = bestN (atL xs) (takesB f.tasks v) (k + 1) from by simp only [bestN, HTA.out, if_true]; rw [← HOB.out])
          rw [show optI none = -1 from rfl]
          go_wp2
          go_quiet (fail)
          have HBN := Lib.hid (blw HBW.out (Dag.below_drew wA nq))
          have HON := Lib.hid (keep_obj (Dag.below_drew wA nq) HO.out)
          generalize wA.drewN nq = wz at HBN HON ⊢
          go_wp2
          go_roundw
          case rel => exact ⟨k + 1, some k, by omega, by go_num, rfl, HS, HBN, HON⟩
          case measure => simp [intOf]; omega
        | some b' =>
          have hbk := bestN_lt _ _ _ _ HOB.out.symm
          have hbl : b' < f.tasks.length := Nat.lt_trans hbk hlt
          have hbz : decide ((b' : Int) < 0) = false := decide_eq_false (by omega)
          rw [show optI (some b') = (b' : Int) from rfl]
          obtain ⟨xk, hxk⟩ : ∃ x, xs[k]? = some x := ⟨_, List.getElem?_eq_getElem (by rw [HX.out]; exact hlt)⟩
          obtain ⟨xb, hxb⟩ : ∃ x, xs[b']? = some x := ⟨_, List.getElem?_eq_getElem (by rw [HX.out]; omega)⟩
          obtain ⟨bx, ox, ex, ck⟩ := (HB.out.below HBW.out).cells k (.int .i64 xk) (by unfold Dag.ints; rw [List.getElem?_map, hxk]; rfl)
          obtain ⟨bx2, ox2, ex2, cb⟩ := (HB.out.below HBW.out).cells b' (.int .i64 xb) (by unfold Dag.ints; rw [List.getElem?_map, hxb]; rfl)
          subst ex
          injection ex2 with ex2; injection ex2 with e1 e2; subst e1 e2
          have hbn : bestN (atL xs) (takesB f.tasks v) (k + 1) = if xb < xk then some k else some b' := by simp only [bestN, HTA.out, if_true]; rw [← HOB.out]; show (if atL xs b' < atL xs k then some k else some b') = _; rw [atL_some hxk, atL_some hxb]
          clear hxk hxb
          by_cases hgt : xb < xk
          · rw [if_pos hgt] at hbn
            have HS := Lib.hid hbn.symm
            clear hbn
            go_wp2
            go_quiet (fail)
            have HBN := Lib.hid (blw HBW.out (Dag.below_drew wA nq))
            have HON := Lib.hid (keep_obj (Dag.below_drew wA nq) HO.out)
            generalize wA.drewN nq = wz at HBN HON ⊢
            go_wp2
            go_roundw
            case rel => exact ⟨k + 1, some k, by omega, by go_num, rfl, HS, HBN, HON⟩
            case measure => simp [intOf]; omega
          · rw [if_neg hgt] at hbn
            have HS := Lib.hid hbn.symm
            clear hbn
            go_wp2
            go_quiet (fail)
            have HBN := Lib.hid (blw HBW.out (Dag.below_drew wA nq))
            have HON := Lib.hid (keep_obj (Dag.below_drew wA nq) HO.out)
            generalize wA.drewN nq = wz at HBN HON ⊢
            go_wp2
            go_roundw
            case rel => exact ⟨k + 1, some b', by omega, by go_num, rfl, HS, HBN, HON⟩
            case measure => simp [intOf]; omega
      · obtain ⟨bb, hbb⟩ : ∃ bb, decide (v ∈ t.after) = bb := ⟨_, rfl⟩
        have hta : takesB f.tasks v k = bb := by unfold takesB; rw [decide_eq_false hv, ht]; show (false || decide (v ∈ t.after)) = bb; rw [hbb]; rfl
        have HHS := Lib.hid (Dag.hasI_any t.after _ rfl v wA A2 c2 hI bb hbb)
        clear hbb ht hI
        cases bb with
        | false =>
          have HS := Lib.hid (show o = bestN (atL xs) (takesB f.tasks v) (k + 1) from by simp only [bestN, hta]; exact HOB.out)
          clear hta
          go_wp2_with (go_at_call 24; refine HHS.out.mono ?_; rintro e w' ⟨rfl, rfl⟩)
          go_roundw
          case rel => exact ⟨k + 1, o, by omega, by go_num, rfl, HS, HBW, HO⟩
          case measure => simp [intOf]; omega
        | true =>
          have HTA := Lib.hid hta
          clear hta
          cases o with
          | none =>
            have HS := Lib.hid (show some k = bestN (atL xs) (takesB f.tasks v) (k + 1) from by simp only [bestN, HTA.out, if_true]; rw [← HOB.out])
            rw [show optI none = -1 from rfl]
            go_wp2_with (go_at_call 24; refine HHS.out.mono ?_; rintro e w' ⟨rfl, rfl⟩)
            go_quiet (fail)
            have HBN := Lib.hid (blw HBW.out (Dag.below_drew wA nq))
            have HON := Lib.hid (keep_obj (Dag.below_drew wA nq) HO.out)
            generalize wA.drewN nq = wz at HBN HON ⊢
            go_wp2
            go_roundw
            case rel => exact ⟨k + 1, some k, by omega, by go_num, rfl, HS, HBN, HON⟩
            case measure => simp [intOf]; omega
          | some b' =>
            have hbk := bestN_lt _ _ _ _ HOB.out.symm
            have hbl : b' < f.tasks.length := Nat.lt_trans hbk hlt
            have hbz : decide ((b' : Int) < 0) = false := decide_eq_false (by omega)
            rw [show optI (some b') = (b' : Int) from rfl]
            obtain ⟨xk, hxk⟩ : ∃ x, xs[k]? = some x := ⟨_, List.getElem?_eq_getElem (by rw [HX.out]; exact hlt)⟩
            obtain ⟨xb, hxb⟩ : ∃ x, xs[b']? = some x := ⟨_, List.getElem?_eq_getElem (by rw [HX.out]; omega)⟩
            obtain ⟨bx, ox, ex, ck⟩ := (HB.out.below HBW.out).cells k (.int .i64 xk) (by unfold Dag.ints; rw [List.getElem?_map, hxk]; rfl)
            obtain ⟨bx2, ox2, ex2, cb⟩ := (HB.out.below HBW.out).cells b' (.int .i64 xb) (by unfold Dag.ints; rw [List.getElem?_map, hxb]; rfl)
            subst ex
            injection ex2 with ex2; injection ex2 with e1 e2; subst e1 e2
            have hbn : bestN (atL xs) (takesB f.tasks v) (k + 1) = if xb < xk then some k else some b' := by simp only [bestN, HTA.out, if_true]; rw [← HOB.out]; show (if atL xs b' < atL xs k then some k else some b') = _; rw [atL_some hxk, atL_some hxb]
            clear hxk hxb
            by_cases hgt : xb < xk
            · rw [if_pos hgt] at hbn
              have HS := Lib.hid hbn.symm
              clear hbn
              go_wp2_with (go_at_call 24; refine HHS.out.mono ?_; rintro e w' ⟨rfl, rfl⟩)
              go_quiet (fail)
              have HBN := Lib.hid (blw HBW.out (Dag.below_drew wA nq))
              have HON := Lib.hid (keep_obj (Dag.below_drew wA nq) HO.out)
              generalize wA.drewN nq = wz at HBN HON ⊢
              go_wp2
              go_roundw
              case rel => exact ⟨k + 1, some k, by omega, by go_num, rfl, HS, HBN, HON⟩
              case measure => simp [intOf]; omega
            · rw [if_neg hgt] at hbn
              have HS := Lib.hid hbn.symm
              clear hbn
              go_wp2_with (go_at_call 24; refine HHS.out.mono ?_; rintro e w' ⟨rfl, rfl⟩)
              go_quiet (fail)
              have HBN := Lib.hid (blw HBW.out (Dag.below_drew wA nq))
              have HON := Lib.hid (keep_obj (Dag.below_drew wA nq) HO.out)
              generalize wA.drewN nq = wz at HBN HON ⊢
              go_wp2
              go_roundw
              case rel => exact ⟨k + 1, some b', by omega, by go_num, rfl, HS, HBN, HON⟩
              case measure => simp [intOf]; omega
    · obtain rfl : k = f.tasks.length := by omega
      have HF := Lib.hid (show bestN (atL xs) (takesB f.tasks v) f.tasks.length = o from HOB.out.symm)
      go_wp2
      go_ret
      exact ⟨by rw [HF.out]; rfl, HBW.out⟩
end Go.Proofs.YtaiolhanbjndcaaGreatDoor
namespace Go.Proofs.YtaiolhanbjndcaaGreatDoor
open Go.RowKit
open Dag (behL bef_mem beh_mem arc order)
set_option linter.unusedVariables false

theorem bestN_p (U : Nat → Int) (p : Nat → Bool) : ∀ (k b : Nat), bestN U p k = some b → p b = true
  | 0, b, h => by simp [bestN] at h
  | k + 1, b, h => by
    simp only [bestN] at h
    split at h
    · rename_i hp
      split at h
      · injection h with h; subst h; exact hp
      · rename_i b' hb'
        have := bestN_p U p k b' hb'
        split at h <;> injection h with h <;> subst h
        · exact hp
        · exact this
    · exact bestN_p U p k b h
/-- the next one behind v; below 0: the first one of all -/
def nxtD (ts : List TaskD) (U : Nat → Int) (v : Int) : Option Nat := bestN U (takesB ts v) ts.length
def chainD (ts : List TaskD) (U : Nat → Int) : Nat → Nat → List Nat
  | 0, _ => []
  | k + 1, v => match nxtD ts U v with
    | none => []
    | some b => b :: chainD ts U k b
def tailD (ts : List TaskD) (U : Nat → Int) : Option Nat → List Nat
  | none => []
  | some b => b :: chainD ts U ts.length b
/-- a longest way -/
def pathD (ts : List TaskD) (U : Nat → Int) : List Nat := tailD ts U (nxtD ts U (-1))
theorem nxt_lt {ts : List TaskD} {U : Nat → Int} {v : Int} {b : Nat} (h : nxtD ts U v = some b) : b < ts.length := bestN_lt _ _ _ _ h
theorem nxt_beh {ts : List TaskD} {U : Nat → Int} {v b : Nat} (h : nxtD ts U v = some b) : b ∈ behL (afterL ts) v := by
  have hl := nxt_lt h
  have hp := bestN_p _ _ _ _ h
  obtain ⟨t, ht⟩ : ∃ t, ts[b]? = some t := ⟨_, List.getElem?_eq_getElem hl⟩
  unfold takesB at hp
  rw [ht, show decide ((v : Int) < 0) = false from decide_eq_false (by omega)] at hp
  have hm : (v : Int) ∈ t.after := by simpa using hp
  refine beh_mem.2 ⟨by rw [afterL_len]; exact hl, ?_⟩
  unfold arc
  rw [show Dag.row (afterL ts) b = t.after from by simp [Dag.row, afterL, ht]]
  exact decide_eq_true hm
section
variable {ts : List TaskD} (hf : (order (afterL ts)).length = ts.length) (hV : Dag.Valid (afterL ts)) (U : Nat → Int)
include hf hV
theorem chain_fuel : ∀ (k k' v : Nat), upM ts v ≤ k → upM ts v ≤ k' → chainD ts U k v = chainD ts U k' v
  | 0, 0, v, h, h' => rfl
  | 0, k' + 1, v, h, h' => by
    simp only [chainD]
    cases e : nxtD ts U v with
    | none => rfl
    | some b => have := (up_arc hf hV (nxt_beh e)).2.2; omega
  | k + 1, 0, v, h, h' => by
    simp only [chainD]
    cases e : nxtD ts U v with
    | none => rfl
    | some b => have := (up_arc hf hV (nxt_beh e)).2.2; omega
  | k + 1, k' + 1, v, h, h' => by
    simp only [chainD]
    cases e : nxtD ts U v with
    | none => rfl
    | some b =>
      have := (up_arc hf hV (nxt_beh e)).2.2
      show b :: chainD ts U k b = b :: chainD ts U k' b
      rw [chain_fuel k k' b (by omega) (by omega)]
theorem tail_step {b : Nat} (hb : b < ts.length) : tailD ts U (some b) = b :: tailD ts U (nxtD ts U b) := by
  obtain ⟨m, hm⟩ : ∃ m, ts.length = m + 1 := ⟨ts.length - 1, by omega⟩
  show b :: chainD ts U ts.length b = _
  rw [hm]
  simp only [chainD]
  cases e : nxtD ts U b with
  | none => rfl
  | some b' =>
    have h1 := (up_arc hf hV (nxt_beh e)).2.2
    have h2 : upM ts b ≤ m := by unfold upM; omega
    show b :: b' :: chainD ts U m b' = b :: b' :: chainD ts U ts.length b'
    rw [chain_fuel hf hV U m ts.length b' (by omega) (by omega)]
/-- how many may still come -/
def leftD (ts : List TaskD) : Option Nat → Nat
  | none => 0
  | some b => upM ts b + 1
theorem left_step {b : Nat} : leftD ts (nxtD ts U b) < leftD ts (some b) := by
  cases e : nxtD ts U b with
  | none => show 0 < upM ts b + 1; omega
  | some b' => have := (up_arc hf hV (nxt_beh e)).2.2; show upM ts b' + 1 < upM ts b + 1; omega
end
end Go.Proofs.YtaiolhanbjndcaaGreatDoor
namespace Go.Proofs.YtaiolhanbjndcaaGreatDoor
open Go.RowKit
open Dag (Ints Own1 Sl num num_len)
set_option linter.unusedVariables false
set_option maxRecDepth 100000

/-- what Path returns -/
def pathV (f : FlowD) : List Nat := if rankE f (upD f.tasks) = 0 then pathD f.tasks (atL (rankV f (upD f.tasks))) else []
def leftI (ts : List TaskD) (x : Int) : Nat := if x < 0 then 0 else upM ts x.toNat + 1
theorem leftI_opt (ts : List TaskD) : ∀ o : Option Nat, leftI ts (optI o) = leftD ts o
  | none => rfl
  | some b => by
    show (if ((b : Nat) : Int) < 0 then 0 else _) = _
    rw [if_neg (by omega)]
    rfl
theorem rankE_chk {f : FlowD} {U : Nat → Int} (h : rankE f U = 0) : checkE f = 0 := by
  unfold rankE at h
  split at h
  · exact h
  · rename_i h1; exact Decidable.byContradiction fun h2 => h1 h2
theorem rankV_len {f : FlowD} {U : Nat → Int} (h : rankE f U = 0) : (rankV f U).length = f.tasks.length := by
  unfold rankV; rw [if_pos h]; simp [numsU]

set_option maxHeartbeats 3200000 in
theorem rpath_any (f : FlowD) (A : Option Addr) (c : Nat) (w : World) (h : Tasks w A c f.tasks) (hT : Txt.Tabs w) (hl : f.name.length ≤ 1100000) (hn : ∀ t ∈ f.tasks, t.name.length ≤ 1100000) (hlen : f.tasks.length ≤ 30) :
    Calls Tryz.prog 16 #[.agg #[.string (sb f.name), .int .i64 f.deadline, .int .i64 f.priority, .slice A f.tasks.length c]] w fun e w' => ∃ B d, e = .returned (.tuple #[.slice B (pathV f).length d, .int .i64 (rankE f (upD f.tasks))]) ∧ Ints w' B d (num (pathV f)) ∧ Below w.heap.size w w' := by
  have HR := Lib.hid fun W (hW : Below w.heap.size w W) => rranks_any true f A c W (h.below hW) (hT.below hW) hl hn hlen
  have H := Lib.hid h
  obtain ⟨xs, hxs⟩ : ∃ xs, rankV f (upD f.tasks) = xs := ⟨_, rfl⟩
  obtain ⟨e0, he0⟩ : ∃ e0, rankE f (upD f.tasks) = e0 := ⟨_, rfl⟩
  obtain ⟨P, hP⟩ : ∃ P, pathV f = P := ⟨_, rfl⟩
  unfold RetU at HR
  rw [show selD true f.tasks = upD f.tasks from rfl, hxs, he0] at HR
  rw [he0, hP]
  clear h hT hl hn
  by_cases h0 : e0 = 0
  case neg =>
    have hxn : (e0 != 0) = true := by simp [h0]
    have HPE : Hid (P = []) := Lib.hid (by rw [← hP]; unfold pathV; rw [he0, if_neg h0])
    clear h0 hP hxs he0
    go_enter Tryz.func16, Tryz.ntmps16
    go_wp2_with fail
    refine (HR.out _ (al _ _)).mono ?_
    rintro e w1 ⟨B, d, rfl, hi1, hb1⟩
    have HB1 := Lib.hid (blw (al w (flowO f A c)) hb1)
    clear hb1 hi1
    go_wp2
    go_ret2
    exact ⟨none, 0, by rw [HPE.out]; rfl, by rw [HPE.out]; exact Sl.empty _, HB1.out⟩
  subst h0
  have hxl : xs.length = f.tasks.length := by rw [← hxs]; exact rankV_len he0
  obtain ⟨hf, hV, hW⟩ := chk_facts (rankE_chk he0)
  have HF := Lib.hid hf; have HV := Lib.hid hV
  have HP : Hid (P = tailD f.tasks (atL xs) (nxtD f.tasks (atL xs) (-1))) := Lib.hid (by rw [← hP]; unfold pathV; rw [he0, if_pos rfl, hxs]; rfl)
  have HBST := Lib.hid fun W B d v (hW : Below w.heap.size w W) (hi : Ints W B d xs) => rbest_any f A c W (H.out.below hW) hlen xs hxl B d hi v
  have HLN := Lib.hid hlen
  clear hf hV hW hP hxs he0
  go_enter Tryz.func16, Tryz.ntmps16
  go_wp2_with fail
  refine (HR.out _ (al _ _)).mono ?_
  rintro e w1 ⟨B, d, rfl, hi1, hb1⟩
  have HB1 := Lib.hid (blw (al w (flowO f A c)) hb1)
  have HO1 : Hid (w1.heap[w.heap.size]? = some (flowO f A c)) := Lib.hid ((hb1.block _ (by simp)).trans (heap_alloc_new w _))
  have HI1 := Lib.hid hi1
  clear hb1 hi1
  rw [hxl]
  obtain ⟨p0, p1, p2, p3, hp⟩ := flowO_cells HO1.out
  go_wp2_with fail
  refine (HBST.out _ _ _ _ HB1.out HI1.out).mono ?_
  rintro e w2 ⟨rfl, hb2⟩
  have HB2 := Lib.hid (blw HB1.out hb2)
  have HO2 := Lib.hid (keep_obj hb2 HO1.out)
  have HI2 := Lib.hid (HI1.out.below hb2)
  clear hb2 p0 p1 p2 p3 hp
  rw [show bestN (atL xs) (takesB f.tasks (-1)) f.tasks.length = nxtD f.tasks (atL xs) (-1) from rfl]
  obtain ⟨o0, ho0⟩ : ∃ o0, nxtD f.tasks (atL xs) (-1) = o0 := ⟨_, rfl⟩
  rw [ho0] at HP ⊢
  have HL0 : Hid (leftD f.tasks o0 ≤ f.tasks.length) := Lib.hid (by
    cases o0 with
    | none => exact Nat.zero_le _
    | some b => have := nxt_lt ho0; show upM f.tasks b + 1 ≤ _; unfold upM; omega)
  have HT0 : Hid (∀ b, o0 = some b → b < f.tasks.length) := Lib.hid fun b e => nxt_lt (ho0.trans e)
  clear ho0
  go_wp2
  go_loopw [6, 7] (fun out v wr => ∃ (pre : List Nat) (o : Option Nat) (Ao : Option Addr) (co : Nat), v = .int .i64 (optI o) ∧ out = .slice Ao pre.length co ∧ Hid (P = pre ++ tailD f.tasks (atL xs) o) ∧ Hid (pre.length + leftD f.tasks o ≤ f.tasks.length) ∧ Hid (∀ b, o = some b → b < f.tasks.length) ∧ Hid (Own1 wr w2.heap.size 3 (.slice Ao pre.length co) (Dag.ints (num pre))) ∧ Hid (Below w2.heap.size w2 wr)) (fun _ v _ => leftI f.tasks (intOf v))
  case atStart => exact ⟨[], o0, none, 0, rfl, rfl, HP, Lib.hid (by simpa using HL0.out), HT0, Lib.hid (Own1.nil _ _ _), Lib.hid (Below.refl _ _)⟩
  case round =>
    clear HP HL0 HT0
    obtain ⟨pre, o, Ao, co, rfl, rfl, HP, HL, HT, HO, HB⟩ := hrel
    cases o with
    | none =>
      rw [show optI none = -1 from rfl]
      have HE : Hid (P = pre) := Lib.hid (by rw [HP.out]; exact List.append_nil _)
      go_wp2
      go_ret2
      exact ⟨Ao, co, by rw [HE.out]; rfl, by rw [HE.out]; exact (Dag.OwnI.ints' HO.out).2, blw HB2.out HB.out⟩
    | some b =>
      rw [show optI (some b) = (b : Int) from rfl]
      have hbl := HT.out b rfl
      have hsz := HB.out.size
      have hpl : pre.length + (upM f.tasks b + 1) ≤ 30 := Nat.le_trans HL.out HLN.out
      go_wp2_with (at_builtin; refine Dag.wpList_appg rfl _ _ 27 3 (.int .i64 0) 8 Tryz.underlying27 Dag.info_int rfl (by decide) rfl w2.heap.size (.slice Ao pre.length co) (Dag.ints (num pre)) rfl (Own1.below HO.out ((Below.refl _ _).alloc (Nat.le_refl _) _)) (some ⟨wr.heap.size, 0, none⟩) 1 1 [.int .i64 (b : Int)] rfl rfl (Sl.one rfl) (by simp [Value.oneCell']) (by rw [Dag.ints_len, num_len]; simp; omega) (by simp; omega) ?_; intro l9 A9 c9 w9 el ho9 _ _ hbl9; have HO9 := Lib.hid ho9; have HBL := Lib.hid ((HB.out.alloc hsz _).trans hbl9); have EL := Lib.hid el; clear ho9 hbl9 el; obtain ⟨p0, p1, p2, p3, hp⟩ := flowO_cells (keep_obj HBL.out HO2.out))
      refine (HBST.out _ _ _ _ (blw HB2.out HBL.out) (HI2.out.below HBL.out)).mono ?_
      rintro e w3 ⟨rfl, hb3⟩
      have hsz9 := HBL.out.size
      have HO3 := Lib.hid (Own1.below HO9.out hb3)
      have HB3 := Lib.hid (HBL.out.trans (hb3.mono hsz9))
      clear hb3 p0 p1 p2 p3 hp
      rw [show bestN (atL xs) (takesB f.tasks (b : Int)) f.tasks.length = nxtD f.tasks (atL xs) (b : Int) from rfl]
      have HST := Lib.hid (tail_step HF.out HV.out (atL xs) hbl)
      have HLS := Lib.hid (left_step HF.out HV.out (atL xs) (b := b))
      obtain ⟨o1, ho1⟩ : ∃ o1, nxtD f.tasks (atL xs) (b : Int) = o1 := ⟨_, rfl⟩
      rw [ho1] at HST HLS ⊢
      have HT1 : Hid (∀ b', o1 = some b' → b' < f.tasks.length) := Lib.hid fun b' e => nxt_lt (ho1.trans e)
      clear ho1
      have HNW : Hid (l9 = Dag.ints (num (pre ++ [b]))) := Lib.hid (by rw [EL.out]; simp [Dag.ints, num])
      have HNL : Hid (l9.length = (pre ++ [b]).length) := Lib.hid (by rw [HNW.out, Dag.ints_len, num_len])
      go_wp2
      go_roundw
      case rel => exact ⟨pre ++ [b], o1, A9, c9, rfl, by rw [HNL.out], Lib.hid (by rw [HP.out, HST.out]; simp), Lib.hid (by have := HLS.out; have := HL.out; rw [List.length_append]; show pre.length + 1 + _ ≤ _; omega), HT1, Lib.hid (by have := HO3.out; rw [HNL.out, HNW.out] at this; exact this), HB3⟩
      case measure =>
        have h1 := leftI_opt f.tasks o1
        have h2 := leftI_opt f.tasks (some b)
        have h3 := HLS.out
        simp only [intOf]
        show leftI f.tasks (optI o1) < leftI f.tasks (optI (some b))
        omega
end Go.Proofs.YtaiolhanbjndcaaGreatDoor
namespace Go.Proofs.YtaiolhanbjndcaaGreatDoor
open Go.RowKit
open Dag (behL beh_mem arc order num)
set_option linter.unusedVariables false
theorem srt_low {ys : List Int} {n : Nat} (hm : ∀ v : Nat, v < n → (v : Int) ∈ ys) (hs : ys.Pairwise (fun x y => x ≤ y)) : ∀ v : Nat, v < n → ∀ i : Nat, ys[i]? = some (v : Int) → v ≤ i
  | 0, _, _, _ => Nat.zero_le _
  | v + 1, hv, i, hi => by
    obtain ⟨j, hj⟩ := List.mem_iff_getElem?.1 (hm v (by omega))
    have h1 := srt_low hm hs v (by omega) j hj
    have hij : j < i := by
      obtain ⟨pi, ei⟩ := List.getElem?_eq_some_iff.1 hi
      obtain ⟨pj, ej⟩ := List.getElem?_eq_some_iff.1 hj
      rcases Nat.lt_trichotomy i j with q | q | q
      · have := (List.pairwise_iff_getElem.1 hs) i j pi pj q
        rw [ei, ej] at this; omega
      · subst q; rw [hi] at hj; injection hj with hj; omega
      · exact q
    omega
theorem srt_high {ys : List Int} {n : Nat} (hl : ys.length = n) (hm : ∀ v : Nat, v < n → (v : Int) ∈ ys) (hs : ys.Pairwise (fun x y => x ≤ y)) : ∀ d v : Nat, v + d + 1 = n → ∀ i : Nat, ys[i]? = some (v : Int) → i ≤ v
  | 0, v, hv, i, hi => by have := (List.getElem?_eq_some_iff.1 hi).1; omega
  | d + 1, v, hv, i, hi => by
    obtain ⟨j, hj⟩ := List.mem_iff_getElem?.1 (hm (v + 1) (by omega))
    have h1 := srt_high hl hm hs d (v + 1) (by omega) j hj
    have hij : i < j := by
      obtain ⟨pi, ei⟩ := List.getElem?_eq_some_iff.1 hi
      obtain ⟨pj, ej⟩ := List.getElem?_eq_some_iff.1 hj
      rcases Nat.lt_trichotomy i j with q | q | q
      · exact q
      · subst q; rw [hi] at hj; injection hj with hj; omega
      · have := (List.pairwise_iff_getElem.1 hs) j i pj pi q
        rw [ei, ej] at this; omega
    omega
theorem srt_range {ys : List Int} {n : Nat} (hl : ys.length = n) (hm : ∀ v : Nat, v < n → (v : Int) ∈ ys) (hs : ys.Pairwise (fun x y => x ≤ y)) : ys = num (List.range n) := by
  apply List.ext_getElem?
  intro k
  by_cases hk : k < n
  · obtain ⟨i, hi⟩ := List.mem_iff_getElem?.1 (hm k hk)
    have h1 := srt_low hm hs k hk i hi
    have h2 := srt_high hl hm hs (n - 1 - k) k (by omega) i hi
    obtain rfl : i = k := by omega
    rw [hi]
    simp [num, List.getElem?_range hk]
  · rw [List.getElem?_eq_none (by omega), List.getElem?_eq_none (by simp [num]; omega)]
/-- of a list the first one with the greatest number -/
def bstS (U : Nat → Int) (o : Option Nat) (x : Nat) : Option Nat := match o with
  | none => some x
  | some b => if U b < U x then some x else some b
def bstT (U : Nat → Int) (T : List Nat) : Option Nat := T.foldl (bstS U) none
theorem bstT_snoc (U : Nat → Int) (T : List Nat) (x : Nat) : bstT U (T ++ [x]) = bstS U (bstT U T) x := by simp [bstT, List.foldl_append]
theorem bstT_take (U : Nat → Int) {T : List Nat} {k x : Nat} (h : T[k]? = some x) : bstT U (T.take (k + 1)) = bstS U (bstT U (T.take k)) x := by
  rw [List.take_add_one, h, Option.toList_some, bstT_snoc]
theorem bstT_range (U : Nat → Int) (p : Nat → Bool) : ∀ n, bstT U ((List.range n).filter p) = bestN U p n
  | 0 => rfl
  | n + 1 => by
    rw [List.range_succ, List.filter_append]
    simp only [bestN]
    by_cases hp : p n = true
    · rw [if_pos hp, List.filter_cons_of_pos hp, List.filter_nil, bstT_snoc, bstT_range U p n]
      rfl
    · rw [if_neg hp, List.filter_cons_of_neg hp, List.filter_nil, List.append_nil, bstT_range U p n]
theorem bstT_nil {U : Nat → Int} {T : List Nat} (h : T ≠ []) : ∃ x, bstT U T = some x ∧ x ∈ T := by
  have key : ∀ k, 0 < k → k ≤ T.length → ∃ x, bstT U (T.take k) = some x ∧ x ∈ T := by
    intro k
    induction k with
    | zero => intro h; omega
    | succ k ih =>
      intro _ hk
      obtain ⟨x, hx⟩ : ∃ x, T[k]? = some x := ⟨_, List.getElem?_eq_getElem (by omega)⟩
      have hxm := List.mem_of_getElem? hx
      rw [bstT_take U hx]
      by_cases h0 : k = 0
      · subst h0; exact ⟨x, rfl, hxm⟩
      · obtain ⟨b, hb, hbm⟩ := ih (by omega) (by omega)
        rw [hb]
        by_cases c : U b < U x
        · exact ⟨x, by simp [bstS, c], hxm⟩
        · exact ⟨b, by simp [bstS, c], hbm⟩
  have := key T.length (List.length_pos_iff.2 h) (Nat.le_refl _)
  rwa [List.take_length] at this
theorem nxt_all (ts : List TaskD) (U : Nat → Int) : nxtD ts U (-1) = bstT U (List.range ts.length) := by
  unfold nxtD
  rw [← bstT_range]
  congr 1
  rw [List.filter_eq_self.2]
  intro v _
  simp [takesB]
theorem nxt_of (ts : List TaskD) (U : Nat → Int) (v : Nat) : nxtD ts U v = bstT U (behL (afterL ts) v) := by
  unfold nxtD behL
  rw [← bstT_range, afterL_len]
  congr 1
  refine List.filter_congr fun w hw => ?_
  have hl : w < ts.length := by simpa using hw
  obtain ⟨t, ht⟩ : ∃ t, ts[w]? = some t := ⟨_, List.getElem?_eq_getElem hl⟩
  unfold takesB arc
  rw [ht, show decide ((v : Int) < 0) = false from decide_eq_false (by omega), Bool.false_or, show Dag.row (afterL ts) w = t.after from by simp [Dag.row, afterL, ht]]
end Go.Proofs.YtaiolhanbjndcaaGreatDoor

