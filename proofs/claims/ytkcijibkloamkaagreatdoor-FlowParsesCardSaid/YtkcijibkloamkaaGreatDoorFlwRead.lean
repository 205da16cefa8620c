/- The lines of a text, one behind the other. -/
import Derived.Test.YtkcijibkloamkaaGreatDoorFlwAdd
import Derived.Test.YtkcijibkloamkaaGreatDoorTxtD
import Derived.Deep.MidRow
namespace Go.Proofs.YtkcijibkloamkaaGreatDoor
open Go.RowKit
open Txt (wordsE wordsV linesE linesV)
set_option linter.unusedVariables false
set_option maxRecDepth 100000

/-- A holds the texts ls -/
def StrsL (w : World) (A : Option Addr) (ls : List (List UInt8)) : Prop := ∀ (k : Nat) (s : List UInt8), ls[k]? = some s → ∃ b off, A = some ⟨b, off, none⟩ ∧ w.cell? ⟨b, off + k, none⟩ = some (.string (sb s))
theorem StrsL.below {w w' : World} {A : Option Addr} {ls : List (List UInt8)} (h : StrsL w A ls) (hb : Below w.heap.size w w') : StrsL w' A ls := fun k s hs => by
  obtain ⟨b, off, e, hc⟩ := h k s hs
  exact ⟨b, off, e, keep_cell hb hc⟩
theorem strsL_of {w : World} {A : Option Addr} {zs : List ByteArray} {ls : List (List UInt8)} (h : Txt.Strs w A zs) (e : zs.map Txt.lst = ls) : StrsL w A ls := fun k s hs => by
  subst e
  rw [List.getElem?_map] at hs
  cases hz : zs[k]? with
  | none => rw [hz] at hs; cases hs
  | some z =>
    rw [hz] at hs
    injection hs with hs
    subst hs
    obtain ⟨b, off, e, _, hc⟩ := h k z hz
    exact ⟨b, off, e, by rw [show sb (Txt.lst z) = z from sb_data z]; exact hc⟩
theorem lineSt_err {s : St} {l : List UInt8} (h : wordsE l ≠ 0) : lineSt s l = .error (wordsE l) := by unfold lineSt; rw [if_pos h]
theorem lineSt_nil {s : St} {l : List UInt8} (h : wordsE l = 0) (hv : wordsV l = []) : lineSt s l = .ok s := by unfold lineSt; rw [if_neg (fun e => e h), hv]
theorem lineSt_cons {s : St} {l h : List UInt8} {t : List (List UInt8)} (he : wordsE l = 0) (hv : wordsV l = h :: t) : lineSt s l = addW s h t := by unfold lineSt; rw [if_neg (fun e => e he), hv]
theorem addSt_more {s s' : St} {k : Nat} {x : List (List UInt8)} (h : addSt s k x = .ok s') : s'.tasks.length ≤ s.tasks.length + 1 ∧ s'.links.length ≤ s.links.length + 1 := by
  unfold addSt at h
  split at h
  · cases h
  split at h
  · unfold parSt at h
    split at h
    · injection h with h; subst h; simp
    · cases h
  · split at h
    · cases h
    · split at h
      · unfold beginSt at h
        split at h
        · cases h
        split at h
        · cases h
        injection h with h; subst h; simp
      split at h
      · unfold setSt at h
        split at h
        · cases h
        split at h
        · cases h
        injection h with h
        split at h <;> (subst h; simp)
      split at h
      · unfold jobSt at h
        split at h
        · cases h
        split at h
        · cases h
        injection h with h; subst h; simp
      · unfold taskSt at h
        split at h
        · split at h
          · cases h
          · unfold telSt at h
            split at h
            · cases h
            split at h
            · injection h with h; subst h; simp
            split at h
            · cases h
            · split at h
              · cases h
              · injection h with h; subst h; simp
        · cases h
theorem addW_more {s s' : St} {h : List UInt8} {t : List (List UInt8)} (he : addW s h t = .ok s') : s'.tasks.length ≤ s.tasks.length + 1 ∧ s'.links.length ≤ s.links.length + 1 := by
  unfold addW at he
  split at he
  · cases he
  · exact addSt_more he
theorem wordsA_mem : ∀ (l cur : List UInt8), ∀ x ∈ Txt.wordsA l cur, x.length ≤ cur.length + l.length
  | [], cur, x, h => by
    unfold Txt.wordsA at h
    split at h
    · cases h
    · simp at h; subst h; simp
  | b :: t, cur, x, h => by
    unfold Txt.wordsA at h
    split at h
    · split at h
      · have := wordsA_mem t [] x h; simp at this ⊢; omega
      · rcases List.mem_cons.1 h with rfl | h
        · simp
        · have := wordsA_mem t [] x h; simp at this ⊢; omega
    · split at h
      · cases h
      · have := wordsA_mem t _ x h; simp at this ⊢; omega
theorem wordsV_mem {l x : List UInt8} (h : x ∈ wordsV l) : x.length ≤ l.length := by
  unfold wordsV at h
  split at h
  · have := wordsA_mem l [] x h; simpa using this
  · cases h
theorem feed_step {s : St} {i : Nat} {ls : List (List UInt8)} {l : List UInt8} (h : ls[i]? = some l) : feed s i (ls.drop i) = match lineSt s l with
    | .error e => .inl (i + 1, e)
    | .ok s' => feed s' (i + 1) (ls.drop (i + 1)) := by
  obtain ⟨hi, e⟩ := List.getElem?_eq_some_iff.1 h
  rw [List.drop_eq_getElem_cons hi, feed, e]
  rfl
theorem feed_end {s : St} {i : Nat} {ls : List (List UInt8)} (h : ¬ i < ls.length) : feed s i (ls.drop i) = .inr s := by
  rw [List.drop_eq_nil_of_le (Nat.not_lt.1 h), feed]
/-! a whole block read or written -/
theorem setCells_blk (b : Nat) (t : TypeId) : ∀ (vs : List Value) (o : Nat) (w : World) (cur : Array Value), w.heap[b]? = some (Obj.cells cur t (0, 0)) → o + vs.length ≤ cur.size →
    ∃ cur' : Array Value, (w.setCells b o vs).heap[b]? = some (Obj.cells cur' t (0, 0)) ∧ cur'.size = cur.size ∧ ∀ j : Nat, cur'[j]? = if o ≤ j ∧ j < o + vs.length then vs[j - o]? else cur[j]?
  | [], o, w, cur, h, _ => ⟨cur, h, rfl, fun j => by rw [if_neg (by simp only [List.length_nil]; omega)]⟩
  | v :: vs, o, w, cur, h, hs => by
    simp only [List.length_cons] at hs
    obtain ⟨cur', h1, h2, h3⟩ := setCells_blk b t vs (o + 1) (w.setCell ⟨b, o, none⟩ v) (cur.setIfInBounds o v) (Dag.blk_set h o v) (by simp; omega)
    refine ⟨cur', h1, by rw [h2]; simp, fun j => ?_⟩
    rw [h3 j]
    simp only [List.length_cons]
    by_cases e1 : o = j
    · subst e1
      rw [if_neg (by omega), if_pos (by omega), Nat.sub_self, List.getElem?_cons_zero, Array.getElem?_setIfInBounds_self_of_lt (by omega)]
    · by_cases e2 : o + 1 ≤ j ∧ j < o + 1 + vs.length
      · rw [if_pos e2, if_pos (by omega), show j - o = (j - (o + 1)) + 1 from by omega, List.getElem?_cons_succ]
      · rw [if_neg e2, if_neg (by omega), Array.getElem?_setIfInBounds_ne e1]
theorem setCells_other (b : Nat) : ∀ (vs : List Value) (o : Nat) (w : World) (k : Nat), k ≠ b → (w.setCells b o vs).heap[k]? = w.heap[k]?
  | [], _, _, _, _ => rfl
  | v :: vs, o, w, k, h => (setCells_other b vs (o + 1) _ k h).trans (Dag.blk_other h)
theorem setCells_rest (b : Nat) : ∀ (vs : List Value) (o : Nat) (w : World), (w.setCells b o vs).os = w.os ∧ (w.setCells b o vs).tape = w.tape ∧ (w.setCells b o vs).output = w.output ∧ (w.setCells b o vs).heap.size = w.heap.size
  | [], _, _ => ⟨rfl, rfl, rfl, rfl⟩
  | v :: vs, o, w => by
    obtain ⟨h1, h2, h3, h4⟩ := setCells_rest b vs (o + 1) (w.setCell ⟨b, o, none⟩ v)
    exact ⟨h1, h2, h3, h4.trans (by simp [World.setCell])⟩
/-- w' is w, but block b holds cs -/
structure PutA (w w' : World) (b : Nat) (cs : Array Value) (t : TypeId) : Prop where
  blk : w'.heap[b]? = some (Obj.cells cs t (0, 0))
  other : ∀ k, k ≠ b → w'.heap[k]? = w.heap[k]?
  rest : w'.os = w.os ∧ w'.tape = w.tape ∧ w'.output = w.output ∧ w'.heap.size = w.heap.size
theorem PutA.below {a w w' : World} {b base : Nat} {cs : Array Value} {t : TypeId} (h : PutA w w' b cs t) (ha : Below base a w) (hb : base ≤ b) : Below base a w' :=
  ⟨h.rest.1.trans ha.os, h.rest.2.1.trans ha.tape, h.rest.2.2.1.trans ha.output, by rw [h.rest.2.2.2]; exact ha.size, fun k hk => (h.other k (by omega)).trans (ha.block k hk)⟩
theorem wpList_storeA {ops : Array Oper} {rest : List Oper} {op : Oper} {a : Act} {w : World} {Q : Exit → Act → World → Prop} (hgd : op.guard = none) (ty : TypeId) (x y : Operand) (ho : op.op = .store ty x y)
    (b : Nat) (cs cur : Array Value) (t : TypeId) (hx : a.eval x = .pointer (some ⟨b, 0, none⟩)) (hy : a.eval y = .agg cs) (hb : w.heap[b]? = some (Obj.cells cur t (0, 0))) (hs : cur.size = cs.size) (hi : (Tryz.prog.info? ty).map (·.size) = some cs.size) (h1 : cs.all (·.oneCell') = true)
    (h : ∀ w', PutA w w' b cs t → wpList Tryz.prog ops Q rest (a.put op.dst undef) w') : wpList Tryz.prog ops Q (op :: rest) a w := by
  refine wpList_store_mid hgd ty x y ho b 0 cs hx hy (fun j hj => ?_) hi h1 (h _ ?_)
  · rw [Nat.zero_add]
    refine ⟨?_, Dag.blk_frozen hb j⟩
    rw [Dag.blk_cell hb j, Array.getElem?_eq_getElem (by omega)]; rfl
  · obtain ⟨cur', e1, e2, e3⟩ := setCells_blk b t cs.toList 0 w cur hb (by simp; omega)
    refine ⟨?_, fun k hk => setCells_other b _ _ w k hk, setCells_rest b _ _ w⟩
    have : cur' = cs := by
      apply Array.ext_getElem?
      intro j
      rw [e3 j]
      by_cases hj : j < cs.size
      · rw [if_pos (by simp; omega)]; simp
      · rw [if_neg (by simp; omega), Array.getElem?_eq_none (by omega), Array.getElem?_eq_none (by omega)]
    subst this; exact e1
theorem wpList_loadA {ops : Array Oper} {rest : List Oper} {op : Oper} {a : Act} {w : World} {Q : Exit → Act → World → Prop} (hgd : op.guard = none) (ty : TypeId) (x : Operand) (ho : op.op = .load ty x)
    (b : Nat) (cs : Array Value) (t : TypeId) (hx : a.eval x = .pointer (some ⟨b, 0, none⟩)) (hb : w.heap[b]? = some (Obj.cells cs t (0, 0))) (d : TypeDesc) (hu : Tryz.prog.underlying ty = some d) (hd : d.isRow = true) (hi : (Tryz.prog.info? ty).map (·.size) = some cs.size)
    (h : wpList Tryz.prog ops Q rest (a.put op.dst (.agg cs)) w) : wpList Tryz.prog ops Q (op :: rest) a w := by
  refine wpList_load_mid hgd ty x ho b 0 hx cs.toList d (fun j v hv => ?_) hu hd (by simpa using hi) (by simpa using h)
  rw [Nat.zero_add, Dag.blk_cell hb j]
  simpa using hv

theorem run_loadA {w : World} (ty : TypeId) {b : Nat} {cs : Array Value} {t : TypeId} (hb : w.heap[b]? = some (Obj.cells cs t (0, 0))) (d : TypeDesc) (hu : Tryz.prog.underlying ty = some d) (hd : d.isRow = true) (hi : (Tryz.prog.info? ty).map (·.size) = some cs.size) :
    (loadVar ty ⟨b, 0, none⟩).run Tryz.prog w = .ok (.agg cs) w := by
  have := run_loadVar_mid (P := Tryz.prog) w b 0 ty cs.toList d (fun j v hv => by rw [Nat.zero_add, Dag.blk_cell hb j]; simpa using hv) hu hd (by simpa using hi)
  simpa using this
theorem results_cell3 {fn : Func} {t u v : Tmp} {ty : TypeId} (h : fn.results = #[.cell t ty, .tmp u, .tmp v]) (tmps : Array Value) {w : World} {b : Nat} {cs : Array Value} {tt : TypeId} (ht : tmps.getD t undef = .pointer (some ⟨b, 0, none⟩)) (hb : w.heap[b]? = some (Obj.cells cs tt (0, 0))) (d : TypeDesc) (hu : Tryz.prog.underlying ty = some d) (hd : d.isRow = true) (hi : (Tryz.prog.info? ty).map (·.size) = some cs.size) :
    (results fn tmps).run Tryz.prog w = .ok (.tuple #[.agg cs, tmps.getD u undef, tmps.getD v undef]) w := by
  have h1 := run_loadA ty hb d hu hd hi
  have ht2 : tmps[t]?.getD undef = .pointer (some ⟨b, 0, none⟩) := by simpa using ht
  simp [results, h, ht2, asAddr, h1]
theorem new_at {W : World} {o : Obj} {g : Nat} (hg : W.heap.size = g) : (W.alloc o).heap[g]? = some o := by subst hg; exact heap_alloc_new W o
def RetRead (w : World) (ls : List (List UInt8)) (e : Ending) (w' : World) : Prop := Below w.heap.size w w' ∧ (match feed St.start 0 ls with
  | .inl (i, x) => ∃ s TA tc HA hc LA lc M, e = .returned (.tuple #[.agg (draftC s TA tc HA hc LA lc M), .int .i64 (i : Int), .int .i64 x]) ∧ x ≠ 0
  | .inr s => ∃ TA tc HA hc LA lc M base, e = .returned (.tuple #[.agg (draftC s TA tc HA hc LA lc M), .int .i64 0, .int .i64 0]) ∧ Prt w' base s.tasks s.links TA tc HA hc LA lc M ∧ w.heap.size ≤ base)
theorem nameI_nil : nameI [] = fun _ => none := by funext s; unfold nameI namesP; simp
def zero16 : Array Value := #[.string ⟨#[]⟩, .int .i64 0, .int .i64 0, .slice none 0 0, .bool false, .bool false, .bool false, .bool false, .bool false, .bool false, .bool false, .bool false, .bool false, .map none, .slice none 0 0, .slice none 0 0]
theorem draftC_size (s : St) (TA : Option Addr) (tc : Nat) (HA : Option Addr) (hc : Nat) (LA : Option Addr) (lc M : Nat) : (draftC s TA tc HA hc LA lc M).size = 16 := rfl
theorem draftC_one (s : St) (TA : Option Addr) (tc : Nat) (HA : Option Addr) (hc : Nat) (LA : Option Addr) (lc M : Nat) : (draftC s TA tc HA hc LA lc M).all (·.oneCell') = true := by
  simp [draftC, Value.oneCell']
theorem info_draft : (Tryz.prog.info? 60).map (·.size) = some 16 := by kernel_rfl

set_option maxHeartbeats 6400000 in
theorem read_any (ls : List (List UInt8)) (n : Nat) (hn : ls.length = n) (hm : n ≤ 70000) (w : World) (A : Option Addr) (c : Nat) (hL : StrsL w A ls) (hs : ∀ l ∈ ls, l.length ≤ 60000) (hS : TabS w) (hT : Txt.Tabs w) :
    Calls Tryz.prog 32 #[.slice A n c] w (RetRead w ls) := by
  subst hn
  have HL := Lib.hid hL; have HS := Lib.hid hs
  have HSB : Hid (∀ w', Below w.heap.size w w' → TabS w') := Lib.hid fun w' hb => hS.below hb
  have HTB : Hid (∀ w', Below w.heap.size w w' → Txt.Tabs w') := Lib.hid fun w' hb => hT.below hb
  have hgb := hS.lt
  have hmm : ∀ W : World, (Instr.makeMap 56 none).run Tryz.prog W = .ok (.map (some W.heap.size)) (W.alloc (.map #[] 0)) := fun W => by kernel_rfl
  clear hL hs hS hT
  go_enter Tryz.func32, Tryz.ntmps32
  go_wp2
  refine wp_scope_straight ?_
  go_wp2
  refine wp_label ?_
  go_wp2
  go_loopw [14] (fun i wr => ∃ (k : Nat) (s : St), k ≤ ls.length ∧ i = .int .i64 k ∧ Below w.heap.size w wr ∧ Hid (Drf wr (w.heap.size + 1) (w.heap.size + 1 + 1) s) ∧ Hid (wr.heap[w.heap.size]? = some (Obj.cells zero16 60 (0, 0))) ∧ Hid (feed St.start 0 ls = feed s k (ls.drop k)) ∧ s.tasks.length ≤ k ∧ s.links.length ≤ k) (fun i _ => ls.length - (intOf i).toNat)
  case atStart =>
    refine ⟨0, St.start, Nat.zero_le _, rfl, blw (blw (al _ _) (al _ _)) (al _ _), Lib.hid ?_, Lib.hid ?_, Lib.hid (by rw [List.drop_zero]), by simp [St.start], by simp [St.start]⟩
    · refine ⟨⟨none, 0, none, 0, none, 0, w.heap.size + 1, ?_, ?_⟩, by omega⟩
      · exact new_at (by simp)
      · refine ⟨World.ownsRow_nil _ _ _ _, World.ownsRow_nil _ _ _ _, ⟨[], World.ownsRow_nil _ _ _ _, rfl, fun i p c h => by simp [St.start] at h⟩, ?_, Nat.le_refl _, fun t h => by simp [St.start] at h⟩
        have := (MapAt.made (w.alloc (.cells zero16 60))).below (al _ (.cells #[.string ⟨#[]⟩, .int .i64 0, .int .i64 0, .slice none 0 0, .bool false, .bool false, .bool false, .bool false, .bool false, .bool false, .bool false, .bool false, .bool false, .map (some (w.heap.size + 1)), .slice none 0 0, .slice none 0 0] 60))
        rw [show (w.alloc (.cells zero16 60)).heap.size = w.heap.size + 1 from by simp] at this
        rw [show St.start.tasks = [] from rfl, nameI_nil]
        exact this
    · exact keep_obj (al _ _) (keep_obj (al _ _) (heap_alloc_new w _))
  case round =>
    obtain ⟨k, s, hk, rfl, hb, hD, hR, hf, ht, hlk⟩ := hrel
    by_cases hlt : k < ls.length
    · obtain ⟨l, hl⟩ : ∃ l, ls[k]? = some l := ⟨_, List.getElem?_eq_getElem hlt⟩
      obtain ⟨b, off, rfl, hc⟩ := (HL.out.below hb) k l hl
      have hll := HS.out l (List.mem_of_getElem? hl)
      have HF := Lib.hid (hf.out.trans (feed_step hl))
      have hbs : w.heap.size + 1 ≤ wr.heap.size := by
        obtain ⟨_, _, _, _, _, _, _, hDD, _⟩ := hD.out.ex
        have := Dag.blk_lt hDD; omega
      clear hl hf
      go_wp2_with fail
      refine (Txt.words_any (sb l) _ (by rw [sb_size]; omega) (HTB.out _ hb)).mono ?_
      rintro e w1 ⟨⟨A1, c1, zs, rfl, hS1, hz, hlz, hd⟩, hb1⟩
      rw [show Txt.lst (sb l) = l from sb_list l] at hz ⊢
      have HW1 := Lib.hid (words_of hS1 hz hlz hd)
      have HZL := Lib.hid (show zs.length = (wordsV l).length from by rw [← hz, List.length_map])
      have HD1 := Lib.hid (hD.out.below hb1)
      have HR1 := Lib.hid (keep_obj hb1 hR.out)
      have HB1 := Lib.hid (blw hb hb1)
      have hlr1 := Dag.blk_lt HR1.out
      clear hS1 hz hlz hd hb1 hD hR
      have hm1 : (wordsV l).length ≤ 60001 := by
        unfold wordsV
        split
        · exact Nat.le_trans (Txt.wordsA_len l []) (by omega)
        · simp
      have HMW : Hid (∀ x ∈ wordsV l, x.length ≤ 1100000) := Lib.hid fun x hx => Nat.le_trans (wordsV_mem hx) (by omega)
      obtain ⟨m, hm⟩ : ∃ m, zs.length = m := ⟨_, rfl⟩
      rw [hm]
      rw [hm] at HZL
      clear hm
      by_cases he : wordsE l = 0
      · have hebt : (wordsE l == 0) = true := by simp [he]
        rw [he]
        cases hwv : wordsV l with
        | nil =>
          have hm0 : m = 0 := by have := HZL.out; rw [hwv] at this; simpa using this
          subst hm0
          have HF2 := Lib.hid (show feed St.start 0 ls = feed s (k + 1) (ls.drop (k + 1)) from by rw [HF.out, lineSt_nil he hwv])
          clear hwv he hebt
          go_wp2
          go_roundw
          case rel => exact ⟨k + 1, s, by omega, by go_num, HB1.out, HD1, HR1, HF2, by omega, by omega⟩
          case measure => simp [intOf]; omega
        | cons h t =>
          have hm0 : t.length + 1 = m := by have := HZL.out; rw [hwv] at this; simpa using this.symm
          have HLS := Lib.hid (lineSt_cons (s := s) he hwv)
          have HWW := Lib.hid (show Words w1 A1 c1 (h :: t) from by rw [← hwv]; exact HW1.out)
          have HMM := Lib.hid (show ∀ x ∈ h :: t, x.length ≤ 1100000 from by rw [← hwv]; exact HMW.out)
          have hm5 : m ≤ 60001 := by have := HZL.out; omega
          have hmne : ((m : Int) == 0) = false := by rw [beq_eq_false_iff_ne]; omega
          have hbs1 : w.heap.size + 1 ≤ w1.heap.size := by omega
          clear hwv he hebt
          go_wp2_with fail
          refine (add_any s h t m hm0 (by omega) _ (w.heap.size + 1) (w.heap.size + 1 + 1) HD1.out A1 c1 HWW.out HMM.out hbs1 (fun w' hb' => HSB.out _ (HB1.out.trans (hb'.mono (by omega)))) (fun w' hb' => HTB.out _ (HB1.out.trans (hb'.mono (by omega)))) (by omega) (by omega) (by omega)).mono ?_
          rintro e w2 ⟨x, s', rfl, hD2, hb2, hr⟩
          have HB2 := Lib.hid (HB1.out.trans (hb2.mono (by omega)))
          have HR2 := Lib.hid ((hb2.block w.heap.size (by omega)).trans HR1.out)
          have HD2 := Lib.hid hD2
          have hlr2 := Dag.blk_lt HR2.out
          clear hb2 hD2
          cases ha : addW s h t with
          | ok s2 =>
            rw [ha] at hr
            obtain ⟨rfl, rfl⟩ := hr
            obtain ⟨q1, q2⟩ := addW_more ha
            have HF2 := Lib.hid (show feed St.start 0 ls = feed s' (k + 1) (ls.drop (k + 1)) from by rw [HF.out, HLS.out, ha])
            clear ha
            go_wp2
            go_roundw
            case rel => exact ⟨k + 1, s', by omega, by go_num, HB2.out, HD2, HR2, HF2, by omega, by omega⟩
            case measure => simp [intOf]; omega
          | error y =>
            rw [ha] at hr
            obtain ⟨rfl, hx0⟩ := hr
            have HF2 := Lib.hid (show feed St.start 0 ls = .inl (k + 1, x) from by rw [HF.out, HLS.out, ha])
            have hxn : (x != 0) = true := by simp [hx0]
            have hk1 : IntKind.i64.wrap ((k : Int) + 1) = ((k + 1 : Nat) : Int) := by rw [IntKind.wrap_i64]; omega
            clear ha
            obtain ⟨TA, tc, HA, hc', LA, lc, M, hDD, hPP⟩ := HD2.out.ex
            have HDD := Lib.hid hDD
            clear hDD hPP
            go_wp2_with (first
              | (refine wpList_loadA rfl 60 _ rfl (w.heap.size + 1 + 1) _ _ rfl HDD.out _ Tryz.underlying60 rfl info_draft ?_)
              | (refine wpList_storeA rfl 60 _ _ rfl w.heap.size _ zero16 _ rfl rfl HR2.out rfl info_draft (draftC_one _ _ _ _ _ _ _ _) ?_; intro w3 hp3; have HP3 := Lib.hid hp3; clear hp3))
            simp only [Exit.noGoto]
            refine bodyPost_ret (results_cell3 rfl _ rfl HP3.out.blk _ Tryz.underlying60 rfl info_draft) rfl ?_
            refine ⟨HP3.out.below HB2.out (Nat.le_refl _), ?_⟩
            rw [HF2.out]
            exact ⟨s', TA, tc, HA, hc', LA, lc, M, by rw [show ((k + 1 : Nat) : Int) = (k : Int) + 1 from by omega]; rfl, hx0⟩
      · have hebt : (wordsE l == 0) = false := by simp [he]
        have hxn : (wordsE l != 0) = true := by simp [he]
        have HF2 := Lib.hid (show feed St.start 0 ls = .inl (k + 1, wordsE l) from by rw [HF.out, lineSt_err he])
        have hk1 : IntKind.i64.wrap ((k : Int) + 1) = ((k + 1 : Nat) : Int) := by rw [IntKind.wrap_i64]; omega
        have HE0 := Lib.hid he
        clear he
        obtain ⟨TA, tc, HA, hc', LA, lc, M, hDD, hPP⟩ := HD1.out.ex
        have HDD := Lib.hid hDD
        clear hDD hPP
        go_wp2_with (first
          | (refine wpList_loadA rfl 60 _ rfl (w.heap.size + 1 + 1) _ _ rfl HDD.out _ Tryz.underlying60 rfl info_draft ?_)
          | (refine wpList_storeA rfl 60 _ _ rfl w.heap.size _ zero16 _ rfl rfl HR1.out rfl info_draft (draftC_one _ _ _ _ _ _ _ _) ?_; intro w3 hp3; have HP3 := Lib.hid hp3; clear hp3))
        simp only [Exit.noGoto]
        refine bodyPost_ret (results_cell3 rfl _ rfl HP3.out.blk _ Tryz.underlying60 rfl info_draft) rfl ?_
        refine ⟨HP3.out.below HB1.out (Nat.le_refl _), ?_⟩
        rw [HF2.out]
        exact ⟨s, TA, tc, HA, hc', LA, lc, M, by rw [show ((k + 1 : Nat) : Int) = (k : Int) + 1 from by omega]; rfl, HE0.out⟩
    · have HF2 := Lib.hid (show feed St.start 0 ls = .inr s from by rw [hf.out, feed_end hlt])
      obtain ⟨TA, tc, HA, hc', LA, lc, M, hDD, hPP⟩ := hD.out.ex
      have HDD := Lib.hid hDD
      have HPP := Lib.hid hPP
      have hlr := Dag.blk_lt hR.out
      clear hDD hPP
      go_wp2_with (first
        | (refine wpList_loadA rfl 60 _ rfl (w.heap.size + 1 + 1) _ _ rfl HDD.out _ Tryz.underlying60 rfl info_draft ?_)
        | (refine wpList_storeA rfl 60 _ _ rfl w.heap.size _ zero16 _ rfl rfl hR.out rfl info_draft (draftC_one _ _ _ _ _ _ _ _) ?_; intro w3 hp3; have HP3 := Lib.hid hp3; clear hp3))
      simp only [Exit.noGoto]
      refine bodyPost_ret (results_cell3 rfl _ rfl HP3.out.blk _ Tryz.underlying60 rfl info_draft) rfl ?_
      refine ⟨HP3.out.below hb (Nat.le_refl _), ?_⟩
      rw [HF2.out]
      refine ⟨TA, tc, HA, hc', LA, lc, M, w.heap.size + 1, rfl, HPP.out.keep (fun ty hty b cs hbb => HP3.out.other b ?_) (fun b es n hbb => HP3.out.other b ?_), by omega⟩
      · refine ty_ne hbb hR.out ?_
        rintro rfl
        revert hty
        decide
      · intro e; subst e; rw [hR.out] at hbb; cases hbb

end Go.Proofs.YtkcijibkloamkaaGreatDoor

