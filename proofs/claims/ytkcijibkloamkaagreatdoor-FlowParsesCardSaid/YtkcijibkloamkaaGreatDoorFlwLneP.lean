/- One line of the document's Parse, beside the program's: in plain words. No program. -/
import Derived.Test.YtkcijibkloamkaaGreatDoorFlwRTask
import Derived.Test.YtkcijibkloamkaaGreatDoorFlwLnkP
namespace Go.Proofs.YtkcijibkloamkaaGreatDoor
open Go.RowKit
open Txt (nameD sameS wordsE wordsV)
open Clk (readE readV)
set_option linter.unusedVariables false
set_option maxRecDepth 100000

theorem ln_err {s : St} {l : List UInt8} (h : wordsE l ≠ 0) : lineSt s l = .error (wordsE l) := by unfold lineSt; rw [if_pos h]
theorem ln_none {s : St} {l : List UInt8} (h : wordsE l = 0) (hv : wordsV l = []) : lineSt s l = .ok s := by unfold lineSt; rw [if_neg (fun e => e h), hv]
theorem ln_word {s : St} {l a : List UInt8} {t : List (List UInt8)} (h : wordsE l = 0) (hv : wordsV l = a :: t) : lineSt s l = addW s a t := by unfold lineSt; rw [if_neg (fun e => e h), hv]
theorem addW_none {s : St} {h : List UInt8} {t : List (List UInt8)} (hc : classD h t = none) : addW s h t = .error 50 := by unfold addW; rw [hc]
theorem addW_some {s : St} {h : List UInt8} {t x : List (List UInt8)} {k : Nat} (hc : classD h t = some (k, x)) : addW s h t = addSt s k x := by unfold addW; rw [hc]
theorem addSt_no {s : St} {k : Nat} {x : List (List UInt8)} (hk : k ≠ 0) (hh : s.had 0 = false) : addSt s k x = .error 50 := by unfold addSt; rw [if_pos ⟨hk, hh⟩]
theorem lineW_none {h : List UInt8} {t : List (List UInt8)} (hc : classD h t = none) : lineKw (h :: t) = [] ∧ lineWs (h :: t) = [] ∧ lineE (h :: t) = 50 := by
  unfold lineKw lineWs lineE; simp only [hc, and_self]
theorem lineW_some {h : List UInt8} {t x : List (List UInt8)} {k : Nat} (hc : classD h t = some (k, x)) : lineKw (h :: t) = kwB k ∧ lineWs (h :: t) = x ∧ lineE (h :: t) = 0 := by
  unfold lineKw lineWs lineE; simp only [hc, and_self]
theorem classD_lt {h : List UInt8} {t x : List (List UInt8)} {k : Nat} (hc : classD h t = some (k, x)) : k < 9 := by
  unfold classD at hc
  split at hc
  · cases hc
  · cases hf : famD t with
    | none => rw [hf] at hc; cases hc
    | some y => rw [hf] at hc; injection hc with hc; injection hc with e1 e2; omega
  · split at hc
    · rename_i k' e _ _
      injection hc with hc; injection hc with e1 e2; subst e1; exact (keyOf_lt (by assumption)).1
    · cases hc

theorem at_name {s : St} {a : List UInt8} {v : Nat} (hf : findI s.flow.tasks a = (v : Int)) : a ∈ namesP s.tasks ∧ (namesP s.tasks).idxOf a = v ∧ ∃ p, s.tasks[v]? = some p ∧ p.name = a := by
  unfold findI at hf
  rw [flow_nms] at hf
  by_cases h : a ∈ namesP s.tasks
  · rw [if_pos h] at hf
    have hv : (namesP s.tasks).idxOf a = v := by omega
    have hlt := List.idxOf_lt_length_of_mem h
    have hl2 : (namesP s.tasks).idxOf a < s.tasks.length := by simpa [namesP] using hlt
    refine ⟨h, hv, s.tasks[(namesP s.tasks).idxOf a], ?_, ?_⟩
    · rw [← hv]; exact List.getElem?_eq_getElem hl2
    · have e : (namesP s.tasks)[(namesP s.tasks).idxOf a] = (s.tasks[(namesP s.tasks).idxOf a]).name := List.getElem_map _
      exact e.symm.trans (List.getElem_idxOf hlt)
  · rw [if_neg h] at hf; omega
theorem task_bad0 {s : St} {a : List UInt8} {r : List (List UInt8)} {k : Nat} (h : a ∉ names s.flow.tasks) : taskSt s k a r = .error 52 := by
  rw [flow_nms] at h
  unfold taskSt
  rw [if_neg h]
theorem task_at {s : St} {a : List UInt8} {r : List (List UInt8)} {k v : Nat} {p : TaskP} (h : a ∈ namesP s.tasks) (hv : (namesP s.tasks).idxOf a = v) (hp : s.tasks[v]? = some p) : taskSt s k a r = telSt s k v p r := by
  unfold taskSt
  rw [if_pos h, hv, hp]
theorem task_bad1 {s : St} {H : List (List UInt8)} (hR : Rl H s) {a : List UInt8} {r : List (List UInt8)} {k : Nat} (hk : 4 ≤ k ∧ k ≤ 7) (h : a ∈ names s.flow.tasks) (ht : tag k a ∈ H) : taskSt s k a r = .error 51 := by
  have hf : findI s.flow.tasks a = (((names s.flow.tasks).idxOf a : Nat) : Int) := by unfold findI; rw [if_pos h]
  obtain ⟨h1, h2, p, h3, h4⟩ := at_name hf
  rw [task_at h1 h2 h3]
  subst h4
  unfold telSt
  rw [if_pos ((hR.ht p (List.mem_of_getElem? h3) k hk.1 hk.2).1 ht)]
theorem put_full (p : TaskP) (k : Nat) (hk : 4 ≤ k ∧ k ≤ 7) (x : Int) (links : List (List Nat × List Nat)) (n v : Nat) : ((p.mark k).put k x).full links n v = putD (p.full links n v) k x := by
  obtain ⟨h1, h2⟩ := hk
  have h : k = 4 ∨ k = 5 ∨ k = 6 ∨ k = 7 := by omega
  rcases h with rfl | rfl | rfl | rfl <;> rfl
theorem task_good {s : St} {H : List (List UInt8)} (hR : Rl H s) {a b : List UInt8} {r : List (List UInt8)} {k v : Nat} {t : TaskD} {x E : Int} (hk : 4 ≤ k ∧ k ≤ 7) (htv : s.flow.tasks[v]? = some t) (hf : findI s.flow.tasks a = (v : Int)) (ht : tag k a ∉ H)
    (hb : k ≠ 7 → r[0]? = some b) (hE : E = if k = 7 then 0 else numR (leastN k) (mostN k) b) (hx : x = readV b) :
    (E ≠ 0 → taskSt s k a r = .error E) ∧ (E = 0 → ∃ s', taskSt s k a r = .ok s' ∧ Rl (H ++ [tag k a]) s' ∧ s'.had = s.had ∧ s'.flow = { s.flow with tasks := s.flow.tasks.set v (putD t k x) }) := by
  obtain ⟨h1, h2, p, h3, h4⟩ := at_name hf
  rw [task_at h1 h2 h3]
  subst h4
  have htold : p.told k = false := by
    cases hh : p.told k with
    | false => rfl
    | true => exact absurd ((hR.ht p (List.mem_of_getElem? h3) k hk.1 hk.2).2 hh) ht
  have htp : t = p.full s.links s.tasks.length v := by
    rw [flow_at, h3] at htv
    injection htv with htv
    exact htv.symm
  have key : ∀ y : Int, ∃ s', (Except.ok { s with tasks := s.tasks.set v ((p.mark k).put k y) } : Except Int St) = .ok s' ∧ Rl (H ++ [tag k p.name]) s' ∧ s'.had = s.had ∧ s'.flow = { s.flow with tasks := s.flow.tasks.set v (putD t k y) } := fun y => by
    refine ⟨_, rfl, hR.tell h3 hk y, rfl, ?_⟩
    rw [flow_set h3, put_full p k hk, ← htp]
  by_cases h7 : k = 7
  · subst h7
    rw [if_pos rfl] at hE
    subst hE
    refine ⟨fun e => absurd rfl e, fun _ => ?_⟩
    unfold telSt
    rw [if_neg (by rw [htold]; decide), if_pos rfl]
    exact key x
  · rw [if_neg h7] at hE
    have hb' := hb h7
    cases r with
    | nil => simp at hb'
    | cons b' r' =>
      simp only [List.getElem?_cons_zero, Option.some.injEq] at hb'
      subst hb' hx
      have hte : telSt s k v p (b' :: r') = if numE k b' ≠ 0 then .error (numE k b') else .ok { s with tasks := s.tasks.set v ((p.mark k).put k (readV b')) } := by
        unfold telSt
        rw [if_neg (by rw [htold]; decide), if_neg h7]
      have hnE : E = numE k b' := hE
      rw [hte, ← hnE]
      refine ⟨fun h => if_pos h, fun h => ?_⟩
      rw [if_neg (fun e => e h)]
      exact key _
theorem idxs_all {ns l : List (List UInt8)} (h : ∀ s ∈ l, s ∈ ns) : idxs ns l = some (l.map fun s => ns.idxOf s) := by
  unfold idxs
  rw [if_pos]
  rw [List.all_eq_true]
  exact fun s hs => decide_eq_true (h s hs)
theorem idxs_no {ns l : List (List UInt8)} {s : List UInt8} (hs : s ∈ l) (h : s ∉ ns) : idxs ns l = none := by
  unfold idxs
  rw [if_neg]
  rw [List.all_eq_true]
  exact fun e => h (of_decide_eq_true (e s hs))
/-- the words of a PARENT line, cut at CHILD -/
theorem fam_cut {t x : List (List UInt8)} (hf : famD t = some x) : ∃ ps cs, x = ps ++ childW :: cs ∧ childW ∉ ps ∧ childW ∉ cs ∧ x.take (x.idxOf childW) = ps ∧ x.drop (x.idxOf childW + 1) = cs := by
  obtain ⟨q, hq, h0, h1, hxl, hx⟩ := fam_idx hf
  obtain ⟨q2, hq2, _, _, ha, hx2, _⟩ := famD_some hf
  have hql : q < x.length := by omega
  have hc : x[q] = childW := by
    have hlt : x.idxOf childW < x.length := by omega
    have := List.getElem_idxOf hlt
    simp only [hq] at this
    exact this
  have hqq : q2 = q := by
    have hlt : q2 < t.length := by omega
    by_cases e : q2 = q
    · exact e
    · exfalso
      -- the word at q2 of x is CHILD, and none ahead of q is; so q ≤ q2; the other way round likewise
      have c2 : x[q2]? = some childW := by rw [hx2, List.getElem?_set_self hlt]
      have hle : q ≤ q2 := by
        rcases Nat.lt_or_ge q2 q with h | h
        · exfalso
          have hlt2 : q2 < x.length := by omega
          rw [List.getElem?_eq_getElem hlt2] at c2
          injection c2 with c2
          have h5 := List.not_of_lt_findIdx (p := (· == childW)) (xs := x) (i := q2) (by unfold List.idxOf at hq; omega)
          rw [c2] at h5
          simp at h5
        · exact h
      have c1 : x[q]? = some childW := by rw [List.getElem?_eq_getElem hql, hc]
      rw [hx2, List.getElem?_set_ne e] at c1
      have h6 := List.not_of_lt_findIdx (p := isChild) (xs := t) (i := q) (by omega)
      have hqt : q < t.length := by omega
      rw [List.getElem?_eq_getElem hqt] at c1
      injection c1 with c1
      rw [c1, isChild_self] at h6
      exact absurd h6 (by decide)
  subst hqq
  refine ⟨x.take q2, x.drop (q2 + 1), ?_, ?_, ?_, by rw [hq], by rw [hq]⟩
  · conv => lhs; rw [← List.take_append_drop q2 x, List.drop_eq_getElem_cons hql, hc]
  · intro hm
    obtain ⟨j, hj⟩ := List.getElem?_of_mem hm
    rw [List.getElem?_take] at hj
    split at hj
    · rename_i hjq
      have hjl : j < x.length := by omega
      rw [List.getElem?_eq_getElem hjl] at hj
      injection hj with hj
      have h5 := List.not_of_lt_findIdx (p := (· == childW)) (xs := x) (i := j) (by unfold List.idxOf at hq; omega)
      rw [hj] at h5
      simp at h5
    · cases hj
  · intro hm
    have e : x.drop (q2 + 1) = t.drop (q2 + 1) := by rw [hx, List.drop_set_of_lt (by omega)]
    rw [e] at hm
    rw [List.any_eq_false] at ha
    have := ha _ hm
    rw [isChild_self] at this
    exact absurd rfl this
theorem par_bad {s : St} {x ps cs : List (List UInt8)} (h1 : x.take (x.idxOf childW) = ps) (h2 : x.drop (x.idxOf childW + 1) = cs) (h : ∃ y ∈ ps ++ cs, y ∉ names s.flow.tasks) : parSt s x = .error 52 := by
  obtain ⟨y, hy, hn⟩ := h
  rw [flow_nms] at hn
  unfold parSt
  rw [h1, h2]
  rcases List.mem_append.1 hy with hy | hy
  · rw [idxs_no hy hn]
  · rw [idxs_no hy hn]
    cases idxs (namesP s.tasks) ps <;> rfl
theorem par_good {s : St} {x ps cs : List (List UInt8)} (h1 : x.take (x.idxOf childW) = ps) (h2 : x.drop (x.idxOf childW + 1) = cs) (h : ∀ y ∈ ps ++ cs, y ∈ names s.flow.tasks) :
    ∃ k, parSt s x = .ok { s with links := s.links ++ [k] } ∧ ({ s with links := s.links ++ [k] } : St).flow = { s.flow with tasks := (cs.map fun y => (names s.flow.tasks).idxOf y).foldl (linkOne (ps.map fun y => (names s.flow.tasks).idxOf y)) s.flow.tasks } := by
  have h' : ∀ y ∈ ps ++ cs, y ∈ namesP s.tasks := fun y hy => by have := h y hy; rwa [flow_nms] at this
  refine ⟨(ps.map fun y => (namesP s.tasks).idxOf y, cs.map fun y => (namesP s.tasks).idxOf y), ?_, ?_⟩
  · unfold parSt
    rw [h1, h2, idxs_all (fun y hy => h' y (List.mem_append_left _ hy)), idxs_all (fun y hy => h' y (List.mem_append_right _ hy))]
  · rw [flow_links, flow_nms]

/-- a text read behind a store of such a row: the same, even if it were the row's own -/
theorem rO_str {w w4 : World} {g bw ow : Nat} {F : FlowD} {A A' : Option Addr} {c c' : Nat} {nm nm' : Bool} {HA HA' : Option Addr} {hn hn' hc hc' : Nat} {E E' : Int} {s : ByteArray} (h : w.heap[g]? = some (rO F A c nm HA hn hc E)) (h4 : w4.heap[g]? = some (rO F A' c' nm' HA' hn' hc' E'))
    (ho : ∀ b, b ≠ g → w4.heap[b]? = w.heap[b]?) (hs : w.cell? ⟨bw, ow, none⟩ = some (.string s)) : w4.cell? ⟨bw, ow, none⟩ = some (.string s) := by
  by_cases e : bw = g
  · subst e
    unfold rO at h h4
    rw [Dag.blk_cell h ow] at hs
    rw [Dag.blk_cell h4 ow]
    match ow, hs with
    | 0, hs => exact hs
    | 1, hs => simp at hs
    | 2, hs => simp at hs
    | 3, hs => simp at hs
    | 4, hs => simp at hs
    | 5, hs => simp at hs
    | 6, hs => simp at hs
    | n + 7, hs => simp at hs
  · exact (cell_keep (p := ⟨bw, ow, none⟩) (ho bw e)).trans hs
theorem kept_putR3 {w w' : World} {b : Nat} {cs cur : Array Value} (hp : PutA w w' b cs 67) (hb : w.heap[b]? = some (Obj.cells cur 67 (0, 0))) : Kept [9, 48, 3] w w' := fun ty hty k cs' hk => hp.other k (ty_ne hk hb (by
  rintro rfl
  revert hty
  decide))
theorem OwnN.below {w w' : World} {base sz n c : Nat} {e : TypeId} {A : Option Addr} {us : List Value} (h : OwnN w base e sz A n c us) (hb : Below w.heap.size w w') : OwnN w' base e sz A n c us := h.keep fun b cs hc => hb.block b (Dag.blk_lt hc)
/-- append of a list of tasks onto nothing -/
theorem wpList_tasks {w : World} {ops : Array Oper} {rest : List Oper} {o : Oper} {a : Act} {Q : Exit → Act → World → Prop} (hgd : o.guard = none) (s x : Operand)
    (ho : o.op = .call { callee := .builtin .append, args := #[s, x], argTypes := #[23, 23] }) (hs : a.eval s = .slice none 0 0) (A : Option Addr) (n c : Nat) (L : List TaskA) (hLn : L.length = n) (hx : a.eval x = .slice A n c) (hT : TL w A c L) (hm : n ≤ 1000000)
    (h : ∀ (A' : Option Addr) (c' : Nat) (w' : World), OwnN w' w.heap.size 48 6 A' n c' (flat tkC L) → Below w.heap.size w w' → wpList Tryz.prog ops Q rest (a.put o.dst (.slice A' n c')) w') : wpList Tryz.prog ops Q (o :: rest) a w := by
  obtain ⟨i0, hi0, hz0, hz1, hz2⟩ := info_parts info_task
  have hfl : (flat tkC L).length = n * 6 := by rw [flat_len tkC_len, hLn]
  have hnil : OwnN w w.heap.size 48 6 none 0 0 [] := ⟨rfl, Or.inl ⟨rfl, rfl⟩⟩
  rcases A with _ | ad
  · have hc0 := hT.1.2.2 rfl
    have hL0 : L = [] := List.eq_nil_of_length_eq_zero (by have := hT.1.1; omega)
    subst hL0 hc0
    obtain rfl : n = 0 := by simpa using hLn.symm
    refine wpList_append_own_none hgd s x _ ho w.heap.size _ i0 6 Tryz.underlying23 hi0 (.slice none 0 0) 0 [] hs hnil hx ?_
    exact h none 0 w hnil (Below.refl _ _)
  · refine wpList_append_own_at w hgd s x _ ho w.heap.size _ i0 (.agg #[.string ⟨#[]⟩, .int .i64 0, .int .i64 0, .int .i64 0, .bool false, .slice none 0 0]) 6 72 Tryz.underlying23 hi0 hz0 hz1 hz2 rfl (by decide) (.slice none 0 0) 0 [] hs hnil ad n c (flat tkC L) hx (by rw [hfl]) ?_ (flat_one tkC_one L) (by simp only [maxLen]; omega) (by omega) (Nat.le_refl _) ?_
    · intro j u hu
      obtain ⟨q, i, y, e, hi, hy, hu2⟩ := flat_split tkC_len (by decide) L j u hu
      obtain ⟨b2, off2, ea, hcell⟩ := hT.2.2.2.1 q y hy
      injection ea with ea
      subst ea
      rw [Go.WideShapes.add_plain, e, ← Nat.add_assoc]
      exact hcell i u hu2
    · intro v' w' hown' hg _ hb
      obtain ⟨A9, c9, rfl⟩ : ∃ A9 c9, v' = .slice A9 (0 + n) c9 := by
        rcases hown'.2 with ⟨hv, h0⟩ | ⟨g2, cap, cur, hv, _⟩
        · exact ⟨none, 0, by rw [hv, h0]⟩
        · exact ⟨_, _, hv⟩
      rw [Nat.zero_add] at hown' ⊢
      exact h A9 c9 w' (by simpa using hown') ((Below.refl _ _).grown hg (Nat.le_refl _) fun k hk => by cases hk)
/-- what the document's line answers, beside the program's -/
def RetLn (H : List (List UInt8)) (r : Except Int St) (w : World) (e : Ending) (w' : World) : Prop :=
  Below w.heap.size w w' ∧ match r with
    | .error x => x ≠ 0 ∧ ∃ (F : FlowD) (A : Option Addr) (c : Nat) (nm : Bool) (HA : Option Addr) (hn hc : Nat), e = .returned (.agg #[.string (sb F.name), .int .i64 F.deadline, .int .i64 F.priority, .slice A F.tasks.length c, .bool nm, .slice HA hn hc, .int .i64 x])
    | .ok s' => ∃ (A : Option Addr) (c : Nat) (HA : Option Addr) (hc : Nat) (H' : List (List UInt8)), Rl H' s' ∧ H'.length ≤ H.length + 1 ∧ e = .returned (.agg #[.string (sb s'.flow.name), .int .i64 s'.flow.deadline, .int .i64 s'.flow.priority, .slice A s'.flow.tasks.length c, .bool (s'.had 0), .slice HA H'.length hc, .int .i64 0]) ∧ TT w' A c s'.flow.tasks ∧ Words w' HA hc H' ∧ TypS w' HA
theorem retLn_err {H : List (List UInt8)} {r : Except Int St} {w w' : World} {x : Int} (h : r = .error x) (hx : x ≠ 0) (hb : Below w.heap.size w w') (F : FlowD) (A : Option Addr) (c : Nat) (nm : Bool) (HA : Option Addr) (hn hc : Nat) :
    RetLn H r w (.returned (.agg #[.string (sb F.name), .int .i64 F.deadline, .int .i64 F.priority, .slice A F.tasks.length c, .bool nm, .slice HA hn hc, .int .i64 x])) w' := by
  subst h; exact ⟨hb, hx, F, A, c, nm, HA, hn, hc, rfl⟩
theorem retLn_ok {H H' : List (List UInt8)} {r : Except Int St} {s' : St} {F : FlowD} {w w' : World} (h : r = .ok s') (hF : s'.flow = F) {nm : Bool} (hnm : s'.had 0 = nm) (hR : Rl H' s') {hn : Nat} (hH : H'.length = hn) (hle : hn ≤ H.length + 1) (hb : Below w.heap.size w w') {A : Option Addr} {c : Nat} {HA : Option Addr} {hc : Nat} {n : Nat} (hn2 : F.tasks.length = n) (ht : TT w' A c F.tasks) (hW : Words w' HA hc H' ∧ TypS w' HA) :
    RetLn H r w (.returned (.agg #[.string (sb F.name), .int .i64 F.deadline, .int .i64 F.priority, .slice A n c, .bool nm, .slice HA hn hc, .int .i64 0])) w' := by
  subst h hF hnm hH hn2; exact ⟨hb, A, c, HA, hc, H', hR, hle, rfl, ht, hW⟩
end Go.Proofs.YtkcijibkloamkaaGreatDoor

