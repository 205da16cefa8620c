/- How much there is of a workflow: Size, long. -/
import Derived.Test.YtkicanegjkemoaaDoorFlwTabs
namespace Go.Proofs.YtkicanegjkemoaaDoor
open Go.RowKit
set_option linter.unusedVariables false
set_option maxRecDepth 100000

def sizeT : List TaskD → Nat
  | [] => 0
  | t :: r => 1 + t.name.length + t.after.length + sizeT r
def sizeD (f : FlowD) : Nat := f.name.length + sizeT f.tasks
theorem sizeT_app (a b : List TaskD) : sizeT (a ++ b) = sizeT a + sizeT b := by
  induction a with
  | nil => simp [sizeT]
  | cons x a ih => simp only [List.cons_append, sizeT, ih]; omega
theorem sizeT_snoc {l : List TaskD} {k : Nat} {x : TaskD} (h : l[k]? = some x) : sizeT (l.take (k + 1)) = sizeT (l.take k) + (1 + x.name.length + x.after.length) := by
  rw [List.take_add_one, h, sizeT_app]; simp [sizeT]
theorem sizeT_take {l : List TaskD} (k : Nat) : sizeT (l.take k) ≤ sizeT l := by
  conv => rhs; rw [← List.take_append_drop k l, sizeT_app]
  omega
theorem sizeT_mem {l : List TaskD} {t : TaskD} (h : t ∈ l) : 1 + t.name.length + t.after.length ≤ sizeT l := by
  induction l with
  | nil => simp at h
  | cons x l ih =>
    simp only [sizeT]
    rcases List.mem_cons.1 h with rfl | h
    · omega
    · have := ih h; omega
theorem sizeT_bound : ∀ {l : List TaskD}, (∀ t ∈ l, t.name.length ≤ reachN ∧ t.after.length ≤ reachN) → sizeT l ≤ l.length * (1 + reachN + reachN)
  | [], _ => by simp [sizeT]
  | x :: l, h => by
    have h1 := h x (by simp)
    have h2 := sizeT_bound (l := l) fun t ht => h t (by simp [ht])
    simp only [sizeT, List.length_cons, Nat.add_mul, Nat.one_mul] at h2 ⊢
    omega

set_option maxHeartbeats 1600000 in
theorem size_some (f : FlowD) (A : Option Addr) (c : Nat) (w : World) (h : Tasks w A c f.tasks) :
    Calls Tryd.prog 16 #[.agg #[.string (sb f.name), .int .i64 f.deadline, .int .i64 f.priority, .slice A f.tasks.length c]] w fun e w' => (∃ x, e = .returned (.int .i64 x)) ∧ Below w.heap.size w w' := by
  have hlm := h.lenI
  have H := Lib.hid h; clear h
  go_enter Tryd.func16, Tryd.ntmps16
  go_wp2
  go_loopw [3, 4] (fun n i wr => ∃ (k : Nat) (x : Int), k ≤ f.tasks.length ∧ i = .int .i64 k ∧ n = .int .i64 x ∧ Below w.heap.size w wr ∧ Hid (wr.heap[w.heap.size]? = some (flowO f A c))) (fun _ i _ => f.tasks.length - (intOf i).toNat)
  case atStart => exact ⟨0, _, Nat.zero_le _, rfl, rfl, al _ _, Lib.hid (heap_alloc_new w _)⟩
  case round =>
    obtain ⟨k, x, hk, rfl, rfl, hb, ho⟩ := hrel
    obtain ⟨p0, p1, p2, p3, _⟩ := flowO_cells ho.out
    by_cases hlt : k < f.tasks.length
    · obtain ⟨t, ht⟩ : ∃ t, f.tasks[k]? = some t := ⟨_, List.getElem?_eq_getElem hlt⟩
      obtain ⟨b, off, A', c', rfl, h0, h1, h2, h3, h4, h5, _⟩ := (H.out.below hb).cells k _ ht
      go_wp2
      go_quiet (fail)
      go_wp2
      go_roundw
      case rel => exact ⟨k + 1, _, by omega, by go_num, rfl, blw hb (bdrew _ _), Lib.hid (keep_obj (bdrew _ _) ho.out)⟩
      case measure => simp [intOf]; omega
    · go_wp2
      go_ret
      exact ⟨⟨_, rfl⟩, hb⟩

set_option maxHeartbeats 1600000 in
theorem size_few (f : FlowD) (A : Option Addr) (c : Nat) (w : World) (h : Tasks w A c f.tasks) (hn : f.tasks.length ≤ 30) (hs : Small f) :
    Calls Tryd.prog 16 #[.agg #[.string (sb f.name), .int .i64 f.deadline, .int .i64 f.priority, .slice A f.tasks.length c]] w fun e w' => e = .returned (.int .i64 (sizeD f : Nat)) ∧ Below w.heap.size w w' := by
  have hsb : sizeT f.tasks ≤ 30 * (1 + reachN + reachN) := Nat.le_trans (sizeT_bound hs.2) (Nat.mul_le_mul_right _ hn)
  have HN := Lib.hid hs.2
  have H := Lib.hid h
  have hm : reachN ≤ 140737488355328 := by decide
  have hsb2 : sizeT f.tasks ≤ 8444249301319740 + 30 := by omega
  have hl := hs.1
  have HSB := Lib.hid hsb2; have HM := Lib.hid hm; have HL := Lib.hid (Nat.le_trans hl hm)
  clear h hs
  clear hsb hsb2 hl hm
  go_enter Tryd.func16, Tryd.ntmps16
  go_wp2
  go_loopw [3, 4] (fun n i wr => ∃ (k x : Nat), k ≤ f.tasks.length ∧ i = .int .i64 k ∧ n = .int .i64 (x : Int) ∧ x = f.name.length + sizeT (f.tasks.take k) ∧ Below w.heap.size w wr ∧ Hid (wr.heap[w.heap.size]? = some (flowO f A c))) (fun _ i _ => f.tasks.length - (intOf i).toNat)
  case atStart => exact ⟨0, f.name.length, Nat.zero_le _, rfl, by rw [sb_size], by simp [sizeT], al _ _, Lib.hid (heap_alloc_new w _)⟩
  case round =>
    obtain ⟨k, x, hk, rfl, rfl, hx, hb, ho⟩ := hrel
    obtain ⟨p0, p1, p2, p3, _⟩ := flowO_cells ho.out
    have hxb : x ≤ 8584986789675098 := by have := HL.out; have := HSB.out; have := sizeT_take (l := f.tasks) k; omega
    by_cases hlt : k < f.tasks.length
    · obtain ⟨t, ht⟩ : ∃ t, f.tasks[k]? = some t := ⟨_, List.getElem?_eq_getElem hlt⟩
      obtain ⟨b, off, A', c', rfl, h0, h1, h2, h3, h4, h5, _⟩ := (H.out.below hb).cells k _ ht
      obtain ⟨hn1, hn2⟩ := HN.out t (List.mem_of_getElem? ht)
      have hn3 : (sb t.name).size ≤ 140737488355328 := by rw [sb_size]; exact Nat.le_trans hn1 HM.out
      have hn4 : t.after.length ≤ 140737488355328 := Nat.le_trans hn2 HM.out
      have HX := Lib.hid hx
      have HS := Lib.hid (sizeT_snoc ht)
      clear hx hn1 hn2 ht
      go_wp2
      go_quiet (fail)
      go_wp2
      go_roundw
      case rel => exact ⟨k + 1, x + 1 + t.name.length + t.after.length, by omega, by go_num, by rw [sb_size]; go_num, by rw [HS.out, HX.out]; omega, blw hb (bdrew _ _), Lib.hid (keep_obj (bdrew _ _) ho.out)⟩
      case measure => simp [intOf]; omega
    · obtain rfl : k = f.tasks.length := by omega
      rw [List.take_length] at hx
      go_wp2
      go_ret
      exact ⟨by rw [hx]; rfl, hb⟩

/-- long: is there more of it than is looked at -/
def longD (f : FlowD) : Bool := decide (30 < f.tasks.length ∨ 500 < sizeD f)
theorem longD_no {f : FlowD} (h : longD f = false) : f.tasks.length ≤ 30 ∧ sizeD f ≤ 500 := by
  unfold longD at h
  have := of_decide_eq_false h
  omega
theorem longD_names {f : FlowD} (h : longD f = false) : f.name.length ≤ 500 ∧ ∀ t ∈ f.tasks, t.name.length ≤ 500 ∧ t.after.length ≤ 500 := by
  obtain ⟨_, h2⟩ := longD_no h
  unfold sizeD at h2
  refine ⟨by omega, fun t ht => ?_⟩
  have := sizeT_mem ht
  omega
theorem ret_or {a b c : Bool} (h : (a || b) = c) : Ending.returned (.bool (a || b)) = Ending.returned (.bool c) := by rw [h]
end Go.Proofs.YtkicanegjkemoaaDoor

/- Of the document's: Find, After, numbers. -/
namespace Go.Proofs.YtkicanegjkemoaaDoor
open Go.RowKit
open Dag (Ints IRows Own1 Sl)
open Clk (isT)
set_option linter.unusedVariables false
set_option maxRecDepth 100000

def findI (ts : List TaskD) (s : List UInt8) : Int := if s ∈ names ts then ((names ts).idxOf s : Int) else -1
theorem findI_at {ts : List TaskD} {k : Nat} {t : TaskD} {s : List UInt8} (h : ts[k]? = some t) (e : t.name = s) (hn : s ∉ names (ts.take k)) : findI ts s = k := by
  obtain ⟨hk, he⟩ := List.getElem?_eq_some_iff.1 h
  have hs : ts = ts.take k ++ t :: ts.drop (k + 1) := by rw [← he, ← List.drop_eq_getElem_cons hk, List.take_append_drop]
  have hm : names ts = names (ts.take k) ++ s :: names (ts.drop (k + 1)) := by
    conv => lhs; rw [hs]
    simp [names, e]
  unfold findI
  rw [if_pos (by rw [hm]; simp), hm, List.idxOf_append, if_neg hn]
  simp only [List.idxOf_cons_self, names, List.length_map, List.length_take]
  omega
theorem findI_none {ts : List TaskD} {s : List UInt8} (hn : s ∉ names ts) : findI ts s = -1 := if_neg hn
theorem bne_list {a b : List UInt8} (h : a ≠ b) : ((sb a).toList == (sb b).toList) = false := by rw [sb_toList, sb_toList, beq_eq_false_iff_ne]; exact h
theorem beq_list {a b : List UInt8} (h : a = b) : ((sb a).toList == (sb b).toList) = true := by rw [h]; simp
theorem names_snoc {ts : List TaskD} {k : Nat} {t : TaskD} {s : List UInt8} (h : ts[k]? = some t) (hn : s ∉ names (ts.take k)) (hne : t.name ≠ s) : s ∉ names (ts.take (k + 1)) := by
  rw [names_take h, List.mem_append]
  rintro (h | h)
  · exact hn h
  · simp at h; exact hne h.symm

set_option maxHeartbeats 1600000 in
theorem rfind_any (f : FlowD) (A : Option Addr) (c : Nat) (w : World) (h : Tasks w A c f.tasks) (s : List UInt8) :
    Calls Tryd.prog 35 #[.agg #[.string (sb f.name), .int .i64 f.deadline, .int .i64 f.priority, .slice A f.tasks.length c], .string (sb s)] w fun e w' => e = .returned (.int .i64 (findI f.tasks s)) ∧ Below w.heap.size w w' := by
  have hlm := h.lenI
  have H := Lib.hid h; clear h
  go_enter Tryd.func35, Tryd.ntmps35
  go_wp2
  go_loopw [5] (fun i wr => ∃ (k : Nat), k ≤ f.tasks.length ∧ i = .int .i64 k ∧ Below w.heap.size w wr ∧ Hid (wr.heap[w.heap.size]? = some (flowO f A c)) ∧ Hid (s ∉ names (f.tasks.take k))) (fun i _ => f.tasks.length - (intOf i).toNat)
  case atStart => exact ⟨0, Nat.zero_le _, rfl, al _ _, Lib.hid (heap_alloc_new w _), Lib.hid (by simp [names])⟩
  case round =>
    obtain ⟨k, hk, rfl, hb, ho, hn⟩ := hrel
    obtain ⟨p0, p1, p2, p3, _⟩ := flowO_cells ho.out
    by_cases hlt : k < f.tasks.length
    · obtain ⟨t, ht⟩ : ∃ t, f.tasks[k]? = some t := ⟨_, List.getElem?_eq_getElem hlt⟩
      obtain ⟨b, off, A', c', rfl, h0, h1, h2, h3, h4, h5, _⟩ := (H.out.below hb).cells k _ ht
      by_cases hts : t.name = s
      · have hne := beq_list hts
        have HF := Lib.hid (findI_at ht hts hn.out)
        clear hts ht
        go_wp2
        go_ret
        exact ⟨by rw [HF.out]; rfl, hb⟩
      · have hne := bne_list hts
        have HN := Lib.hid (names_snoc ht hn.out hts)
        clear hts ht
        go_wp2
        go_roundw
        case rel => exact ⟨k + 1, by omega, by go_num, hb, ho, HN⟩
        case measure => simp [intOf]; omega
    · obtain rfl : k = f.tasks.length := by omega
      have HF := Lib.hid (findI_none (ts := f.tasks) (s := s) (by have := hn.out; rwa [List.take_length] at this))
      go_wp2
      go_ret
      exact ⟨by rw [HF.out]; rfl, hb⟩

/-- slices that hold the rows, wherever they lie -/
structure Held (w : World) (vs : List Value) (ls : List (List Int)) : Prop where
  len : vs.length = ls.length
  at_ : ∀ (j : Nat) xs, ls[j]? = some xs → ∃ A c, vs[j]? = some (.slice A xs.length c) ∧ Ints w A c xs
theorem Held.below {w w' : World} {vs : List Value} {ls : List (List Int)} (h : Held w vs ls) (hb : Below w.heap.size w w') : Held w' vs ls :=
  ⟨h.len, fun j xs hx => by obtain ⟨A, c, e, hi⟩ := h.at_ j xs hx; exact ⟨A, c, e, hi.below hb⟩⟩
theorem Held.snoc {w : World} {vs : List Value} {ls : List (List Int)} (h : Held w vs ls) {A : Option Addr} {c : Nat} {xs : List Int} (hi : Ints w A c xs) : Held w (vs ++ [.slice A xs.length c]) (ls ++ [xs]) := by
  refine ⟨by simp [h.len], fun j ys hj => ?_⟩
  rcases Nat.lt_or_ge j ls.length with hl | hl
  · rw [List.getElem?_append_left hl] at hj
    obtain ⟨A1, c1, e, h1⟩ := h.at_ j ys hj
    exact ⟨A1, c1, by rw [List.getElem?_append_left (by rw [h.len]; exact hl)]; exact e, h1⟩
  · rw [List.getElem?_append_right hl] at hj
    obtain hz : j - ls.length = 0 := by
      have := (List.getElem?_eq_some_iff.1 hj).1
      simp at this; omega
    rw [hz] at hj
    simp at hj
    subst hj
    exact ⟨A, c, by rw [List.getElem?_append_right (by rw [h.len]; exact hl), h.len, hz]; rfl, hi⟩
theorem Held.rows {w : World} {base n c : Nat} {A : Option Addr} {vs : List Value} {ls : List (List Int)} (h : Held w vs ls) (ho : Own1 w base 41 (.slice A n c) vs) : IRows w A c ls := by
  obtain ⟨hn, hs⟩ := Own1.sl ho
  refine ⟨fun k xs hk => ?_, by rw [← h.len]; exact hs.cap, hs.top, hs.nil⟩
  obtain ⟨A', c', e, hi⟩ := h.at_ k xs hk
  obtain ⟨b, off, e2, hc⟩ := hs.cells k _ e
  exact ⟨b, off, A', c', e2, hc, hi⟩
theorem afterL_snoc {ts : List TaskD} {k : Nat} {t : TaskD} (h : ts[k]? = some t) : afterL (ts.take (k + 1)) = afterL (ts.take k) ++ [t.after] := by
  unfold afterL
  rw [List.take_add_one, h]; simp

set_option maxHeartbeats 1600000 in
theorem rafter_any (f : FlowD) (A : Option Addr) (c : Nat) (w : World) (h : Tasks w A c f.tasks) (hn : f.tasks.length ≤ 1000000) :
    Calls Tryd.prog 37 #[.agg #[.string (sb f.name), .int .i64 f.deadline, .int .i64 f.priority, .slice A f.tasks.length c]] w fun e w' => ∃ A' c', e = .returned (.slice A' f.tasks.length c') ∧ IRows w' A' c' (afterL f.tasks) ∧ Below w.heap.size w w' := by
  have hlm := h.lenI
  have H := Lib.hid h; clear h
  go_enter Tryd.func37, Tryd.ntmps37
  go_wp2
  have hW0 := al w (.cells #[.string (sb f.name), .int .i64 f.deadline, .int .i64 f.priority, .slice A f.tasks.length c] 24)
  have hO0 : (w.alloc (.cells #[.string (sb f.name), .int .i64 f.deadline, .int .i64 f.priority, .slice A f.tasks.length c] 24)).heap[w.heap.size]? = some (flowO f A c) := heap_alloc_new w _
  have hs0 : (w.alloc (.cells #[.string (sb f.name), .int .i64 f.deadline, .int .i64 f.priority, .slice A f.tasks.length c] 24)).heap.size = w.heap.size + 1 := by simp
  generalize w.alloc (.cells #[.string (sb f.name), .int .i64 f.deadline, .int .i64 f.priority, .slice A f.tasks.length c] 24) = w0 at hW0 hO0 hs0 ⊢
  have HW0 := Lib.hid hW0; have HO0 := Lib.hid hO0; have HS0 := Lib.hid hs0
  clear hW0 hO0 hs0
  go_loopw [3, 4] (fun o i wr => ∃ (k : Nat) (A' : Option Addr) (c' : Nat) (vs : List Value), k ≤ f.tasks.length ∧ i = .int .i64 k ∧ o = .slice A' k c' ∧ Hid (Below w0.heap.size w0 wr) ∧ Hid (Own1 wr w0.heap.size 41 (.slice A' k c') vs) ∧ Hid (Held w0 vs (afterL (f.tasks.take k)))) (fun _ i _ => f.tasks.length - (intOf i).toNat)
  case atStart => exact ⟨0, none, 0, [], Nat.zero_le _, rfl, rfl, Lib.hid (Below.refl _ _), Lib.hid (Own1.nil _ _ _), Lib.hid ⟨rfl, fun j xs h => by simp [afterL] at h⟩⟩
  case round =>
    obtain ⟨k, A', c', vs, hk, rfl, rfl, HB, HO, HH⟩ := hrel
    obtain ⟨p0, p1, p2, p3, hp⟩ := flowO_cells ((HB.out.block _ (by rw [HS0.out]; omega)).trans HO0.out)
    by_cases hlt : k < f.tasks.length
    · obtain ⟨t, ht⟩ : ∃ t, f.tasks[k]? = some t := ⟨_, List.getElem?_eq_getElem hlt⟩
      obtain ⟨b, off, A3, c3, e3, _, _, _, _, _, g5, hi0⟩ := (H.out.below HW0.out).cells k _ ht
      obtain ⟨b, off, A3, c3, rfl, h0, h1, h2, h3, h4, h5, hi⟩ := ((H.out.below HW0.out).below HB.out).cells k _ ht
      have HI0 : Hid (Held w0 (vs ++ [.slice A3 t.after.length c3]) (afterL (f.tasks.take (k + 1)))) := Lib.hid (by
        rw [afterL_snoc ht]
        refine HH.out.snoc ?_
        injection e3 with e3; injection e3 with e1 e2
        subst e1 e2
        rw [keep_cell HB.out g5] at h5
        injection h5 with h5; injection h5 with h5 h6 h7
        subst h5 h7
        exact hi0)
      have hvl : vs.length = k := by rw [HH.out.len]; simp [afterL]; omega
      have HVL := Lib.hid hvl
      clear hi hi0 ht e3 g5 hvl
      go_wp2_with (at_builtin; refine Dag.wpList_appg rfl _ _ 66 41 (.slice none 0 0) 24 Tryd.underlying66 Dag.info_is rfl (by decide) rfl w0.heap.size (.slice A' k c') vs rfl (by exact HO.out.below (al _ _)) (some ⟨wr.heap.size, 0, none⟩) 1 1 [.slice A3 t.after.length c3] rfl rfl (Sl.one rfl) (by simp [Value.oneCell']) (by rw [HVL.out]; simp; omega) (by have := HB.out.size; simp; omega) ?_; intro l A8 c8 w9 el ho9 hg9 _ hb9; have EL := Lib.hid el; have hll2 : l.length = k + 1 := (by rw [el, List.length_append, HVL.out]; rfl); rw [hll2] at ho9; rw [hll2]; have HO9 := Lib.hid ho9; have HB9 := Lib.hid ((HB.out.trans (((al wr _).mono HB.out.size).trans hb9))); clear ho9 hg9 hb9 el hll2)
      go_roundw
      case rel =>
        refine ⟨k + 1, A8, c8, l, by omega, by go_num, rfl, HB9, HO9, Lib.hid ?_⟩
        rw [EL.out]; exact HI0.out
      case measure => simp [intOf]; omega
    · obtain rfl : k = f.tasks.length := by omega
      have HH1 : Hid (Held w0 vs (afterL f.tasks)) := Lib.hid (by have := HH.out; rwa [List.take_length] at this)
      go_wp2
      go_ret
      exact ⟨A', c', rfl, (HH1.out.below HB.out).rows HO.out, HW0.out.trans (HB.out.mono HW0.out.size)⟩

end Go.Proofs.YtkicanegjkemoaaDoor


