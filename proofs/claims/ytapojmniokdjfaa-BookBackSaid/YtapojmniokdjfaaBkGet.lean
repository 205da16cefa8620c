/- Layer 11: Get. -/
import Derived.Test.YtapojmniokdjfaaBkKn
import Derived.Laws.ResultCell
namespace Go.Proofs.Ytapojmniokdjfaa.Bk
open Go.RowKit Go.Shelf
open Stp (blw al dr drN kp)
set_option linter.unusedVariables false
set_option maxRecDepth 100000
def getV (L : List SlotD) (id : Int) : Value := match fndS id L with
  | some s => .tuple #[.agg #[.int .i64 s.id, .int .i64 s.fm, .int .i64 s.to, .int .i64 s.nd], .bool true]
  | none => .tuple #[.agg #[.int .i64 0, .int .i64 0, .int .i64 0, .int .i64 0], .bool false]
theorem results_cell4 {fn : Func} {t u : Tmp} (h : fn.results = #[.cell t 32, .tmp u]) (tmps : Array Value) {w : World} {b : Nat} {a0 a1 a2 a3 : Value} (ht : tmps.getD t undef = .pointer (some ⟨b, 0, none⟩)) (hb : w.heap[b]? = some (.cells #[a0, a1, a2, a3] 32 (0, 0))) :
    (results fn tmps).run Try.prog w = .ok (.tuple #[.agg #[a0, a1, a2, a3], tmps.getD u undef]) w := by
  obtain ⟨i0, hi0, hz0, hz1, hz2⟩ := info_parts info_slot
  rw [results_cell_tmp h]
  have ht2 : tmps[t]?.getD undef = .pointer (some ⟨b, 0, none⟩) := by simpa using ht
  simp [ht2, asAddr, run_loadVar_row w b 32 32 #[a0, a1, a2, a3] (0, 0) _ hb Try.underlying32 rfl (by rw [hi0, Option.map_some, hz1]; rfl), Result.andThen]
set_option maxHeartbeats 3200000 in
theorem wpList_put4 {w : World} {ops : Array Oper} {rest : List Oper} {op : Oper} {a : Act} {Q : Exit → Act → World → Prop} (hgd : op.guard = none) (x y : Operand) (ho : op.op = .store 32 x y)
    (b : Nat) (y0 y1 y2 y3 : Value) (u : SlotD) (hx : a.eval x = .pointer (some ⟨b, 0, none⟩)) (hy : a.eval y = .agg #[.int .i64 u.id, .int .i64 u.fm, .int .i64 u.to, .int .i64 u.nd]) (hb : w.heap[b]? = some (.cells #[y0, y1, y2, y3] 32 (0, 0)))
    (h : ∀ w', w'.heap[b]? = some (.cells #[.int .i64 u.id, .int .i64 u.fm, .int .i64 u.to, .int .i64 u.nd] 32 (0, 0)) → w.grownBy w' (some b) → wpList Try.prog ops Q rest (a.put op.dst undef) w') : wpList Try.prog ops Q (op :: rest) a w := by
  obtain ⟨i0, hi0, hz0, hz1, hz2⟩ := info_parts info_slot
  have hth : w.there b 0 4 := fun j hj => by
    refine ⟨?_, Dag.blk_frozen hb _⟩
    rw [Dag.blk_cell hb, Array.getElem?_eq_getElem (by simp; omega)]; rfl
  refine wpList_store_mid hgd 32 x y ho b 0 _ hx hy hth (by rw [hi0, Option.map_some, hz1]; rfl) (all_oneCell_toArray (cs := [.int .i64 u.id, .int .i64 u.fm, .int .i64 u.to, .int .i64 u.nd]) (fun v hv => by simp only [List.mem_cons, List.mem_nil_iff, or_false] at hv; rcases hv with rfl | rfl | rfl | rfl <;> rfl)) ?_
  obtain ⟨r1, r2, r3, r4⟩ := Stp.Srt.setCells_rest b [.int .i64 u.id, .int .i64 u.fm, .int .i64 u.to, .int .i64 u.nd] 0 w
  obtain ⟨cur', e1, e2, e3⟩ := Stp.Srt.setCells_blk b _ [.int .i64 u.id, .int .i64 u.fm, .int .i64 u.to, .int .i64 u.nd] 0 w _ hb (by simp)
  simp only [List.length_cons, List.length_nil] at e3
  refine h _ ?_ ⟨r1, r2, r3, by rw [r4]; exact Nat.le_refl _, fun i _ hr => Stp.Srt.setCells_other b _ _ w i (fun e => hr (by rw [e]))⟩
  have hc : cur' = #[.int .i64 u.id, .int .i64 u.fm, .int .i64 u.to, .int .i64 u.nd] := by
    apply Array.ext_getElem?
    intro i
    rw [e3]
    by_cases q : i < 4
    · rw [if_pos (by omega)]
      match i, q with
      | 0, _ => rfl
      | 1, _ => rfl
      | 2, _ => rfl
      | 3, _ => rfl
      | i + 4, q => omega
    · rw [if_neg (by omega), Array.getElem?_eq_none (by simp; omega), Array.getElem?_eq_none (by simp; omega)]
  subst hc; exact e1
theorem get_any (id : Int) (hw : (Lit.int .i64 id).wf = true) (w : World) (g m : Nat) (N : Int) (F : List StepD) (L : List SlotD) (h : BookM w g m N F L) :
    Calls Try.prog 21 #[.pointer (some ⟨g, 0, none⟩), .int .i64 id] w fun e w' => e = .returned (getV L id) ∧ Below w.heap.size w w' := by
  obtain ⟨A, c, hs, c0, c1, c2, cf⟩ := h.cells
  have hlook := h.map.look hw
  unfold getV
  cases hf : fndS id L with
  | none =>
    have hl := hlook.2 hf
    have HZ := Lib.hid (al w (.cells #[.int .i64 0, .int .i64 0, .int .i64 0, .int .i64 0] 32))
    have k1 := kp HZ.out c1
    have hl1 := ((h.below HZ.out).map.look hw).2 hf
    have HBR := Lib.hid (heap_alloc_new w (.cells #[.int .i64 0, .int .i64 0, .int .i64 0, .int .i64 0] 32))
    clear hlook hs c0 c2 cf hl c1 h hf
    generalize hw0 : w.alloc (.cells #[.int .i64 0, .int .i64 0, .int .i64 0, .int .i64 0] 32) = w0 at HZ k1 hl1 HBR
    have HX := Lib.hid (al w0 (.cells #[.int .i64 0, .int .i64 0, .int .i64 0, .int .i64 0] 32))
    obtain ⟨y0, y1, y2, y3⟩ := C4.new w0 ⟨0, 0, 0, 0⟩ 32
    rw [Nat.zero_add] at y1 y2 y3
    have HBR1 : Hid ((w0.alloc (.cells #[.int .i64 0, .int .i64 0, .int .i64 0, .int .i64 0] 32)).heap[w.heap.size]? = some (.cells #[.int .i64 0, .int .i64 0, .int .i64 0, .int .i64 0] 32 (0, 0))) := Lib.hid (by rw [HX.out.block _ (Dag.blk_lt HBR.out)]; exact HBR.out)
    go_enter Try.func21, Try.ntmps21
    go_wp2_with (first | (refine wpList_put4 rfl _ _ rfl w.heap.size _ _ _ _ ⟨0, 0, 0, 0⟩ ?hx ?hy HBR1.out ?hk; (focus (first | rfl | (simp [Act.eval]; done))); (focus (first | rfl | (simp [Act.eval]; done))); intro w9 hr9 hg9; have HR9 := Lib.hid hr9; have HG9 := Lib.hid hg9; clear hr9 hg9))
    refine bodyPost_ret (results_cell4 rfl _ rfl HR9.out) rfl ?_
    refine ⟨rfl, ?_⟩
    exact HG9.out.below (blw HZ.out HX.out) (Nat.le_refl _) (blw HZ.out HX.out).size
  | some s =>
    have hl := hlook.1 s hf
    have HZ := Lib.hid (al w (.cells #[.int .i64 0, .int .i64 0, .int .i64 0, .int .i64 0] 32))
    have k1 := kp HZ.out c1
    have hl1 := ((h.below HZ.out).map.look hw).1 s hf
    have HBR := Lib.hid (heap_alloc_new w (.cells #[.int .i64 0, .int .i64 0, .int .i64 0, .int .i64 0] 32))
    clear hlook hs c0 c2 cf hl c1 h hf
    generalize hw0 : w.alloc (.cells #[.int .i64 0, .int .i64 0, .int .i64 0, .int .i64 0] 32) = w0 at HZ k1 hl1 HBR
    have HX := Lib.hid (al w0 (.cells #[.int .i64 s.id, .int .i64 s.fm, .int .i64 s.to, .int .i64 s.nd] 32))
    obtain ⟨y0, y1, y2, y3⟩ := C4.new w0 s 32
    rw [Nat.zero_add] at y1 y2 y3
    have HBR1 : Hid ((w0.alloc (.cells #[.int .i64 s.id, .int .i64 s.fm, .int .i64 s.to, .int .i64 s.nd] 32)).heap[w.heap.size]? = some (.cells #[.int .i64 0, .int .i64 0, .int .i64 0, .int .i64 0] 32 (0, 0))) := Lib.hid (by rw [HX.out.block _ (Dag.blk_lt HBR.out)]; exact HBR.out)
    go_enter Try.func21, Try.ntmps21
    go_wp2_with (refine wpList_put4 rfl (.tmp 4) (.tmp 20) rfl w.heap.size (.int .i64 0) (.int .i64 0) (.int .i64 0) (.int .i64 0) s rfl rfl HBR1.out ?_; intro w9 hr9 hg9; have HR9 := Lib.hid hr9; have HG9 := Lib.hid hg9; clear hr9 hg9)
    refine bodyPost_ret (results_cell4 rfl _ rfl HR9.out) rfl ?_
    refine ⟨rfl, ?_⟩
    exact HG9.out.below (blw HZ.out HX.out) (Nat.le_refl _) (blw HZ.out HX.out).size
end Go.Proofs.Ytapojmniokdjfaa.Bk

