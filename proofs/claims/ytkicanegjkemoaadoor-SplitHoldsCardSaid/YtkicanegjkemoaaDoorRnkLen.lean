/- Layer 7: Up, Length. -/
import Derived.Test.YtkicanegjkemoaaDoorRnkUp
import Derived.Test.YtkicanegjkemoaaDoorSplPure
namespace Go.Proofs.YtkicanegjkemoaaDoor
open Go.RowKit Go.Shelf
open Dag (Ints Own1 Sl num num_len num_get Gr newE order behL order_ord)
set_option linter.unusedVariables false
set_option maxRecDepth 100000

theorem up_any (f : FlowD) (A : Option Addr) (c : Nat) (w : World) (h : FlA w f A c) :
    Calls Tryd.prog 19 #[.agg #[.string (sb f.name), .int .i64 f.deadline, .int .i64 f.priority, .slice A f.tasks.length c]] w (RetU f (upD f.tasks) w) := by
  have HR := Lib.hid fun W (hW : Below w.heap.size w W) => ranked_any f A c W (h.below hW)
  clear h
  unfold RetU
  unfold RetR at HR
  obtain ⟨xs, hxs⟩ : ∃ xs, rankV f (upD f.tasks) = xs := ⟨_, rfl⟩
  obtain ⟨e0, he0⟩ : ∃ e0, rankE f (upD f.tasks) = e0 := ⟨_, rfl⟩
  rw [hxs, he0] at HR ⊢
  clear hxs he0
  go_enter Tryd.func19, Tryd.ntmps19
  go_wp2_with fail
  refine (HR.out _ (al _ _)).mono ?_
  rintro e w1 ⟨p, B, d, rfl, hi, hb, _, _⟩
  have HI := Lib.hid hi; have HB := Lib.hid (blw (al w (flowO f A c)) hb)
  clear hi hb
  go_wp2
  go_ret2
  exact ⟨B, d, rfl, HI.out, HB.out⟩
theorem order_nil (w : World) : Calls Tryd.prog 43 #[.pointer none] w fun e w' => e = .returned (.slice none 0 0) ∧ w = w' := by
  go_enter Tryd.func43, Tryd.ntmps43
  go_wp2
  go_ret
  exact ⟨rfl, rfl⟩
theorem len_order {f : FlowD} (h : rankE f (upD f.tasks) = 0) : maxL ((order (afterL f.tasks)).map (atL (rankV f (upD f.tasks)))) = lengthV f := by
  obtain ⟨hc, ho⟩ := rank_yes h
  obtain ⟨hf, _, _⟩ := chk_facts hc
  unfold lengthV
  have hv : rankV f (upD f.tasks) = numsU f.tasks.length (upD f.tasks) := by unfold rankV; rw [if_pos h]
  rw [hv]
  refine maxL_eq fun x => ?_
  have hat : ∀ v, v < f.tasks.length → atL (numsU f.tasks.length (upD f.tasks)) v = upD f.tasks v := fun v hv => atL_some (by unfold numsU; rw [List.getElem?_map, List.getElem?_range hv]; rfl)
  constructor
  · intro hx
    obtain ⟨v, hv, rfl⟩ := List.mem_map.1 hx
    have hl := (ord_all hf v).1 hv
    rw [hat v hl]
    exact List.mem_map.2 ⟨v, List.mem_range.2 hl, rfl⟩
  · intro hx
    obtain ⟨v, hv, rfl⟩ := List.mem_map.1 hx
    have hl := List.mem_range.1 hv
    exact List.mem_map.2 ⟨v, (ord_all hf v).2 hl, hat v hl⟩
theorem length_any (f : FlowD) (A : Option Addr) (c : Nat) (w : World) (h : FlA w f A c) :
    Calls Tryd.prog 61 #[.agg #[.string (sb f.name), .int .i64 f.deadline, .int .i64 f.priority, .slice A f.tasks.length c]] w fun e w' => e = .returned (.tuple #[.int .i64 (lengthV f), .int .i64 (rankE f (upD f.tasks))]) ∧ Below w.heap.size w w' := by
  have HR := Lib.hid fun W (hW : Below w.heap.size w W) => ranked_any f A c W (h.below hW)
  have hlen := h.len
  clear h
  unfold RetR at HR
  by_cases h0 : rankE f (upD f.tasks) = 0
  · have HL := Lib.hid (len_order h0)
    have HF := Lib.hid (chk_facts (rank_yes h0).1).1
    have HEL := Lib.hid (afterL_len f.tasks)
    have hxn : (rankV f (upD f.tasks)).length = f.tasks.length := by unfold rankV numsU; rw [if_pos h0]; simp
    have HXN := Lib.hid hxn
    have HE := Lib.hid h0
    rw [hxn] at HR
    rw [h0]
    obtain ⟨xs, hxs⟩ : ∃ xs, rankV f (upD f.tasks) = xs := ⟨_, rfl⟩
    rw [hxs, h0] at HR
    rw [hxs] at HL HXN
    clear hxs hxn h0
    go_enter Tryd.func61, Tryd.ntmps61
    go_wp2_with fail
    refine (HR.out _ (al _ _)).mono ?_
    rintro e w1 ⟨p, B, d, rfl, hi, hb, hg, _⟩
    have HI := Lib.hid hi; have HB := Lib.hid (blw (al w (flowO f A c)) hb)
    have HG := Lib.hid (hg (by first | rfl | trivial))
    clear hi hb hg
    go_wp2_with fail
    refine (Dag.order_any _ (afterL f.tasks) (.pointer p) HG.out (by rw [HEL.out]; exact hlen)).mono ?_
    rintro e w2 ⟨Ao, co, rfl, hio, hb2, _⟩
    have HIO := Lib.hid hio; have HB2 := Lib.hid (blw HB.out hb2)
    have HI2 := Lib.hid (HI.out.below hb2)
    clear hio hb2
    have hgr := greatest_any xs f.tasks.length HXN.out (order (afterL f.tasks)) (num (order (afterL f.tasks))).length (num_len _).symm (fun v hv => (ord_all HF.out v).1 hv) w2 B Ao d co HI2.out HIO.out
    rw [HL.out] at hgr
    go_wp2_with fail
    refine hgr.mono ?_
    rintro e w3 ⟨rfl, rfl⟩
    go_wp2
    go_ret2
    exact ⟨rfl, HB2.out⟩
  · have HL : Hid (lengthV f = 0) := Lib.hid (lenV_no h0)
    have hv : rankV f (upD f.tasks) = [] := by unfold rankV; rw [if_neg h0]
    have H0 := Lib.hid h0
    obtain ⟨e0, he0⟩ : ∃ e0, rankE f (upD f.tasks) = e0 := ⟨_, rfl⟩
    rw [hv, he0] at HR
    rw [he0] at H0 ⊢
    clear hv he0 h0
    simp only [List.length_nil] at HR
    go_enter Tryd.func61, Tryd.ntmps61
    go_wp2_with fail
    refine (HR.out _ (al _ _)).mono ?_
    rintro e w1 ⟨p, B, d, rfl, hi, hb, _, hp⟩
    obtain rfl := hp H0.out
    have HI := Lib.hid hi; have HB := Lib.hid (blw (al w (flowO f A c)) hb)
    clear hi hb hp
    go_wp2_with fail
    refine (order_nil _).mono ?_
    rintro e w2 ⟨rfl, rfl⟩
    have hgr := greatest_any [] 0 rfl [] 0 rfl (fun v hv => by simp at hv) w1 B none d 0 HI.out (Dag.Ints.empty _)
    go_wp2_with fail
    refine hgr.mono ?_
    rintro e w3 ⟨rfl, rfl⟩
    go_wp2
    go_ret2
    exact ⟨by rw [HL.out]; rfl, HB.out⟩
end Go.Proofs.YtkicanegjkemoaaDoor

