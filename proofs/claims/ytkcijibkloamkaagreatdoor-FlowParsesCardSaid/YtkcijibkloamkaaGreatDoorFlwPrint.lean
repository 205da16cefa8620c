/- Print. -/
import Derived.Test.YtkcijibkloamkaaGreatDoorFlwPar
import Derived.Test.YtkcijibkloamkaaGreatDoorFlwCheck
import Derived.Test.YtkcijibkloamkaaGreatDoorFlwInv
namespace Go.Proofs.YtkcijibkloamkaaGreatDoor
open Go.RowKit
open Dag (Own1 Sl)
open Txt (nameD)
set_option linter.unusedVariables false
set_option maxRecDepth 100000

theorem rise_in {n : Nat} : ∀ (l : List Int) (L : Int), riseL n L l = true → ∀ v ∈ l, L < v ∧ v < (n : Int)
  | [], L, _, v, hv => by simp at hv
  | x :: l, L, h, v, hv => by
    rw [riseL] at h
    simp only [Bool.and_eq_true, decide_eq_true_eq] at h
    rcases List.mem_cons.1 hv with rfl | hv
    · exact ⟨h.1, h.2.1⟩
    · have := rise_in l x h.2.2 v hv
      omega
structure Fine (f : FlowD) : Prop where
  name : nameD f.name = true
  names : ∀ t ∈ f.tasks, taskName t.name = true
  nums : numbersOK f = true
  twins : twins f.tasks = false
  len : f.tasks.length ≤ 4096
  links : linksOK f.tasks = true
  new : Dag.newE (afterL f.tasks) = 0
theorem fine_of {f : FlowD} (h : checkE f = 0) : Fine f := by
  unfold checkE at h
  split at h
  · simp at h
  split at h
  · simp at h
  split at h
  · simp at h
  split at h
  · simp at h
  split at h
  · simp at h
  rename_i h1 h2 h3 h4 h5
  simp only [Bool.not_eq_false, Bool.not_eq_true] at h1 h2 h3 h5
  unfold namesOK at h1
  rw [Bool.and_eq_true, List.all_eq_true] at h1
  exact ⟨h1.2, h1.1, h2, h3, by omega, h5, h⟩
theorem Fine.tn {f : FlowD} (h : Fine f) {t : TaskD} (ht : t ∈ f.tasks) : t.name.length ≤ 160 := by
  have := h.names t ht
  unfold taskName at this
  rw [Bool.and_eq_true] at this
  exact nameD_len this.1
theorem Fine.al {f : FlowD} (h : Fine f) {t : TaskD} (ht : t ∈ f.tasks) : t.after.length ≤ 4096 := by
  have h1 := linksOK_len h.links t.after (List.mem_map_of_mem ht)
  have := h.len
  omega
theorem Fine.ain {f : FlowD} (h : Fine f) {t : TaskD} (ht : t ∈ f.tasks) : ∀ v ∈ t.after, 0 ≤ v ∧ v.toNat < f.tasks.length := fun v hv => by
  have := rise_in t.after (-1) (List.all_eq_true.1 h.links t ht) v hv
  omega
theorem nameAt_len {ts : List TaskD} (h : ∀ t ∈ ts, t.name.length ≤ 160) (v : Int) : (nameAt ts v).length ≤ 160 := by
  unfold nameAt
  split
  · exact h _ (List.mem_of_getElem? (by assumption))
  · simp
theorem sumW_map {α : Type} {g : α → List UInt8} (hg : ∀ x, (g x).length ≤ 160) : ∀ l : List α, sumW (l.map g) ≤ l.length * 161
  | [] => by simp [sumW]
  | x :: l => by
    have := sumW_map hg l
    have := hg x
    simp only [List.map_cons, sumW, List.length_cons]
    omega
theorem Fine.pw {f : FlowD} (h : Fine f) {t : TaskD} (ht : t ∈ f.tasks) : sumW (t.after.map (nameAt f.tasks) ++ [childW, t.name]) ≤ 700000 := by
  rw [sumW_app]
  have h1 := sumW_map (nameAt_len fun t ht => h.tn ht) t.after (g := nameAt f.tasks)
  have h2 := h.al ht
  have h3 := h.tn ht
  simp only [sumW, childW, List.length_cons, List.length_nil]
  omega
theorem flatL_app {α : Type} (g : α → List UInt8) (a b : List α) : flatL g (a ++ b) = flatL g a ++ flatL g b := by
  induction a with
  | nil => rfl
  | cons x a ih => simp [flatL, ih]
theorem flatL_len {α : Type} {g : α → List UInt8} {B : Nat} : ∀ {l : List α}, (∀ x ∈ l, (g x).length ≤ B) → (flatL g l).length ≤ l.length * B
  | [], _ => by simp [flatL]
  | x :: l, h => by
    have h1 := h x (by simp)
    have h2 := flatL_len (g := g) (B := B) (l := l) fun y hy => h y (by simp [hy])
    simp only [flatL, List.length_append, List.length_cons]
    rw [Nat.add_mul]
    omega
theorem flatL_snoc {α : Type} {g : α → List UInt8} {l : List α} {k : Nat} {x : α} (h : l[k]? = some x) : flatL g (l.take (k + 1)) = flatL g (l.take k) ++ g x := by
  rw [List.take_add_one, h, flatL_app]; simp [flatL]
theorem taskL_len {t : TaskD} (h : t.name.length ≤ 160) : (taskL t).length ≤ 2000 := by
  have h3 := lnL_len 3 [t.name]; have h4 := numL_len 4 t.nodes [t.name]; have h5 := numL_len 5 t.wall [t.name]; have h6 := numL_len 6 t.retry [t.name]; have h7 := lnL_len 7 [t.name]
  simp only [sumW] at h3 h4 h5 h6 h7
  unfold taskL
  cases t.done <;> simp only [List.length_append, if_true, Bool.false_eq_true, if_false, List.length_nil] <;> omega
theorem parL_len {ts : List TaskD} {t : TaskD} (h : sumW (t.after.map (nameAt ts) ++ [childW, t.name]) ≤ 700000) : (parL ts t).length ≤ 700020 := by
  unfold parL
  split
  · simp
  · have := lnL_len 8 (t.after.map (nameAt ts) ++ [childW, t.name])
    omega
def headL (f : FlowD) : List UInt8 := lnL 0 [f.name] ++ numL 1 f.deadline [] ++ numL 2 f.priority []
theorem printL_eq (f : FlowD) : printL f = headL f ++ flatL taskL f.tasks ++ flatL (parL f.tasks) f.tasks := by unfold printL headL; simp
theorem lnL_ne (k : Nat) (l : List (List UInt8)) (r : List UInt8) : lnL k l ++ r ≠ [] := by unfold lnL; simp

set_option maxHeartbeats 6400000 in
theorem print_any (N : Nat) (Tb : World → Prop) (hN : NewOK N Tb) (hTb : ∀ w w', Tb w → Below w.heap.size w w' → Tb w') (f : FlowD) (A : Option Addr) (c : Nat) (w : World) (h : Tasks w A c f.tasks) (hT : Txt.Tabs w) (hS : TabS w) (hB : Tb w)
    (hl : f.name.length ≤ 9000000000000000000) (hn : ∀ t ∈ f.tasks, t.name.length ≤ 9000000000000000000) (hlen : f.tasks.length ≤ 4096 → f.tasks.length ≤ N) :
    Calls Tryz.prog 30 #[.agg #[.string (sb f.name), .int .i64 f.deadline, .int .i64 f.priority, .slice A f.tasks.length c]] w fun e w' => e = .returned (.tuple #[.string (sb (if checkE f = 0 then printL f else [])), .int .i64 (checkE f)]) ∧ Below w.heap.size w w' := by
  have hck := fun W (hW : Below w.heap.size w W) => check_any N Tb hN hTb f A c W (h.below hW) (hT.below hW) (hS.below hW) (hTb _ _ hB hW) hl hn hlen
  have HCK := Lib.hid hck
  have H := Lib.hid h; have HS := Lib.hid hS
  clear hck h hS hN hTb hB hT
  by_cases he : checkE f = 0
  · have hF := fine_of he
    have HF := Lib.hid hF
    have hlm : f.tasks.length ≤ 4096 := hF.len
    have hfn := nameD_len hF.name
    have HE := Lib.hid he
    rw [if_pos he, he]
    clear he hF hl hn hlen
    go_enter Tryz.func30, Tryz.ntmps30
    go_wp2_with fail
    refine (HCK.out _ (al _ _)).mono ?_
    rw [HE.out]
    rintro e w1 ⟨rfl, hb1⟩
    have HB1 := Lib.hid (blw (al w (flowO f A c)) hb1)
    have HO1 : Hid (w1.heap[w.heap.size]? = some (flowO f A c)) := Lib.hid ((hb1.block _ (by simp)).trans (heap_alloc_new w _))
    have H1 := Lib.hid (H.out.below HB1.out); have HS1 := Lib.hid (HS.out.below HB1.out)
    have hlt0 : w.heap.size < w1.heap.size := by have := hb1.size; simp at this; omega
    have HLT := Lib.hid hlt0
    clear hb1
    obtain ⟨p0, p1, p2, p3, _⟩ := flowO_cells HO1.out
    generalize eB : w.heap.size = fb at HO1 HB1 HLT hlt0 p0 p1 p2 p3 ⊢
    have HLT := Lib.hid hlt0
    go_wp2_with fail
    refine (pline_any 0 (by decide) [f.name] 1 rfl _ w1.heap.size w1.heap.size [] ⟨⟨.pointer none, none, 0, ((al (w1.alloc _) _).block _ (by simp)).trans (heap_alloc_new w1 _), Or.inl rfl, ?_⟩, Nat.le_refl _⟩ (by simp; omega) _ 1 (lit1_w (by simp)) (lit1_t (by simp)) (by simp [sumW]; omega) (by simp) (HS1.out.below (blw (al _ _) (al _ _)))).mono ?_
    · exact World.ownsRow_nil _ _ _ 1
    rintro e w2 ⟨rfl, h2, hb2, _⟩
    have HB2 : Hid (Below w1.heap.size w1 w2) := Lib.hid ((blw (al w1 _) (al _ _)).trans hb2)
    have HP2 := Lib.hid h2
    have hfs : fb < w2.heap.size := by have := HB2.out.size; have := HLT.out; omega
    have HFS := Lib.hid hfs
    clear h2 hb2 p0 p1 p2 p3
    obtain ⟨p0, p1, p2, p3, _⟩ := flowO_cells ((HB2.out.block _ HLT.out).trans HO1.out)
    have hs0 := lnL_len 0 [f.name]
    have hs1 := numL_len 1 f.deadline []
    have hs2 := numL_len 2 f.priority []
    simp only [sumW] at hs0 hs1 hs2
    have HS0 := Lib.hid hs0; have HSN1 := Lib.hid hs1; have HSN2 := Lib.hid hs2; have HFN := Lib.hid hfn
    clear hs0 hs1 hs2
    go_wp2_with fail
    refine (pnum_any 1 (by decide) f.deadline [] 0 rfl _ w1.heap.size w1.heap.size _ HP2.out HB2.out.size none 0 (Own1.nil _ _ _) (by simp [sumW]) (by decide) (by have := HS0.out; have := HFN.out; simp only [List.nil_append]; omega) (fun w' hb => HS1.out.below (HB2.out.trans hb))).mono ?_
    rintro e w3 ⟨rfl, h3, hb3, _⟩
    have HB3 : Hid (Below w1.heap.size w1 w3) := Lib.hid (HB2.out.trans hb3)
    have HP3 := Lib.hid h3
    have hfs : fb < w3.heap.size := by have := HB3.out.size; have := HLT.out; omega
    have HFS := Lib.hid hfs
    clear h3 hb3 p0 p1 p2 p3
    obtain ⟨p0, p1, p2, p3, _⟩ := flowO_cells ((HB3.out.block _ HLT.out).trans HO1.out)
    go_wp2_with fail
    refine (pnum_any 2 (by decide) f.priority [] 0 rfl _ w1.heap.size w1.heap.size _ HP3.out HB3.out.size none 0 (Own1.nil _ _ _) (by simp [sumW]) (by decide) (by have := HS0.out; have := HSN1.out; have := HFN.out; simp only [List.nil_append, List.length_append]; omega) (fun w' hb => HS1.out.below (HB3.out.trans hb))).mono ?_
    rintro e w4 ⟨rfl, h4, hb4, _⟩
    have HB4 : Hid (Below w1.heap.size w1 w4) := Lib.hid (HB3.out.trans hb4)
    have HP4 : Hid (Pg w4 w1.heap.size w1.heap.size (headL f)) := Lib.hid (by unfold headL; simpa using h4)
    have HHL : Hid ((headL f).length ≤ 10000) := Lib.hid (by have := HS0.out; have := HSN1.out; have := HSN2.out; have := HFN.out; unfold headL; simp only [List.length_append]; omega)
    have hfs : fb < w4.heap.size := by have := HB4.out.size; have := HLT.out; omega
    have HFS := Lib.hid hfs
    clear h4 hb4 p0 p1 p2 p3
    obtain ⟨p0, p1, p2, p3, _⟩ := flowO_cells ((HB4.out.block _ HLT.out).trans HO1.out)
    go_wp2_with fail
    go_loopw [28] (fun i wr => ∃ k : Nat, k ≤ f.tasks.length ∧ i = .int .i64 k ∧ Hid (Below w1.heap.size w1 wr) ∧ Hid (Pg wr w1.heap.size w1.heap.size (headL f ++ flatL taskL (f.tasks.take k)))) (fun i _ => f.tasks.length - (intOf i).toNat)
    case atStart => exact ⟨0, Nat.zero_le _, rfl, HB4, Lib.hid (by simpa [flatL] using HP4.out)⟩
    case round =>
      obtain ⟨k, hk, rfl, HB, HP⟩ := hrel
      clear p0 p1 p2 p3
      by_cases hlt : k < f.tasks.length
      · obtain ⟨t, ht⟩ : ∃ t, f.tasks[k]? = some t := ⟨_, List.getElem?_eq_getElem hlt⟩
        obtain ⟨b, off, A', c', rfl, h0, h1, h2, h3, h4, h5, hI⟩ := (H1.out.below HB.out).cells k _ ht
        have htn := HF.out.tn (List.mem_of_getElem? ht)
        have hll : (headL f ++ flatL taskL (f.tasks.take k)).length ≤ 10000000 := by
          have e1 := flatL_len (g := taskL) (B := 2000) (l := f.tasks.take k) fun x hx => taskL_len (HF.out.tn (List.mem_of_mem_take hx))
          have e2 := HHL.out
          rw [List.length_take] at e1
          rw [List.length_append]
          omega
        have HLL := Lib.hid hll; have HTN := Lib.hid htn
        have HSN := Lib.hid (flatL_snoc (g := taskL) ht)
        clear ht htn hll hI
        go_wp2_with fail
        refine (ptask_any t _ w1.heap.size w1.heap.size _ (HP.out.below (al _ _)) (by have := HB.out.size; simp; omega) A' c' (by have := HTN.out; omega) (by have := HLL.out; omega) (fun w' hb => HS1.out.below ((HB.out.trans ((al _ _).mono HB.out.size)).trans hb))).mono ?_
        rintro e w5 ⟨rfl, h5, hb5, _⟩
        have HP5 := Lib.hid h5; have HB5 : Hid (Below w1.heap.size w1 w5) := Lib.hid ((HB.out.trans ((al _ _).mono HB.out.size)).trans hb5)
        clear h5 hb5
        go_wp2
        go_roundw
        case rel => exact ⟨k + 1, by omega, by go_num, HB5, Lib.hid (by rw [HSN.out, ← List.append_assoc]; exact HP5.out)⟩
        case measure => simp [intOf]; omega
      · obtain rfl : k = f.tasks.length := by omega
        have HP1 : Hid (Pg wr w1.heap.size w1.heap.size (headL f ++ flatL taskL f.tasks)) := Lib.hid (by have := HP.out; rwa [List.take_length] at this)
        have hll : (headL f ++ flatL taskL f.tasks).length ≤ 10000000 := by
          have e1 := flatL_len (g := taskL) (B := 2000) (l := f.tasks) fun x hx => taskL_len (HF.out.tn hx)
          have e2 := HHL.out
          rw [List.length_append]
          omega
        have HLL := Lib.hid hll
        obtain ⟨p0, p1, p2, p3, _⟩ := flowO_cells ((HB.out.block _ HLT.out).trans HO1.out)
        have hfs : fb < wr.heap.size := by have := HB.out.size; have := HLT.out; omega
        clear hll HP
        generalize eW : wr = w6 at *
        clear eW
        go_wp2_with fail
        go_loopw [38] (fun i wq => ∃ k : Nat, k ≤ f.tasks.length ∧ i = .int .i64 k ∧ Hid (Below w1.heap.size w1 wq) ∧ Hid (Pg wq w1.heap.size w1.heap.size (headL f ++ flatL taskL f.tasks ++ flatL (parL f.tasks) (f.tasks.take k)))) (fun i _ => f.tasks.length - (intOf i).toNat)
        case atStart => exact ⟨0, Nat.zero_le _, rfl, HB, Lib.hid (by simpa [flatL] using HP1.out)⟩
        case round =>
          obtain ⟨k, hk, rfl, HB, HP⟩ := hrel
          clear p0 p1 p2 p3 hfs
          by_cases hlt : k < f.tasks.length
          · obtain ⟨t, ht⟩ : ∃ t, f.tasks[k]? = some t := ⟨_, List.getElem?_eq_getElem hlt⟩
            obtain ⟨b, off, A', c', rfl, h0, h1, h2, h3, h4, h5, hI⟩ := (H1.out.below HB.out).cells k _ ht
            have hmm := List.mem_of_getElem? ht
            have htn := HF.out.tn hmm
            have hpw := HF.out.pw hmm
            have hll : (headL f ++ flatL taskL f.tasks ++ flatL (parL f.tasks) (f.tasks.take k)).length ≤ 10000000000 := by
              have e1 := flatL_len (g := parL f.tasks) (B := 700020) (l := f.tasks.take k) fun x hx => parL_len (HF.out.pw (List.mem_of_mem_take hx))
              have e2 := HLL.out
              rw [List.length_take] at e1
              rw [List.length_append]
              omega
            have HL2 := Lib.hid hll; have HTN := Lib.hid htn; have HPW := Lib.hid hpw
            have HSN := Lib.hid (flatL_snoc (g := parL f.tasks) ht)
            have HMM := Lib.hid hmm
            have HI := Lib.hid hI
            have hal := HF.out.al hmm
            have HAL := Lib.hid hal
            clear ht htn hll hI hmm hpw hal
            have hz : t.after.length = 0 ∨ 0 < t.after.length := by omega
            rcases hz with hz | hz
            · have HN0 : Hid (parL f.tasks t = []) := Lib.hid (by unfold parL; rw [if_pos (List.eq_nil_of_length_eq_zero hz)])
              go_wp2
              go_roundw
              case rel => exact ⟨k + 1, by omega, by go_num, Lib.hid (HB.out.trans ((al _ _).mono HB.out.size)), Lib.hid (by rw [HSN.out, HN0.out, List.append_nil]; exact HP.out.below (al _ _))⟩
              case measure => simp [intOf]; omega
            · have HN0 : Hid (parL f.tasks t = lnL 8 (t.after.map (nameAt f.tasks) ++ [childW, t.name])) := Lib.hid (by unfold parL; rw [if_neg (fun e => by rw [e] at hz; simp at hz)])
              obtain ⟨p0, p1, p2, p3, _⟩ := flowO_cells ((HB.out.block _ HLT.out).trans HO1.out)
              have hfs : fb < wr.heap.size := by have := HB.out.size; have := HLT.out; omega
              have hzi : (0 : Int) < (t.after.length : Int) := by omega
              go_wp2_with fail
              refine (parents_any f (some ⟨b, off, none⟩) c t A' c' _ ((H1.out.below HB.out).below (al _ _)) (HI.out.below (al _ _)) (HF.out.ain HMM.out) (by have := HAL.out; omega)).mono ?_
              rintro e w7 ⟨A9, c9, rfl, ho7, hb7⟩
              have hbb : Below wr.heap.size wr w7 := blw (al _ _) hb7
              have HP7 := Lib.hid (HP.out.below hbb)
              have HB7 : Hid (Below w1.heap.size w1 w7) := Lib.hid (HB.out.trans (hbb.mono HB.out.size))
              have HO7 := Lib.hid ho7
              clear ho7 hb7 hbb p0 p1 p2 p3
              go_wp2_with fail
              refine (pline_any 8 (by decide) (t.after.map (nameAt f.tasks) ++ [childW, t.name]) (t.after.length + 2) (by simp) _ w1.heap.size w1.heap.size _ HP7.out HB7.out.size A9 c9 (Own1.sl HO7.out).2 (typS_own HO7.out) (by have := HPW.out; omega) (by have := HL2.out; omega) (HS1.out.below HB7.out)).mono ?_
              rintro e w8 ⟨rfl, h8, hb8, _⟩
              have HP8 := Lib.hid h8; have HB8 : Hid (Below w1.heap.size w1 w8) := Lib.hid (HB7.out.trans hb8)
              clear h8 hb8
              go_wp2
              go_roundw
              case rel => exact ⟨k + 1, by omega, by go_num, HB8, Lib.hid (by rw [HSN.out, HN0.out, ← List.append_assoc]; exact HP8.out)⟩
              case measure => simp [intOf]; omega
          · obtain rfl : k = f.tasks.length := by omega
            have HP1 : Hid (Pg wr w1.heap.size w1.heap.size (printL f)) := Lib.hid (by have := HP.out; rw [List.take_length] at this; rw [printL_eq]; exact this)
            have HNE : Hid (printL f ≠ []) := Lib.hid (by unfold printL; exact lnL_ne _ _ _)
            go_wp2_with fail
            refine (string_any _ w1.heap.size w1.heap.size _ HP1.out HNE.out).mono ?_
            rintro e w9 ⟨rfl, hb9⟩
            go_wp2
            go_ret2
            exact ⟨rfl, by rw [eB]; exact HB1.out.trans ((HB.out.trans hb9).mono (Nat.le_of_lt HLT.out))⟩
  · rw [if_neg he]
    have heb : (checkE f == 0) = false := by simp [he]
    have hne : ¬ checkE f = 0 := he
    go_enter Tryz.func30, Tryz.ntmps30
    go_wp2_with fail
    refine (HCK.out _ (al _ _)).mono ?_
    rintro e w1 ⟨rfl, hb1⟩
    go_wp2
    go_ret2
    exact ⟨rfl, blw (al _ _) hb1⟩

end Go.Proofs.YtkcijibkloamkaaGreatDoor

