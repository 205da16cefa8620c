/- Of the document's: Print. -/
import Derived.Test.YtdcfakbelnpljaaGreatDoorFlwRChk
import Derived.Deep.DeepCutAuto
namespace Go.Proofs.YtdcfakbelnpljaaGreatDoor
open Go.RowKit
open Dag (Ints Sl)
open Clk (isT textL)
open Txt (joinL)
set_option linter.unusedVariables false
set_option maxRecDepth 100000

theorem sb_cat (a b : List UInt8) : sb a ++ sb b = sb (a ++ b) := by apply ByteArray.ext; simp [sb]
theorem rtx_any (t : Int) (w : World) :
    Calls Tryz.prog 44 #[.int .i64 t] w fun e w' => e = .returned (.string (sb (textL t))) ∧ Below w.heap.size w w' := Clk.rtext_any t w
theorem numL_yes {k : Nat} {n : Int} (h : n ≠ leastN k) (pre : List (List UInt8)) : numL k n pre = lnL k (pre ++ [textL n]) := if_pos h
theorem numL_no {k : Nat} {n : Int} (h : n = leastN k) (pre : List (List UInt8)) : numL k n pre = [] := if_neg (by simp [h])
theorem num_s0 (L : List UInt8) {k : Nat} {n : Int} (h : n ≠ leastN k) (K : List UInt8) (hK : K = kwB k ++ [32]) : sb L ++ sb K ++ sb (textL n) ++ sb [10] = sb (L ++ numL k n []) := by
  rw [sb_cat, sb_cat, sb_cat, numL_yes h, hK]
  simp [lnL, joinL]
theorem num_s1 (L : List UInt8) {k : Nat} {n : Int} (h : n ≠ leastN k) (m K : List UInt8) (hK : K = kwB k ++ [32]) : sb L ++ sb K ++ sb m ++ sb [32] ++ sb (textL n) ++ sb [10] = sb (L ++ numL k n [m]) := by
  rw [sb_cat, sb_cat, sb_cat, sb_cat, sb_cat, numL_yes h, hK]
  simp [lnL, joinL]
theorem ln_s0 (m K : List UInt8) (k : Nat) (hK : K = kwB k ++ [32]) : sb K ++ sb m ++ sb [10] = sb (lnL k [m]) := by
  rw [sb_cat, sb_cat, hK]
  simp [lnL, joinL]
theorem ln_s1 (L m K : List UInt8) (k : Nat) (hK : K = kwB k ++ [32]) : sb L ++ sb K ++ sb m ++ sb [10] = sb (L ++ lnL k [m]) := by
  rw [sb_cat, sb_cat, sb_cat, hK]
  simp [lnL, joinL]
def spc (ts : List TaskD) (v : Int) : List UInt8 := nameAt ts v ++ [32]
theorem join_two : ∀ (ws : List (List UInt8)) (x y : List UInt8), joinL (ws ++ [x, y]) = flatL (fun w => w ++ [32]) ws ++ (x ++ 32 :: y)
  | [], x, y => by simp [joinL, flatL]
  | [w], x, y => by simp [joinL, flatL]
  | w :: z :: ws, x, y => by
    have := join_two (z :: ws) x y
    simp only [List.cons_append] at this ⊢
    rw [joinL, this]
    simp [flatL]
theorem flat_map {ts : List TaskD} (l : List Int) : flatL (fun w => w ++ [32]) (l.map (nameAt ts)) = flatL (spc ts) l := by
  induction l with
  | nil => rfl
  | cons x l ih => simp only [List.map_cons, flatL, ih]; rfl
theorem par_s (L : List UInt8) (ts : List TaskD) (t : TaskD) (h : t.after ≠ []) (L2 : List UInt8) (h2 : L2 = L ++ (kwB 8 ++ [32]) ++ flatL (spc ts) t.after) : sb L2 ++ sb (childW ++ [32]) ++ sb t.name ++ sb [10] = sb (L ++ parL ts t) := by
  rw [sb_cat, sb_cat, sb_cat, h2]
  unfold parL
  rw [if_neg h]
  unfold lnL
  rw [join_two, flat_map]
  simp
theorem spc_len {ts : List TaskD} (h : ∀ t ∈ ts, t.name.length ≤ 160) (l : List Int) : (flatL (spc ts) l).length ≤ l.length * 161 := by
  induction l with
  | nil => simp [flatL]
  | cons x l ih =>
    have := nameAt_len h x
    simp only [flatL, spc, List.length_append, List.length_cons, List.length_nil]
    rw [Nat.add_mul]
    omega
theorem adds5 (a b m t : ByteArray) {p : Nat} (ha : a.size ≤ p) (hb : b.size ≤ 20) (hm : m.size ≤ 160) (ht : t.size ≤ 100) (hp : p ≤ 1000000000) :
    (∀ W : World, (Op.stringOp .add a b).run Tryz.prog W = .ok (.string (a ++ b)) W) ∧ (∀ W : World, (Op.stringOp .add (a ++ b) m).run Tryz.prog W = .ok (.string (a ++ b ++ m)) W) ∧
    (∀ W : World, (Op.stringOp .add (a ++ b ++ m) ⟨#[32]⟩).run Tryz.prog W = .ok (.string (a ++ b ++ m ++ ⟨#[32]⟩)) W) ∧ (∀ W : World, (Op.stringOp .add (a ++ b ++ m ++ ⟨#[32]⟩) t).run Tryz.prog W = .ok (.string (a ++ b ++ m ++ ⟨#[32]⟩ ++ t)) W) ∧
    (∀ W : World, (Op.stringOp .add (a ++ b ++ m ++ ⟨#[32]⟩ ++ t) ⟨#[10]⟩).run Tryz.prog W = .ok (.string (a ++ b ++ m ++ ⟨#[32]⟩ ++ t ++ ⟨#[10]⟩)) W) := by
  have h1 : (⟨#[32]⟩ : ByteArray).size = 1 := rfl
  have h2 : (⟨#[10]⟩ : ByteArray).size = 1 := rfl
  refine ⟨fun W => run_string_add_sum W _ _ ?_, fun W => run_string_add_sum W _ _ ?_, fun W => run_string_add_sum W _ _ ?_, fun W => run_string_add_sum W _ _ ?_, fun W => run_string_add_sum W _ _ ?_⟩ <;> (try simp only [ByteArray.size_append]) <;> omega
theorem spc_s (L : List UInt8) {ts : List TaskD} {u : Int} {m : List UInt8} (h : nameAt ts u = m) : sb L ++ sb m ++ sb [32] = sb (L ++ spc ts u) := by
  rw [sb_cat, sb_cat]; unfold spc; rw [h, List.append_assoc]
structure TaskN (t : TaskD) : Prop where
  n : 1 ≤ t.nodes
  w : 1 ≤ t.wall
  r : 0 ≤ t.retry
theorem Fine.taskN {f : FlowD} (h : Fine f) {t : TaskD} (ht : t ∈ f.tasks) : TaskN t := by
  have h1 := h.nums
  unfold numbersOK at h1
  rw [Bool.and_eq_true, List.all_eq_true] at h1
  have := h1.1 t ht
  unfold numsOK inR at this
  simp only [Bool.and_eq_true, decide_eq_true_eq] at this
  exact ⟨this.1.1, this.2.1.1, this.2.2.1⟩
theorem Fine.flowN {f : FlowD} (h : Fine f) : 0 ≤ f.deadline ∧ 0 ≤ f.priority := by
  have h1 := h.nums
  unfold numbersOK inR at h1
  simp only [Bool.and_eq_true, decide_eq_true_eq] at h1
  exact ⟨h1.2.1.1, h1.2.2.1⟩

set_option maxHeartbeats 6400000 in
theorem rprint_any (f : FlowD) (A : Option Addr) (c : Nat) (w : World) (h : Tasks w A c f.tasks) (hT : Txt.Tabs w) (hl : f.name.length ≤ 1100000) (hn : ∀ t ∈ f.tasks, t.name.length ≤ 1100000) (hlen : f.tasks.length ≤ 30) :
    Calls Tryz.prog 18 #[.agg #[.string (sb f.name), .int .i64 f.deadline, .int .i64 f.priority, .slice A f.tasks.length c]] w fun e w' => e = .returned (.tuple #[.string (sb (if checkE f = 0 then printL f else [])), .int .i64 (checkE f)]) ∧ Below w.heap.size w w' := by
  have HCK := Lib.hid fun W (hW : Below w.heap.size w W) => rcheck_any f A c W (h.below hW) (hT.below hW) hl hn hlen
  have H := Lib.hid h
  clear h hT
  by_cases he : checkE f = 0
  · have hF := fine_of he
    have HF := Lib.hid hF
    have hfn := nameD_len hF.name
    have hnn := hF.flowN
    have HE := Lib.hid he
    rw [if_pos he, he]
    clear he hF hl hn
    have hfs : (sb f.name).size ≤ 160 := by rw [sb_size]; exact hfn
    go_enter Tryz.func18, Tryz.ntmps18
    go_wp2_with fail
    refine (HCK.out _ (al _ _)).mono ?_
    rw [HE.out]
    rintro e w1 ⟨rfl, hb1⟩
    have HB1 := Lib.hid (blw (al w (flowO f A c)) hb1)
    have HO1 : Hid (w1.heap[w.heap.size]? = some (flowO f A c)) := Lib.hid ((hb1.block _ (by simp)).trans (heap_alloc_new w _))
    have H1 := Lib.hid (H.out.below HB1.out)
    clear hb1
    obtain ⟨p0, p1, p2, p3, hp⟩ := flowO_cells HO1.out
    have hts := fun t : Int => show (sb (textL t)).size ≤ 100 from by rw [sb_size]; exact textL_len t
    have ht1 := hts f.deadline
    have ht2 := hts f.priority
    have HTS := Lib.hid hts
    clear hts
    go_upto_if 22 with fail
    rw [show (⟨#[87, 79, 82, 75, 70, 76, 79, 87, 32]⟩ ++ sb f.name ++ ⟨#[10]⟩ : ByteArray) = sb (lnL 0 [f.name]) from ln_s0 f.name [87, 79, 82, 75, 70, 76, 79, 87, 32] 0 rfl]
    obtain ⟨L0, hL0⟩ : ∃ L, L = lnL 0 [f.name] := ⟨_, rfl⟩
    rw [← hL0]
    have hs0 := lnL_len 0 [f.name]
    have hs1 := numL_len 1 f.deadline []
    have hs2 := numL_len 2 f.priority []
    simp only [sumW] at hs0 hs1 hs2
    have hz0 : (sb L0).size ≤ 400 := by rw [sb_size, hL0]; omega
    have HS0 := Lib.hid hs0; have HS1 := Lib.hid hs1; have HS2 := Lib.hid hs2; have HL0 := Lib.hid hL0; have HFN := Lib.hid hfn
    clear hs0 hs1 hs2 hL0 hfn
    go_cut [5] (fun s wx => ∃ L, s = .string (sb L) ∧ Hid (L = lnL 0 [f.name] ++ numL 1 f.deadline []) ∧ Hid (Below w1.heap.size w1 wx))
    case first =>
      by_cases hd : 0 < f.deadline
      · have hne : f.deadline ≠ leastN 1 := by show f.deadline ≠ 0; omega
        go_wp2_with fail
        refine (rtx_any f.deadline _).mono ?_
        rintro e w2 ⟨rfl, hb2⟩
        go_wp2
        go_meet
        exact ⟨L0 ++ numL 1 f.deadline [], congrArg Value.string (num_s0 L0 hne [68, 69, 65, 68, 76, 73, 78, 69, 32] rfl), Lib.hid (by rw [HL0.out]), Lib.hid hb2⟩
      · have hne : f.deadline = leastN 1 := by show f.deadline = 0; omega
        have HNE := Lib.hid hne
        clear hne
        go_wp2
        go_meet
        exact ⟨L0, rfl, Lib.hid (by rw [HL0.out, numL_no HNE.out, List.append_nil]), Lib.hid (Below.refl _ _)⟩
    case rest =>
      obtain ⟨L1, rfl, HL1, HB2⟩ := hcut
      clear p0 p1 p2 p3 hp hz0 HL0
      obtain ⟨p0, p1, p2, p3, hp⟩ := fcells HB2.out HO1.out
      have hz1 : (sb L1).size ≤ 1000 := by rw [sb_size, HL1.out]; have := HS0.out; have := HS1.out; have := HFN.out; simp only [List.length_append]; omega
      go_upto_if 32 with fail
      go_cut [5] (fun s wx => ∃ L, s = .string (sb L) ∧ Hid (L = headL f) ∧ Hid (Below w1.heap.size w1 wx))
      case first =>
        by_cases hd : 0 < f.priority
        · have hne : f.priority ≠ leastN 2 := by show f.priority ≠ 0; omega
          go_wp2_with fail
          refine (rtx_any f.priority _).mono ?_
          rintro e w2 ⟨rfl, hb2⟩
          go_wp2
          go_meet
          exact ⟨L1 ++ numL 2 f.priority [], congrArg Value.string (num_s0 L1 hne [80, 82, 73, 79, 82, 73, 84, 89, 32] rfl), Lib.hid (by rw [HL1.out]; rfl), Lib.hid (blw HB2.out hb2)⟩
        · have hne : f.priority = leastN 2 := by show f.priority = 0; omega
          have HNE := Lib.hid hne
          clear hne
          go_wp2
          go_meet
          exact ⟨L1, rfl, Lib.hid (by rw [HL1.out]; unfold headL; rw [numL_no HNE.out, List.append_nil]), HB2⟩
      case rest =>
        clear HL1 HB2 p0 p1 p2 p3 hp hz1 ht1 ht2 hnn hfs
        obtain ⟨LH, rfl, HLH, HB3⟩ := hcut
        have HHL : Hid ((headL f).length ≤ 2000) := Lib.hid (by have := HS0.out; have := HS1.out; have := HS2.out; have := HFN.out; unfold headL; simp only [List.length_append]; omega)
        obtain rfl := HLH.out
        clear HLH HS0 HS1 HS2
        go_wp2_with fail
        go_loopg [5, 6] f.tasks.length (fun g s i wr => ∃ (k : Nat) (L : List UInt8), k ≤ f.tasks.length ∧ g = f.tasks.length - k ∧ i = .int .i64 k ∧ s = .string (sb L) ∧ Hid (L = headL f ++ flatL taskL (f.tasks.take k)) ∧ Hid (Below w1.heap.size w1 wr))
        case atStart => exact ⟨0, headL f, Nat.zero_le _, rfl, rfl, rfl, Lib.hid (by simp [flatL]), HB3⟩
        case round =>
          obtain ⟨k, L, hk, rfl, rfl, rfl, HL, HB⟩ := hrel
          obtain ⟨p0, p1, p2, p3, hp⟩ := fcells HB.out HO1.out
          by_cases hlt : k < f.tasks.length
          · obtain ⟨t, ht⟩ : ∃ t, f.tasks[k]? = some t := ⟨_, List.getElem?_eq_getElem hlt⟩
            obtain ⟨b, off, A', c', rfl, h0, h1, h2, h3, h4, h5, hI⟩ := (H1.out.below HB.out).cells k _ ht
            have hmm := List.mem_of_getElem? ht
            have htn : (sb t.name).size ≤ 160 := by rw [sb_size]; exact HF.out.tn hmm
            have hzl : (sb L).size ≤ 100000 := by
              rw [sb_size, HL.out]
              have e1 := flatL_len (g := taskL) (B := 2000) (l := f.tasks.take k) fun x hx => taskL_len (HF.out.tn (List.mem_of_mem_take hx))
              have e2 := HHL.out
              rw [List.length_take] at e1
              rw [List.length_append]
              omega
            have HSN := Lib.hid (flatL_snoc (g := taskL) ht)
            have HTN := Lib.hid (HF.out.taskN hmm)
            clear hI ht hmm
            go_upto_if 60 with fail
            rw [show (sb L ++ ⟨#[74, 79, 66, 32]⟩ ++ sb t.name ++ ⟨#[10]⟩ : ByteArray) = sb (L ++ lnL 3 [t.name]) from ln_s1 L t.name [74, 79, 66, 32] 3 rfl]
            have hTO : TObj (wr.alloc (.cells #[.string (sb t.name), .int .i64 t.nodes, .int .i64 t.wall, .int .i64 t.retry, .bool t.done, .slice A' t.after.length c'] 57)) wr.heap.size t A' c' := alloc_at rfl
            have hW0 := al wr (.cells #[.string (sb t.name), .int .i64 t.nodes, .int .i64 t.wall, .int .i64 t.retry, .bool t.done, .slice A' t.after.length c'] 57)
            have hS0 : (wr.alloc (.cells #[.string (sb t.name), .int .i64 t.nodes, .int .i64 t.wall, .int .i64 t.retry, .bool t.done, .slice A' t.after.length c'] 57)).heap.size = wr.heap.size + 1 := by simp
            generalize wr.alloc (.cells #[.string (sb t.name), .int .i64 t.nodes, .int .i64 t.wall, .int .i64 t.retry, .bool t.done, .slice A' t.after.length c'] 57) = x0 at hTO hW0 hS0 ⊢
            have HBX := Lib.hid (blw HB.out hW0)
            generalize wr.heap.size = T at hTO hS0 hW0 ⊢
            have HTO := Lib.hid hTO; have HTL := Lib.hid (show T < x0.heap.size by omega)
            obtain ⟨L3, hL3⟩ : ∃ L3, L3 = L ++ lnL 3 [t.name] := ⟨_, rfl⟩
            rw [← hL3]
            have hz3 : (sb L3).size ≤ 110000 := by
              have h1 := lnL_len 3 [t.name]
              rw [sb_size] at hzl htn ⊢
              rw [hL3, List.length_append]
              simp only [sumW] at h1
              omega
            have HL3 := Lib.hid hL3
            have hTl : T < x0.heap.size := HTL.out
            clear hTO hW0 hS0 hL3 hzl h0 h1 h2 h3 h4 h5 p0 p1 p2 p3 hp
            obtain ⟨c0, c1, c2, c3, c4, c5⟩ := TObj.cells (T := T) HTO.out
            go_cut [5] (fun s wx => ∃ Ln, s = .string (sb Ln) ∧ Hid (Ln = L3 ++ numL 4 t.nodes [t.name]) ∧ Hid (Below x0.heap.size x0 wx))
            case first =>
              obtain ⟨c0, c1, c2, c3, c4, c5⟩ := TObj.cells (T := T) (HTO.out)
              have htx := HTS.out t.nodes
              by_cases hd : 1 < t.nodes
              · have hne : t.nodes ≠ leastN 4 := by show t.nodes ≠ 1; omega
                have HNE := Lib.hid hne
                clear hne
                obtain ⟨k1, k2, k3, k4, k5⟩ := adds5 (sb L3) ⟨#[78, 79, 68, 69, 83, 32]⟩ (sb t.name) (sb (textL t.nodes)) hz3 (by decide) htn htx (by decide)
                go_wp2_with fail
                go_region_held3 (fun (W : World) => W.cell? ⟨T, 0, none⟩ = some (.string (sb t.name)) ∧ W.cell? ⟨T, 1, none⟩ = some (.int .i64 t.nodes)) (first | exact ⟨c0, c1⟩ | exact ⟨d0, d1⟩) (first | (go_at_call 44; refine (rtx_any t.nodes _).mono ?_; rintro e w2 ⟨rfl, hb2⟩; have d0 := keep_cell hb2 c0; have d1 := keep_cell hb2 c1))
                all_goals have HB2 := Lib.hid (blw (drew_below _) hb2)
                all_goals go_wp2
                all_goals go_meet
                all_goals exact ⟨L3 ++ numL 4 t.nodes [t.name], congrArg Value.string (num_s1 L3 HNE.out t.name [78, 79, 68, 69, 83, 32] rfl), Lib.hid rfl, HB2⟩
              · have hne : t.nodes = leastN 4 := by have := HTN.out.n; show t.nodes = 1; omega
                have HNE := Lib.hid hne
                clear hne
                go_wp2
                go_meet
                exact ⟨L3, rfl, Lib.hid (by rw [numL_no HNE.out, List.append_nil]), Lib.hid (Below.refl _ _)⟩
            case rest =>
              obtain ⟨L4, rfl, HL4, HX4⟩ := hcut
              clear c0 c1 c2 c3 c4 c5
              have hz4 : (sb L4).size ≤ 111000 := by
                have h1 := numL_len 4 t.nodes [t.name]
                have h2 := hz3
                rw [sb_size] at h2 ⊢
                rw [sb_size] at htn
                rw [HL4.out, List.length_append]
                simp only [sumW] at h1
                omega
              clear hz3
              obtain ⟨c0, c1, c2, c3, c4, c5⟩ := TObj.cells (T := T) (HTO.out.keep (KeptQ.below HX4.out))
              have hTl : T < wc.heap.size := by have := HX4.out.size; have := HTL.out; omega
              go_upto_if 74 with fail
              go_cut [5] (fun s wx => ∃ Ln, s = .string (sb Ln) ∧ Hid (Ln = L4 ++ numL 5 t.wall [t.name]) ∧ Hid (Below x0.heap.size x0 wx))
              case first =>
                obtain ⟨c0, c1, c2, c3, c4, c5⟩ := TObj.cells (T := T) (HTO.out.keep (KeptQ.below HX4.out))
                have htx := HTS.out t.wall
                by_cases hd : 1 < t.wall
                · have hne : t.wall ≠ leastN 5 := by show t.wall ≠ 1; omega
                  have HNE := Lib.hid hne
                  clear hne
                  obtain ⟨k1, k2, k3, k4, k5⟩ := adds5 (sb L4) ⟨#[87, 65, 76, 76, 84, 73, 77, 69, 32]⟩ (sb t.name) (sb (textL t.wall)) hz4 (by decide) htn htx (by decide)
                  go_wp2_with fail
                  go_region_held3 (fun (W : World) => W.cell? ⟨T, 0, none⟩ = some (.string (sb t.name)) ∧ W.cell? ⟨T, 2, none⟩ = some (.int .i64 t.wall)) (first | exact ⟨c0, c2⟩ | exact ⟨d0, d1⟩) (first | (go_at_call 44; refine (rtx_any t.wall _).mono ?_; rintro e w2 ⟨rfl, hb2⟩; have d0 := keep_cell hb2 c0; have d1 := keep_cell hb2 c2))
                  all_goals have HB2 := Lib.hid (blw (drew_below _) hb2)
                  all_goals go_wp2
                  all_goals go_meet
                  all_goals exact ⟨L4 ++ numL 5 t.wall [t.name], congrArg Value.string (num_s1 L4 HNE.out t.name [87, 65, 76, 76, 84, 73, 77, 69, 32] rfl), Lib.hid rfl, Lib.hid (blw HX4.out HB2.out)⟩
                · have hne : t.wall = leastN 5 := by have := HTN.out.w; show t.wall = 1; omega
                  have HNE := Lib.hid hne
                  clear hne
                  go_wp2
                  go_meet
                  exact ⟨L4, rfl, Lib.hid (by rw [numL_no HNE.out, List.append_nil]), HX4⟩
              case rest =>
                obtain ⟨L5, rfl, HL5, HX5⟩ := hcut
                skip
                have hz5 : (sb L5).size ≤ 112000 := by
                  have h1 := numL_len 5 t.wall [t.name]
                  have h2 := hz4
                  rw [sb_size] at h2 ⊢
                  rw [sb_size] at htn
                  rw [HL5.out, List.length_append]
                  simp only [sumW] at h1
                  omega
                clear hz4
                obtain ⟨c0, c1, c2, c3, c4, c5⟩ := TObj.cells (T := T) (HTO.out.keep (KeptQ.below HX5.out))
                have hTl : T < wc.heap.size := by have := HX5.out.size; have := HTL.out; omega
                go_upto_if 88 with fail
                go_cut [5] (fun s wx => ∃ Ln, s = .string (sb Ln) ∧ Hid (Ln = L5 ++ numL 6 t.retry [t.name]) ∧ Hid (Below x0.heap.size x0 wx))
                case first =>
                  obtain ⟨c0, c1, c2, c3, c4, c5⟩ := TObj.cells (T := T) (HTO.out.keep (KeptQ.below HX5.out))
                  have htx := HTS.out t.retry
                  by_cases hd : 0 < t.retry
                  · have hne : t.retry ≠ leastN 6 := by show t.retry ≠ 0; omega
                    have HNE := Lib.hid hne
                    clear hne
                    obtain ⟨k1, k2, k3, k4, k5⟩ := adds5 (sb L5) ⟨#[82, 69, 84, 82, 89, 32]⟩ (sb t.name) (sb (textL t.retry)) hz5 (by decide) htn htx (by decide)
                    go_wp2_with fail
                    go_region_held3 (fun (W : World) => W.cell? ⟨T, 0, none⟩ = some (.string (sb t.name)) ∧ W.cell? ⟨T, 3, none⟩ = some (.int .i64 t.retry)) (first | exact ⟨c0, c3⟩ | exact ⟨d0, d1⟩) (first | (go_at_call 44; refine (rtx_any t.retry _).mono ?_; rintro e w2 ⟨rfl, hb2⟩; have d0 := keep_cell hb2 c0; have d1 := keep_cell hb2 c3))
                    all_goals have HB2 := Lib.hid (blw (drew_below _) hb2)
                    all_goals go_wp2
                    all_goals go_meet
                    all_goals exact ⟨L5 ++ numL 6 t.retry [t.name], congrArg Value.string (num_s1 L5 HNE.out t.name [82, 69, 84, 82, 89, 32] rfl), Lib.hid rfl, Lib.hid (blw HX5.out HB2.out)⟩
                  · have hne : t.retry = leastN 6 := by have := HTN.out.r; show t.retry = 0; omega
                    have HNE := Lib.hid hne
                    clear hne
                    go_wp2
                    go_meet
                    exact ⟨L5, rfl, Lib.hid (by rw [numL_no HNE.out, List.append_nil]), HX5⟩
                case rest =>
                  obtain ⟨L6, rfl, HL6, HX6⟩ := hcut
                  skip
                  have hz6 : (sb L6).size ≤ 113000 := by
                    have h1 := numL_len 6 t.retry [t.name]
                    have h2 := hz5
                    rw [sb_size] at h2 ⊢
                    rw [sb_size] at htn
                    rw [HL6.out, List.length_append]
                    simp only [sumW] at h1
                    omega
                  clear hz5
                  obtain ⟨c0, c1, c2, c3, c4, c5⟩ := TObj.cells (T := T) (HTO.out.keep (KeptQ.below HX6.out))
                  have hTl : T < wc.heap.size := by have := HX6.out.size; have := HTL.out; omega
                  have hd : t.done = true ∨ t.done = false := by cases t.done <;> simp
                  rcases hd with hd | hd
                  · have HEND : Hid (L6 ++ lnL 7 [t.name] = headL f ++ flatL taskL (f.tasks.take (k + 1))) := Lib.hid (by rw [HSN.out, HL6.out, HL5.out, HL4.out, HL3.out, HL.out]; unfold taskL; rw [if_pos hd]; simp only [List.append_assoc])
                    clear HL HL3 HL4 HL5 HL6 HSN HTN
                    go_wp2
                    go_roundg (f.tasks.length - (k + 1))
                    case measure => omega
                    case rel => exact ⟨k + 1, L6 ++ lnL 7 [t.name], by omega, rfl, by go_num, congrArg Value.string (ln_s1 L6 t.name [68, 79, 78, 69, 32] 7 rfl), HEND, Lib.hid (blw HBX.out HX6.out)⟩
                  · have HEND : Hid (L6 = headL f ++ flatL taskL (f.tasks.take (k + 1))) := Lib.hid (by rw [HSN.out, HL6.out, HL5.out, HL4.out, HL3.out, HL.out]; unfold taskL; rw [if_neg (by simp [hd])]; simp only [List.append_assoc, List.append_nil])
                    clear HL HL3 HL4 HL5 HL6 HSN HTN
                    go_wp2
                    go_roundg (f.tasks.length - (k + 1))
                    case measure => omega
                    case rel => exact ⟨k + 1, L6, by omega, rfl, by go_num, rfl, HEND, Lib.hid (blw HBX.out HX6.out)⟩
          · obtain rfl : k = f.tasks.length := by omega
            have HL1 : Hid (L = headL f ++ flatL taskL f.tasks) := Lib.hid (by have := HL.out; rwa [List.take_length] at this)
            have HLL : Hid ((headL f ++ flatL taskL f.tasks).length ≤ 100000) := Lib.hid (by
              have e1 := flatL_len (g := taskL) (B := 2000) (l := f.tasks) fun x hx => taskL_len (HF.out.tn hx)
              have e2 := HHL.out
              rw [List.length_append]
              omega)
            clear HL
            generalize eW : wr = w6 at *
            clear eW
            have hz0 : (sb L).size ≤ 100000 := by rw [sb_size, HL1.out]; exact HLL.out
            go_wp2_with fail
            go_loopg [5, 8] f.tasks.length (fun g s i wr => ∃ (k : Nat) (Lx : List UInt8), k ≤ f.tasks.length ∧ g = f.tasks.length - k ∧ i = .int .i64 k ∧ s = .string (sb Lx) ∧ Hid (Lx = headL f ++ flatL taskL f.tasks ++ flatL (parL f.tasks) (f.tasks.take k)) ∧ Hid (Below w1.heap.size w1 wr))
            case atStart => exact ⟨0, L, Nat.zero_le _, rfl, rfl, rfl, Lib.hid (by rw [HL1.out]; simp [flatL]), HB⟩
            case round =>
              clear HB hz0 HL1 p0 p1 p2 p3 hp
              obtain ⟨k, Lx, hk, rfl, rfl, rfl, HLx, HB⟩ := hrel
              obtain ⟨p0, p1, p2, p3, hp⟩ := fcells HB.out HO1.out
              by_cases hlt : k < f.tasks.length
              · obtain ⟨t, ht⟩ : ∃ t, f.tasks[k]? = some t := ⟨_, List.getElem?_eq_getElem hlt⟩
                obtain ⟨b, off, A', c', rfl, h0, h1, h2, h3, h4, h5, hI⟩ := (H1.out.below HB.out).cells k _ ht
                have hmm := List.mem_of_getElem? ht
                have htn : (sb t.name).size ≤ 160 := by rw [sb_size]; exact HF.out.tn hmm
                have hal := HF.out.al hmm
                have HIN := Lib.hid (HF.out.ain hmm)
                have hzx : (sb Lx).size ≤ 30000000 := by
                  have e1 := flatL_len (g := parL f.tasks) (B := 700020) (l := f.tasks.take k) fun x hx => parL_len (HF.out.pw (List.mem_of_mem_take hx))
                  have e2 := HLL.out
                  rw [List.length_take] at e1
                  rw [sb_size, HLx.out, List.length_append]
                  have e3 : min k f.tasks.length * 700020 ≤ 30 * 700020 := Nat.mul_le_mul_right _ (by omega)
                  omega
                have HSN := Lib.hid (flatL_snoc (g := parL f.tasks) ht)
                have HI := Lib.hid hI
                have HMM := Lib.hid hmm
                clear hI ht hmm
                have hz : t.after.length = 0 ∨ 0 < t.after.length := by omega
                rcases hz with hz | hz
                · have HN0 : Hid (parL f.tasks t = []) := Lib.hid (by unfold parL; rw [if_pos (List.eq_nil_of_length_eq_zero hz)])
                  go_wp2
                  go_roundg (f.tasks.length - (k + 1))
                  case measure => omega
                  case rel => exact ⟨k + 1, Lx, by omega, rfl, by go_num, rfl, Lib.hid (by rw [HSN.out, HN0.out, List.append_nil]; exact HLx.out), Lib.hid (blw HB.out (al _ _))⟩
                · have hne : t.after ≠ [] := fun e => by rw [e] at hz; simp at hz
                  have HNE := Lib.hid hne
                  clear hne
                  have hzi : (0 : Int) < (t.after.length : Int) := by omega
                  go_wp2_with fail
                  have hTO : TObj (wr.alloc (.cells #[.string (sb t.name), .int .i64 t.nodes, .int .i64 t.wall, .int .i64 t.retry, .bool t.done, .slice A' t.after.length c'] 57)) wr.heap.size t A' c' := alloc_at rfl
                  have hW0 := al wr (.cells #[.string (sb t.name), .int .i64 t.nodes, .int .i64 t.wall, .int .i64 t.retry, .bool t.done, .slice A' t.after.length c'] 57)
                  have hS0 : (wr.alloc (.cells #[.string (sb t.name), .int .i64 t.nodes, .int .i64 t.wall, .int .i64 t.retry, .bool t.done, .slice A' t.after.length c'] 57)).heap.size = wr.heap.size + 1 := by simp
                  generalize wr.alloc (.cells #[.string (sb t.name), .int .i64 t.nodes, .int .i64 t.wall, .int .i64 t.retry, .bool t.done, .slice A' t.after.length c'] 57) = x0 at hTO hW0 hS0 ⊢
                  have HBX := Lib.hid (blw HB.out hW0)
                  have HIX := Lib.hid (HI.out.below hW0)
                  have HHX := Lib.hid (H1.out.below HBX.out)
                  generalize wr.heap.size = T at hTO hS0 hW0 ⊢
                  have HTO := Lib.hid hTO; have HTL := Lib.hid (show T < x0.heap.size by omega)
                  rw [show (sb Lx ++ ⟨#[80, 65, 82, 69, 78, 84, 32]⟩ : ByteArray) = sb (Lx ++ (kwB 8 ++ [32])) from sb_cat _ _]
                  clear hTO hW0 hS0 p0 p1 p2 p3 hp h0 h1 h2 h3 h4 h5 HI
                  go_loopg [5, 10] t.after.length (fun g s i wq => ∃ (j : Nat) (Ly : List UInt8), j ≤ t.after.length ∧ g = t.after.length - j ∧ i = .int .i64 j ∧ s = .string (sb Ly) ∧ Hid (Ly = Lx ++ (kwB 8 ++ [32]) ++ flatL (spc f.tasks) (t.after.take j)) ∧ Hid (Below x0.heap.size x0 wq))
                  case atStart => exact ⟨0, _, Nat.zero_le _, rfl, rfl, rfl, Lib.hid (by simp [flatL]), Lib.hid (Below.refl _ _)⟩
                  case round =>
                    obtain ⟨j, Ly, hj, rfl, rfl, rfl, HLy, HBq⟩ := hrel
                    obtain ⟨p0, p1, p2, p3, hp⟩ := fcells (blw HBX.out HBq.out) HO1.out
                    obtain ⟨c0, c1, c2, c3, c4, c5⟩ := TObj.cells (T := T) (HTO.out.keep (KeptQ.below HBq.out))
                    have hTl : T < wr.heap.size := by have := HBq.out.size; have := HTL.out; omega
                    have hzy : (sb Ly).size ≤ 31000000 := by
                      have e1 := spc_len (fun t ht => HF.out.tn ht) (t.after.take j) (ts := f.tasks)
                      rw [List.length_take] at e1
                      rw [sb_size] at hzx
                      rw [sb_size, HLy.out]
                      simp only [List.length_append, List.length_cons, List.length_nil, kwB]
                      omega
                    by_cases hjl : j < t.after.length
                    · obtain ⟨b2, off2, y, rfl, hy, hcy⟩ := (HIX.out.below HBq.out).at_ hjl
                      obtain ⟨hy0, hy1⟩ := HIN.out y (List.mem_of_getElem? hy)
                      obtain ⟨u, rfl⟩ : ∃ u : Nat, y = (u : Int) := ⟨y.toNat, by omega⟩
                      have hul : u < f.tasks.length := by simpa using hy1
                      obtain ⟨t2, ht2⟩ : ∃ t, f.tasks[u]? = some t := ⟨_, List.getElem?_eq_getElem hul⟩
                      obtain ⟨b3, off3, A3, c3', e3, h0, _⟩ := (HHX.out.below HBq.out).cells u _ ht2
                      injection e3 with e3; injection e3 with e31 e32
                      subst e31 e32
                      have htn2 : (sb t2.name).size ≤ 160 := by rw [sb_size]; exact HF.out.tn (List.mem_of_getElem? ht2)
                      have HE2 := Lib.hid (flatL_snoc (g := spc f.tasks) hy)
                      have HN2 := Lib.hid (nameAt_get ht2)
                      clear hy hy0 hy1 ht2
                      go_wp2
                      go_quiet (fail)
                      go_wp2
                      go_roundg (t.after.length - (j + 1))
                      case measure => omega
                      case rel => exact ⟨j + 1, Ly ++ spc f.tasks u, by omega, rfl, by go_num, congrArg Value.string (spc_s Ly HN2.out), Lib.hid (by rw [HE2.out, HLy.out]; simp only [List.append_assoc]), Lib.hid (blw HBq.out (bdrew _ _))⟩
                    · obtain rfl : j = t.after.length := by omega
                      have HLz : Hid (Ly = Lx ++ (kwB 8 ++ [32]) ++ flatL (spc f.tasks) t.after) := Lib.hid (by have := HLy.out; rwa [List.take_length] at this)
                      go_wp2
                      go_roundg (f.tasks.length - (k + 1))
                      case measure => omega
                      case rel => exact ⟨k + 1, Lx ++ parL f.tasks t, by omega, rfl, by go_num, congrArg Value.string (par_s Lx f.tasks t HNE.out Ly HLz.out), Lib.hid (by rw [HSN.out, HLx.out]; simp only [List.append_assoc]), Lib.hid (blw HBX.out HBq.out)⟩
              · obtain rfl : k = f.tasks.length := by omega
                have HEQ : Hid (Lx = printL f) := Lib.hid (by have := HLx.out; rw [List.take_length] at this; rw [printL_eq]; exact this)
                go_wp2
                go_ret2
                exact ⟨by rw [← HEQ.out]; rfl, HB1.out.trans (HB.out.mono HB1.out.size)⟩
  · rw [if_neg he]
    have heb : (checkE f == 0) = false := by simp [he]
    have hne : ¬ checkE f = 0 := he
    go_enter Tryz.func18, Tryz.ntmps18
    go_wp2_with fail
    refine (HCK.out _ (al _ _)).mono ?_
    rintro e w1 ⟨rfl, hb1⟩
    go_wp2
    go_ret2
    exact ⟨rfl, blw (al _ _) hb1⟩

end Go.Proofs.YtdcfakbelnpljaaGreatDoor
