/- Layer Dag over, for a seat that needs several layers: DagArrange, DagNew. -/
import Derived.Test.YtkicanegjkemoaaDoorDagC
import Derived.Test.YtkicanegjkemoaaDoorDagA
namespace Go.Proofs.YtkicanegjkemoaaDoor.Dag
set_option maxRecDepth 100000
/-! The order: the walk of arrange. -/
open Go.RowKit Go.Shelf
set_option linter.unusedVariables false
attribute [local go_sem] Oper.semAt_some

/-- how long the order is, read off its box -/
def lenAt (W : World) (b : Nat) : Nat := match W.cell? ⟨b, 0, none⟩ with
  | some (.slice _ n _) => n
  | _ => 0
theorem lenAt_arr {n : Nat} {w0 : World} {b3 b5 bm b6 b7 N : Nat} {hv vp : Value} {W : World} {o : List Nat} {ms : List Int} {wd : Nat} (h : Arr n w0 b3 b5 bm b6 b7 N hv vp W o ms wd) : lenAt W b5 = o.length := by
  obtain ⟨vo, h5, ho⟩ := h.x5
  obtain ⟨A, c, e, _⟩ := OwnI.ints ho
  subst e
  have := blk_cell h5 0
  simp only [List.getElem?_toArray, List.getElem?_cons_zero] at this
  unfold lenAt
  rw [this]
  exact num_len o

def RetO (w : World) (o : List Int) (e : Ending) (w' : World) : Prop := ∃ v, e = .returned v ∧ OwnI w' w.heap.size v o ∧ Below w.heap.size w w'

set_option maxRecDepth 100000 in
set_option maxHeartbeats 4000000 in
theorem arrange_in (m : Nat) (E : List (List Int)) (w : World) (A A' : Option Addr) (c c' : Nat) (hn : E.length ≤ 4096) (hE : Valid E) (h1 : IRows w A c (fro E)) (h2 : IRows w A' c' (rev E)) (hT : Tab w) :
    CallsIn Fence.wide m Tryd.prog 72 #[.slice A E.length c, .slice A' E.length c'] w (RetO w (num (order E))) := by
  have H1 := Lib.hid h1; clear h1
  have H2 := Lib.hid h2; clear h2
  have HT := Lib.hid hT; clear hT
  have HE := Lib.hid hE; clear hE
  have hmk := fun W : World => run_mk W 41 3 _ 8 Tryd.underlying41 info_int rfl (by decide) E.length (by omega) _ _ rfl rfl
  have HMK := Lib.hid hmk
  refine callsIn_of_wp_marks Tryd.func72 rfl trivial ?_ rfl
  simp only [Tryd.ntmps72, List.size_toArray, List.length_cons, List.length_nil, Nat.reduceAdd, Nat.reduceSub, Array.replicate_succ, Array.replicate_zero, List.push_toArray, List.append_toArray, List.nil_append, List.cons_append]
  gi_wp2_with fail
  refine wpIn_scope ?_
  gi_wp2_with fail
  refine wide_call (newSet_any E.length _ hn) ?_
  rintro e w1 ⟨vp, rfl, hsp, hb1⟩
  have ha := Arr.start E.length w w1 _ vp (by omega) hb1 hsp
  obtain ⟨gp, kk, hkk, rfl⟩ : ∃ gp kk, Hid (kk = (E.length + 63) / 64) ∧ vp = .slice (some ⟨gp, 0, none⟩) kk kk := by
    obtain ⟨⟨g, e, _⟩, _⟩ := hsp
    exact ⟨g, _, Lib.hid rfl, e⟩
  rw [begM_zero] at ha
  have HA := Lib.hid ha
  clear ha hsp hb1
  gi_wp2_with fail
  generalize w1.alloc (.cells #[.slice (some ⟨gp, 0, none⟩) kk kk] 116) = W0 at HA ⊢
  generalize w.heap.size + 1 + 1 + 1 = b6 at HA ⊢
  generalize w.heap.size + 1 + 1 = bm at HA ⊢
  generalize w.heap.size + 1 = b5 at HA ⊢
  generalize eb3 : w.heap.size = b3 at HA ⊢
  generalize w1.heap.size = b7 at HA ⊢
  clear HMK hmk
  gi_loopw [21] (fun i wr => ∃ (k wd : Nat), k ≤ E.length ∧ i = .int .i64 k ∧ Hid (Arr E.length w b3 b5 bm b6 b7 (b7 + 1) (.slice A' E.length c') (.slice (some ⟨gp, 0, none⟩) kk kk) wr [] (begM E k) wd) ∧ Hid (∀ i, i < E.length → wd.testBit i = begB E k i)) (fun i _ => E.length - (intOf i).toNat)
  case atStart => exact ⟨0, 0, Nat.zero_le _, rfl, HA, Lib.hid (by simp [begB])⟩
  case round =>
    obtain ⟨k, wd, hk, rfl, HR, HB⟩ := hrel
    by_cases hlt : k < E.length
    · obtain ⟨b, off, A2, c2, xs, rfl, hx, hcx, _⟩ := (H1.out.below HR.out.below).at_ (k := k) (by rw [fro_len]; exact hlt)
      rw [fro_get hlt] at hx
      injection hx with hx
      subst hx
      rw [num_len] at hcx
      have hbl : (befL E k).length ≤ 4096 := Nat.le_trans (nodup_len (bef_nodup E k) fun u hu => (bef_mem.1 hu).1) hn
      have e6 := blk_cell HR.out.x6 0
      have e7 := blk_cell HR.out.x7 0
      simp only [List.getElem?_toArray, List.getElem?_cons_zero] at e6 e7
      obtain ⟨em, fm, _⟩ := HR.out.cell (k := k) (range_map_get _ hlt)
      by_cases h0 : (befL E k).length = 0
      · have h0' : ((befL E k).length : Int) = 0 := by omega
        rw [h0] at hcx
        have HRM := HR.out.setM hlt (0 : Int)
        have HRM' := Lib.hid HRM
        have e7' := blk_cell HRM.x7 0
        simp only [List.getElem?_toArray, List.getElem?_cons_zero] at e7'
        have HW := Lib.hid HRM.xp.open_.2.2
        have H0 := Lib.hid h0
        clear HRM h0 h0'
        gi_wp2_with fail
        refine wide_call (add_any gp E.length k wd kk _ HW.out hkk.out hlt hn) ?_
        rintro e w2 ⟨⟨v2, rfl⟩, hwd2, ih, xh, hwr⟩
        have HWR := Lib.hid hwr; have HWD := Lib.hid hwd2; clear hwr hwd2
        gi_wp2_with fail
        go_roundw
        case rel =>
          refine ⟨k + 1, wd ||| 2 ^ k, by omega, by go_num, Lib.hid ?_, Lib.hid fun i hi => ?_⟩
          · rw [← begM_step hlt, H0.out]
            exact HRM'.out.wr rfl HWR.out HWD.out (or_lt HRM'.out.xp.lt hlt)
          · rw [or_bit, HB.out i hi, begB_step1 H0.out]
        case measure => simp [intOf]; omega
      · have h0' : (((befL E k).length : Int) == 0) = false := by rw [beq_eq_false_iff_ne]; omega
        have HRM' := Lib.hid (HR.out.setM hlt ((befL E k).length : Int))
        have H0 := Lib.hid h0
        clear h0
        gi_wp2_with fail
        go_roundw
        case rel =>
          refine ⟨k + 1, wd, by omega, by go_num, Lib.hid ?_, Lib.hid fun i hi => ?_⟩
          · rw [← begM_step hlt]
            exact HRM'.out
          · rw [HB.out i hi, begB_step2 H0.out]
        case measure => simp [intOf]; omega
    · obtain rfl : k = E.length := by omega
      have HR' : Hid (Arr E.length w b3 b5 bm b6 b7 (b7 + 1) (.slice A' E.length c') (.slice (some ⟨gp, 0, none⟩) kk kk) wr [] (missL E []) wd) := Lib.hid (by rw [← begM_end]; exact HR.out)
      have HB' : Hid (∀ i, i < E.length → wd.testBit i = may E [] i) := Lib.hid fun i hi => by rw [HB.out i hi, begB_end hi]
      clear HR HB
      gi_wp2_with fail
      refine wpIn_label ?_
      gi_wp2_with fail
      obtain ⟨INV, hINV⟩ : ∃ INV : Act → World → Prop, INV = fun a' W => ∃ (ds o : List Nat) (wd : Nat), Hid (Arr E.length w b3 b5 bm b6 b7 (b7 + 1) (.slice A' E.length c') (.slice (some ⟨gp, 0, none⟩) kk kk) W o (missL E o) wd) ∧ Hid (∀ i, i < E.length → wd.testBit i = may E o i) ∧ Hid (Ord E o) ∧ Hid (ordF E (E.length - o.length) o = order E) ∧ Hid (Marks W ds) ∧ Hid (∀ D ∈ ds, b7 + 1 ≤ D) ∧
        ∃ q8 q9 q10 q11 q12 q21 q22 q23 q24 q25 q26 q27 q28 q29 q30 q31 q32 q33 q34 q35 q36 q37 q38 q39 q40 q41 q42 q43 q44 q45 q46 q47 q48 q49 q50 q51 q52 q53 q54 q55 q56 q57 q58 q59 q60 q61 q62 q63 q64 q65 q66 q67 q68 q69 q70 q71 q72 : Value, a' = { tmps := #[.slice A E.length c, .slice A' E.length c', undef, .pointer (some ⟨b3, 0, none⟩), .slice none 0 0, .pointer (some ⟨b5, 0, none⟩), .pointer (some ⟨b6, 0, none⟩), .pointer (some ⟨b7, 0, none⟩), q8, q9, q10, q11, q12, .slice A E.length c, .int .i64 E.length, .slice (some ⟨bm, 0, none⟩) E.length E.length, .slice A E.length c, .int .i64 E.length, .slice (some ⟨gp, 0, none⟩) kk kk, .slice A E.length c, .int .i64 E.length, q21, q22, q23, q24, q25, q26, q27, q28, q29, q30, q31, q32, q33, q34, q35, q36, q37, q38, q39, q40, q41, q42, q43, q44, q45, q46, q47, q48, q49, q50, q51, q52, q53, q54, q55, q56, q57, q58, q59, q60, q61, q62, q63, q64, q65, q66, q67, q68, q69, q70, q71, q72], defers := ds.map markD } := ⟨_, rfl⟩
      have HINV := Lib.hid hINV
      clear hINV
      refine wpIn_loop INV (fun _ W => E.length - lenAt W b5) ?atStart ?round
      case atStart =>
        rw [HINV.out]
        exact ⟨[], [], wd, HR', HB', Lib.hid (Ord.nil E), Lib.hid rfl, Lib.hid ⟨List.nodup_nil, (fun D h => by cases h)⟩, Lib.hid (fun D h => by cases h), _, _, _, _, _, _, _, _, _, _, _, _, _, _, _, _, _, _, _, _, _, _, _, _, _, _, _, _, _, _, _, _, _, _, _, _, _, _, _, _, _, _, _, _, _, _, _, _, _, _, _, _, _, _, _, _, _, rfl⟩
      case round =>
        clear HR' HB'
        intro a' W hinv
        rw [HINV.out] at hinv
        obtain ⟨ds, o, wd, HR, HB, HO, HF, HM, HD, q8, q9, q10, q11, q12, q21, q22, q23, q24, q25, q26, q27, q28, q29, q30, q31, q32, q33, q34, q35, q36, q37, q38, q39, q40, q41, q42, q43, q44, q45, q46, q47, q48, q49, q50, q51, q52, q53, q54, q55, q56, q57, q58, q59, q60, q61, q62, q63, q64, q65, q66, q67, q68, q69, q70, q71, q72, rfl⟩ := hinv
        have e7 := blk_cell HR.out.x7 0
        simp only [List.getElem?_toArray, List.getElem?_cons_zero] at e7
        gi_wp2_with fail
        refine range_set (.slice (some ⟨gp, 0, none⟩) kk kk) w.heap.size E.length wd rfl rfl hn
          (fun pre W' => Hid (pre = []) ∧ Hid (Arr E.length w b3 b5 bm b6 b7 (b7 + 1) (.slice A' E.length c') (.slice (some ⟨gp, 0, none⟩) kk kk) W' o (missL E o) wd) ∧ Hid (Marks W' ds))
          (fun cd pre W' => Hid (cd = .exit 3 ∧ ∃ x wd', nextV E o = some x ∧ Arr E.length w b3 b5 bm b6 b7 (b7 + 1) (.slice A' E.length c') (.slice (some ⟨gp, 0, none⟩) kk kk) W' (o ++ [x]) (missL E (o ++ [x])) wd' ∧ (∀ i, i < E.length → wd'.testBit i = may E (o ++ [x]) i)) ∧ Hid (Marks W' ds))
          ?oi ?oix ?tab ?ks ?h0 (fun x => { tmps := #[.slice A E.length c, .slice A' E.length c', undef, .pointer (some ⟨b3, 0, none⟩), .slice none 0 0, .pointer (some ⟨b5, 0, none⟩), .pointer (some ⟨b6, 0, none⟩), .pointer (some ⟨b7, 0, none⟩), q8, q9, .int .i64 (x : Int), q11, q12, .slice A E.length c, .int .i64 E.length, .slice (some ⟨bm, 0, none⟩) E.length E.length, .slice A E.length c, .int .i64 E.length, .slice (some ⟨gp, 0, none⟩) kk kk, .slice A E.length c, .int .i64 E.length, q21, q22, q23, q24, q25, q26, q27, q28, q29, q30, q31, q32, q33, q34, q35, q36, q37, .slice (some ⟨gp, 0, none⟩) kk kk, .func (.func 83) #[.slice (some ⟨gp, 0, none⟩) kk kk] #[], .int .i64 (x : Int), q41, q42, q43, q44, q45, q46, q47, q48, q49, q50, q51, q52, q53, q54, q55, q56, q57, q58, q59, q60, q61, q62, q63, q64, q65, q66, q67, q68, q69, q70, q71, q72], defers := [] }) ?assign ?body ?done ?stop
        case oi =>
          rintro pre X Y row ⟨h1, h2, h3⟩ hg hr
          refine ⟨h1, Lib.hid (h2.out.turn hg fun r e => ⟨Nat.le_trans HR.out.below.size (hr r e).1, (hr r e).2⟩), Lib.hid ⟨h3.out.1, fun D hD => ?_⟩⟩
          rw [hg.block D (blk_lt (h3.out.2 D hD)) fun e => ?_]
          · exact h3.out.2 D hD
          · have := (hr D e.symm).1
            have := blk_lt (HM.out.2 D hD)
            omega
        case oix =>
          rintro cd pre X Y row ⟨h1, h3⟩ hg hr
          refine ⟨Lib.hid ?_, Lib.hid ⟨h3.out.1, fun D hD => ?_⟩⟩
          · obtain ⟨e1, x, wd', e2, e3, e4⟩ := h1.out
            exact ⟨e1, x, wd', e2, e3.turn hg fun r e => ⟨Nat.le_trans HR.out.below.size (hr r e).1, (hr r e).2⟩, e4⟩
          · rw [hg.block D (blk_lt (h3.out.2 D hD)) fun e => ?_]
            · exact h3.out.2 D hD
            · have := (hr D e.symm).1
              have := blk_lt (HM.out.2 D hD)
              omega
        case tab =>
          rintro pre X ⟨_, h2, _⟩
          exact HT.out.below h2.out.below HT.out.lt
        case ks =>
          rintro pre X ⟨_, h2, _⟩
          exact h2.out.xp
        case h0 => exact ⟨Lib.hid rfl, HR, HM⟩
        case assign =>
          intro l x X K hK
          gi_wp2
          exact hK
        case body =>
          rintro l pre x X ⟨h1, h2, h3⟩ ⟨post, hpost⟩
          obtain rfl := h1.out
          have hnx : nextV E o = some x := by rw [next_of_bits HB.out, hpost]; rfl
          obtain ⟨hxl, hxo, hxb⟩ := next_some hnx
          obtain ⟨b, off, A3, c3, eA', hc0, hI0⟩ := H2.out.cells x _ (rev_get hxl)
          subst eA'
          have hmx : may E o x = true := may_iff.2 ⟨hxo, hxb⟩
          obtain ⟨L, hL⟩ : ∃ L, behL E x = L := ⟨_, rfl⟩
          rw [hL, num_len] at hc0
          rw [hL] at hI0
          have hLl : L.length ≤ 4096 := by rw [← hL]; exact Nat.le_trans (nodup_len (beh_nodup E x) fun u hu => (beh_mem.1 hu).1) hn
          have hwd := h2.out.xp.open_.2.2
          have HNX := Lib.hid hnx
          have HXO := Lib.hid hxo
          have HMX := Lib.hid hmx
          have HL := Lib.hid hL
          have HC0 := Lib.hid hc0
          have HI0 := Lib.hid hI0
          have HLT : Hid (wd < 2 ^ E.length) := Lib.hid h2.out.xp.lt
          have HW := Lib.hid hwd
          obtain ⟨QB, hQB⟩ : ∃ QB, QB = bodyEnd (fun pre W' => Hid (pre = []) ∧ Hid (Arr E.length w b3 b5 bm b6 b7 (b7 + 1) (.slice (some ⟨b, off, none⟩) E.length c') (.slice (some ⟨gp, 0, none⟩) kk kk) W' o (missL E o) wd) ∧ Hid (Marks W' ds))
            (fun cd pre W' => Hid (cd = .exit 3 ∧ ∃ x wd', nextV E o = some x ∧ Arr E.length w b3 b5 bm b6 b7 (b7 + 1) (.slice (some ⟨b, off, none⟩) E.length c') (.slice (some ⟨gp, 0, none⟩) kk kk) W' (o ++ [x]) (missL E (o ++ [x])) wd' ∧ (∀ i, i < E.length → wd'.testBit i = may E (o ++ [x]) i)) ∧ Hid (Marks W' ds)) ([] ++ [x]) X := ⟨_, rfl⟩
          rw [← hQB]
          have HQB := Lib.hid hQB
          clear hnx hxo hxb hpost hwd h1 hQB hmx hL hc0 hI0
          have k7 := blk_cell h2.out.x7 0
          simp only [List.getElem?_toArray, List.getElem?_cons_zero] at k7
          gi_wp2_with fail
          refine wide_call_in (remove_any gp E.length x wd kk _ HW.out hkk.out hxl hn) ?_
          rintro e X1 ⟨⟨v1, rfl⟩, hwd1, i1, x1, hwr⟩
          have HA1 := Lib.hid (h2.out.wr rfl hwr hwd1 (clr_lt HLT.out))
          have HK1 := Lib.hid hwr.others
          clear k7 hwr hwd1
          obtain ⟨vo, k5, ho⟩ := HA1.out.x5
          have f5 := blk_frozen k5 0
          have c5 := blk_cell k5 0
          simp only [List.getElem?_toArray, List.getElem?_cons_zero] at c5
          have K5 := Lib.hid k5
          have HOW := Lib.hid ho
          have hol : (ints (num o)).length ≤ 4096 := by rw [ints_len, num_len]; exact Nat.le_trans HO.out.len hn
          obtain ⟨i0, hi0, hz0, hz1, hz2⟩ := info_parts info_int
          clear k5 ho
          gi_wp2_with (gi_at_builtin; refine wpListIn_append_own _ rfl _ _ 41 rfl (b7 + 1) 3 i0 (.int .i64 0) 1 8 Tryd.underlying41 hi0 hz0 hz1 hz2 rfl (by decide) vo _ _ rfl (World.ownsRow.alloc HOW.out _) ⟨X1.heap.size, 0, none⟩ 1 1 [.int .i64 (x : Int)] rfl rfl (cell_one_new _ _ _) (by simp [Value.oneCell']) (by simp only [maxLen]; omega) (by omega) (by have := HA1.out.ne.2.2; simp; omega) ?_; intro v' Y hown' hgrow _; obtain ⟨g9, cap9, rfl⟩ := ownsRow_succ hown'; obtain ⟨hap, hko, k9⟩ := HA1.out.append K5.out hgrow hown'; have c9 := blk_cell k9 0; have f9 := blk_frozen k9 0; simp only [List.getElem?_toArray, List.getElem?_cons_zero] at c9; have HAP := Lib.hid hap; have HKO := Lib.hid (HK1.out.trans hko); have x3 := blk_cell hap.x3 0; simp only [List.getElem?_toArray, List.getElem?_cons_zero] at x3; have hcx := (hap.below.cell (p := ⟨b, off + x, none⟩) (World.block_lt_of_cell? w _ HC0.out)).trans HC0.out; clear hap hko k9 hown' hgrow)
          generalize Y.setCell ⟨b5, 0, none⟩ (.slice (some ⟨g9, 0, none⟩) ((ints (num o)).length + 1) cap9) = Z at HAP HKO hcx x3 ⊢
          clear c9 f9 c5 f5 hi0 hz0 hz1 hz2
          gi_loopw [53] (fun i wr => ∃ (j wd' : Nat), j ≤ L.length ∧ i = .int .i64 j ∧ Hid (Arr E.length w b3 b5 bm b6 b7 (b7 + 1) (.slice (some ⟨b, off, none⟩) E.length c') (.slice (some ⟨gp, 0, none⟩) kk kk) wr (o ++ [x]) (midM E o (L.take j)) wd') ∧ Hid (∀ i, i < E.length → wd'.testBit i = midB E o x (L.take j) i) ∧ Hid (KeepsOthers X wr)) (fun i _ => L.length - (intOf i).toNat)
          case atStart =>
            refine ⟨0, clr wd x, Nat.zero_le _, rfl, Lib.hid (by rw [List.take_zero, mid_start]; exact HAP.out), Lib.hid fun i hi => ?_, HKO⟩
            rw [clr_bit, HB.out i hi, List.take_zero]
            simp [midB, Bool.and_comm]
          case round =>
            obtain ⟨j, wd', hj, rfl, HR2, HB2, HK2⟩ := hrel
            by_cases hjl : j < L.length
            · obtain ⟨bb, off3, y, rfl, hy, hcy0⟩ := HI0.out.at_ (k := j) (by rw [num_len]; exact hjl)
              have hcy := (HR2.out.below.cell (p := ⟨bb, off3 + j, none⟩) (World.block_lt_of_cell? w _ hcy0)).trans hcy0
              obtain ⟨u, hu⟩ : ∃ u, L[j]? = some u := ⟨_, List.getElem?_eq_getElem hjl⟩
              rw [num_get, hu] at hy
              injection hy with hy
              subst hy
              have hum : u ∈ behL E x := by rw [HL.out]; exact List.mem_of_getElem? hu
              obtain ⟨hul, hua⟩ := beh_mem.1 hum
              have htk : L.take (j + 1) = L.take j ++ [u] := by rw [List.take_add_one, hu]; rfl
              have hut : u ∉ L.take j := by
                intro hin
                have hnd : (L.take (j + 1)).Nodup := List.Nodup.sublist (List.take_sublist _ _) (by rw [← HL.out]; exact beh_nodup E x)
                rw [htk, List.nodup_append] at hnd
                exact hnd.2.2 u hin u (by simp) rfl
              have hcn : 1 ≤ cntN E o u := by
                rcases Nat.eq_zero_or_pos (cntN E o u) with h0 | h0
                · exact absurd (cnt_zero.1 h0 x (bef_mem.2 ⟨hxl, hua⟩)) HXO.out
                · exact h0
              obtain ⟨cm, fm, _⟩ := HR2.out.cell (mid_get hul hut)
              have e6 := blk_cell HR2.out.x6 0
              simp only [List.getElem?_toArray, List.getElem?_cons_zero] at e6
              have hms := mid_step (E := E) (o := o) (P := L.take j) hul
              have HTK := Lib.hid htk
              have HUT := Lib.hid hut
              clear hcy0 hu hum hua hut htk
              by_cases h1 : cntN E o u = 1
              · have HCN := Lib.hid h1
                rw [h1] at cm hms
                have HM2 := Lib.hid (HR2.out.setM hul (0 : Int))
                have hms' : (midM E o (L.take j)).set u 0 = midM E o (L.take j ++ [u]) := hms
                have HMS := Lib.hid hms'
                obtain ⟨cm', _, _⟩ := HM2.out.cell (k := u) (x := 0) (by rw [List.getElem?_set]; simp; rw [HR2.out.len]; exact hul)
                have e6' := blk_cell HM2.out.x6 0
                have e7' := blk_cell HM2.out.x7 0
                simp only [List.getElem?_toArray, List.getElem?_cons_zero] at e6' e7'
                have HW2 := Lib.hid HM2.out.xp.open_.2.2
                clear hms hms' h1
                gi_wp2_with fail
                refine wide_call_in (add_any gp E.length u wd' kk _ HW2.out hkk.out hul hn) ?_
                rintro e X5 ⟨⟨v5, rfl⟩, hwd5, i5, x5, hwr5⟩
                have HA5 := Lib.hid (HM2.out.wr rfl hwr5 hwd5 (or_lt HM2.out.xp.lt hul))
                have HK5 := Lib.hid ((HK2.out.trans (KeepsOthers.setCell _ _ _)).trans hwr5.others)
                clear hwr5 hwd5
                gi_wp2_with fail
                go_roundw
                case rel =>
                  refine ⟨j + 1, wd' ||| 2 ^ u, by omega, by go_num, Lib.hid ?_, Lib.hid fun i hi => ?_, HK5⟩
                  · rw [HTK.out, ← HMS.out]; exact HA5.out
                  · rw [or_bit, HB2.out i hi, HTK.out, midB_step1 HCN.out]
                case measure => simp [intOf]; omega
              · obtain ⟨cn, hcn'⟩ : ∃ cn, cntN E o u = cn := ⟨_, rfl⟩
                rw [hcn'] at cm hms h1 hcn
                have h2' : 2 ≤ cn := by omega
                have hz : ((cn : Int) - 1 == 0) = false := by rw [beq_eq_false_iff_ne]; omega
                have hcb : cn ≤ 4096 := by
                  rw [← hcn']
                  unfold cntN
                  exact Nat.le_trans (List.length_filter_le _ _) (Nat.le_trans (nodup_len (bef_nodup E u) fun v hv => (bef_mem.1 hv).1) hn)
                have HCN := Lib.hid hcn'
                have HM2 := Lib.hid (HR2.out.setM hul ((cn : Int) - 1))
                have HMS := Lib.hid hms
                obtain ⟨cm', _, _⟩ := HM2.out.cell (k := u) (x := (cn : Int) - 1) (by rw [List.getElem?_set]; simp; rw [HR2.out.len]; exact hul)
                have e6' := blk_cell HM2.out.x6 0
                simp only [List.getElem?_toArray, List.getElem?_cons_zero] at e6'
                clear hms hcn'
                gi_wp2_with fail
                go_roundw
                case rel =>
                  refine ⟨j + 1, wd', by omega, by go_num, Lib.hid ?_, Lib.hid fun i hi => ?_, Lib.hid (HK2.out.trans (KeepsOthers.setCell _ _ _))⟩
                  · rw [HTK.out, ← HMS.out]; exact HM2.out
                  · rw [HB2.out i hi, HTK.out, midB_step2 (by rw [HCN.out]; exact h1)]
                case measure => simp [intOf]; omega
            · obtain rfl : j = L.length := by omega
              gi_wp2_with fail
              rw [HQB.out]
              refine ⟨HK2.out, Lib.hid ⟨rfl, x, wd', HNX.out, ?_, fun i hi => ?_⟩, Lib.hid (h3.out.others HK2.out)⟩
              · have := HR2.out
                rw [List.take_length, ← HL.out, mid_end HXO.out hxl] at this
                exact this
              · rw [HB2.out i hi, List.take_length, ← HL.out, midB_end HO.out HMX.out hxl hi]
        case done =>
          rintro D X hD ⟨h1, h2, h3⟩ hdef
          have hnx : nextV E o = none := by rw [next_of_bits HB.out, h1.out]; rfl
          have hoo : order E = o := by rw [← HF.out, ordF_none _ hnx]
          have HOO := Lib.hid hoo
          clear hoo hnx
          obtain ⟨vo, k5, ho⟩ := h2.out.x5
          have c5 := blk_cell k5 0
          simp only [List.getElem?_toArray, List.getElem?_cons_zero] at c5
          have HOW := Lib.hid ho
          have HDEF := Lib.hid hdef
          clear k5 ho hdef
          gi_wp2_with fail
          refine leaves_marks (base := w.heap.size) (D :: ds) X ⟨List.nodup_cons.2 ⟨fun hin => ?_, h3.out.1⟩, fun D' hD' => ?_⟩ (fun D' hD' => ?_) fun W' hB' hk hsz => ?_
          · have := blk_lt (HM.out.2 D hin)
            omega
          · rcases List.mem_cons.1 hD' with rfl | hin
            · exact HDEF.out
            · exact h3.out.2 D' hin
          · rcases List.mem_cons.1 hD' with rfl | hin
            · exact Nat.le_trans HR.out.below.size hD
            · have := HD.out D' hin
              have := HR.out.lo.2.2.2.2
              omega
          · refine ⟨_, results_tmp rfl _ _ _, _, rfl, ?_, h2.out.below.trans hB'⟩
            rw [HOO.out]
            refine (HOW.out.rebase (base' := w.heap.size) (by have := h2.out.lo.2.2.2.2; omega)).keep fun bo e => hk bo fun D' hD' e' => ?_
            subst e'
            obtain ⟨cs, hcs⟩ := HOW.out.typed e
            rcases List.mem_cons.1 hD' with rfl | hin
            · rw [HDEF.out] at hcs; cases hcs
            · rw [h3.out.2 _ hin] at hcs; cases hcs
        case stop =>
          rintro D cd pre X hD ⟨h1, h3⟩ hdef
          obtain ⟨rfl, x, wd', e2, e3, e4⟩ := h1.out
          have E3 := Lib.hid e3
          have E4 := Lib.hid e4
          have E2 := Lib.hid e2
          have HDEF := Lib.hid hdef
          clear e2 e3 e4 h1 hdef
          gi_wp2_with fail
          rw [HINV.out]
          have hl := (HO.out.snoc E2.out).len
          refine ⟨⟨D :: ds, o ++ [x], wd', E3, E4, Lib.hid (HO.out.snoc E2.out), Lib.hid (by rw [← ordF_next HO.out E2.out]; exact HF.out), Lib.hid ⟨List.nodup_cons.2 ⟨fun hin => ?_, h3.out.1⟩, fun D' hD' => ?_⟩, Lib.hid fun D' hD' => ?_, _, _, _, _, _, _, _, _, _, _, _, _, _, _, _, _, _, _, _, _, _, _, _, _, _, _, _, _, _, _, _, _, _, _, _, _, _, _, _, _, _, _, _, _, _, _, _, _, _, _, _, _, _, _, _, _, _, rfl⟩, ?_⟩
          · have := blk_lt (HM.out.2 D hin)
            omega
          · rcases List.mem_cons.1 hD' with rfl | hin
            · exact HDEF.out
            · exact h3.out.2 D' hin
          · rcases List.mem_cons.1 hD' with rfl | hin
            · exact Nat.le_trans HR.out.ne.2.2 hD
            · exact HD.out D' hin
          · rw [lenAt_arr E3.out, lenAt_arr HR.out]
            simp at hl ⊢
            omega

/-! New, and the graph in memory. -/
open Go.RowKit
set_option linter.unusedVariables false

theorem rowsV_rev (E : List (List Int)) : rowsV E.length (behL E) = (rev E).map ints := by unfold rowsV rev; rw [List.map_map]; rfl
theorem rev_rows_len {E : List (List Int)} (hn : E.length ≤ 4096) : ∀ l ∈ rev E, l.length ≤ 1000000 := by
  intro l hl
  obtain ⟨v, _, rfl⟩ := List.mem_map.1 hl
  rw [num_len]
  have := nodup_len (beh_nodup E v) fun u hu => (beh_mem.1 hu).1
  omega
def RetI (w : World) (n : Nat) (ls : List (List Int)) (e : Ending) (w' : World) : Prop := ∃ A c, e = .returned (.slice A n c) ∧ IRows w' A c ls ∧ Below w.heap.size w w'
theorem reverse_at (E : List (List Int)) (n : Nat) (he : E.length = n) (w : World) (A : Option Addr) (c : Nat) (h : IRows w A c E) (hn : n ≤ 4096) (hE : Valid E) (hlen : ∀ l ∈ E, l.length ≤ 1000000) :
    Calls Tryd.prog 71 #[.slice A n c] w (RetI w n (rev E)) := by
  subst he
  refine (reverse_any E w A c h hn hE hlen).mono ?_
  rintro e w' ⟨A', c', vs, rfl, ht, hb⟩
  rw [rowsV_rev] at ht
  exact ⟨A', c', rfl, ht.irows.2, hb⟩
theorem arrange_any (E : List (List Int)) (n : Nat) (he : E.length = n) (w : World) (A A' : Option Addr) (c c' : Nat) (hn : n ≤ 4096) (hE : Valid E) (h1 : IRows w A c (fro E)) (h2 : IRows w A' c' (rev E)) (hT : Tab w) :
    Calls Tryd.prog 72 #[.slice A n c, .slice A' n c'] w (RetO w (num (order E))) := by
  subst he
  exact (callsIn_wide (n := 0)).1 (arrange_in 0 E w A A' c c' hn hE h1 h2 hT)

/-- a graph in memory -/
structure Gr (w : World) (E : List (List Int)) (p : Value) : Prop where
  ex : ∃ g A1 c1 A2 c2 A3 c3, p = .pointer (some ⟨g, 0, none⟩) ∧ w.heap[g]? = some (.cells #[.slice A1 E.length c1, .slice A2 E.length c2, .slice A3 E.length c3] 95 (0, 0)) ∧
    IRows w A1 c1 (fro E) ∧ IRows w A2 c2 (rev E) ∧ Ints w A3 c3 (num (order E))
  full : (order E).length = E.length
theorem Gr.below {w w' : World} {E : List (List Int)} {p : Value} (h : Gr w E p) (hb : Below w.heap.size w w') : Gr w' E p := by
  obtain ⟨g, A1, c1, A2, c2, A3, c3, e, hg, h1, h2, h3⟩ := h.ex
  exact ⟨⟨g, A1, c1, A2, c2, A3, c3, e, (hb.block g (blk_lt hg)).trans hg, h1.below hb, h2.below hb, h3.below hb⟩, h.full⟩

def newE (E : List (List Int)) : Int := if okAll E then (if (order E).length < E.length then 40 else 0) else 2
theorem newE_arg {E : List (List Int)} (h : okAll E = false) : newE E = 2 := by simp [newE, h]
theorem newE_cyc {E : List (List Int)} (h : okAll E = true) (h2 : (order E).length < E.length) : newE E = 40 := by simp [newE, h, h2]
theorem newE_ok {E : List (List Int)} (h : okAll E = true) (h2 : ¬ (order E).length < E.length) : newE E = 0 := by simp only [newE, h, if_true, if_neg h2]
def RetNew (w : World) (E : List (List Int)) (e : Ending) (w' : World) : Prop :=
  ∃ p, e = .returned (.tuple #[p, .int .i64 (newE E)]) ∧ Below w.heap.size w w' ∧ (newE E = 0 → Gr w' E p) ∧ (newE E ≠ 0 → p = .pointer none)

set_option maxHeartbeats 1600000 in
theorem new_any (E : List (List Int)) (n : Nat) (he : E.length = n) (w : World) (A : Option Addr) (c : Nat) (h : IRows w A c E) (hn : n ≤ 4096) (hlen : ∀ l ∈ E, l.length ≤ 1000000) (hT : Tab w) :
    Calls Tryd.prog 53 #[.slice A n c] w (RetNew w E) := by
  subst he
  have H := Lib.hid h; clear h
  have HT := Lib.hid hT; clear hT
  have HL := Lib.hid hlen; clear hlen
  cases hok : okAll E with
  | false =>
    have HE := Lib.hid (newE_arg hok)
    have HOK := Lib.hid hok; clear hok
    go_enter Tryd.func53, Tryd.ntmps53
    go_wp2_with fail
    refine (areV_any E _ _ _ H.out (by omega) false HOK.out).mono ?_
    rintro e w1 ⟨rfl, rfl⟩
    go_wp2_with fail
    go_ret2
    exact ⟨_, by rw [HE.out]; rfl, Below.refl _ _, (fun h => by rw [HE.out] at h; cases h), fun _ => rfl⟩
  | true =>
    have HV := Lib.hid (okAll_iff.1 hok)
    have HOK := Lib.hid hok; clear hok
    obtain ⟨m, hm⟩ : ∃ m, (order E).length = m := ⟨_, rfl⟩
    have hml : m ≤ E.length := by rw [← hm]; exact (order_ord E).len
    have HM := Lib.hid hm; clear hm
    by_cases hlt : m < E.length
    · have HE := Lib.hid (newE_cyc HOK.out (by rw [HM.out]; exact hlt))
      go_enter Tryd.func53, Tryd.ntmps53
      go_wp2_with fail
      refine (areV_any E _ _ _ H.out (by omega) true HOK.out).mono ?_
      rintro e w1 ⟨rfl, rfl⟩
      go_wp2_with fail
      refine (reverse_at E _ rfl _ _ _ H.out hn HV.out HL.out).mono ?_
      rintro e w2 ⟨A2, c2, rfl, h2, hb2⟩
      have H2 := Lib.hid h2; have HB2 := Lib.hid hb2; clear h2 hb2
      go_wp2_with fail
      refine (reverse_at (rev E) _ (rev_len E) _ _ _ H2.out hn (valid_rev E) (rev_rows_len hn)).mono ?_
      rintro e w3 ⟨A3, c3, rfl, h3, hb3⟩
      rw [rev_rev] at h3
      have H3 := Lib.hid h3; have HB3 := Lib.hid hb3; clear h3 hb3
      go_wp2_with fail
      refine (arrange_any E _ rfl _ _ _ _ _ hn HV.out H3.out (H2.out.below HB3.out) (HT.out.below (blw HB2.out HB3.out) HT.out.lt)).mono ?_
      rintro e w4 ⟨v4, rfl, h4, hb4⟩
      have HB4 := Lib.hid (blw (blw HB2.out HB3.out) hb4)
      obtain ⟨A4, c4, rfl, h4i⟩ := OwnI.ints h4
      clear h4 hb4 h4i
      have hl4 : (num (order E)).length = m := by rw [num_len, HM.out]
      rw [hl4]
      clear hl4
      go_wp2_with fail
      go_ret2
      exact ⟨_, by rw [HE.out]; rfl, HB4.out, (fun h => by rw [HE.out] at h; cases h), fun _ => rfl⟩
    · have HE := Lib.hid (newE_ok HOK.out (by rw [HM.out]; exact hlt))
      obtain rfl : m = E.length := by omega
      clear hlt
      go_enter Tryd.func53, Tryd.ntmps53
      go_wp2_with fail
      refine (areV_any E _ _ _ H.out (by omega) true HOK.out).mono ?_
      rintro e w1 ⟨rfl, rfl⟩
      go_wp2_with fail
      refine (reverse_at E _ rfl _ _ _ H.out hn HV.out HL.out).mono ?_
      rintro e w2 ⟨A2, c2, rfl, h2, hb2⟩
      have H2 := Lib.hid h2; have HB2 := Lib.hid hb2; clear h2 hb2
      go_wp2_with fail
      refine (reverse_at (rev E) _ (rev_len E) _ _ _ H2.out hn (valid_rev E) (rev_rows_len hn)).mono ?_
      rintro e w3 ⟨A3, c3, rfl, h3, hb3⟩
      rw [rev_rev] at h3
      have H3 := Lib.hid h3; have HB3 := Lib.hid hb3; clear h3 hb3
      go_wp2_with fail
      refine (arrange_any E _ rfl _ _ _ _ _ hn HV.out H3.out (H2.out.below HB3.out) (HT.out.below (blw HB2.out HB3.out) HT.out.lt)).mono ?_
      rintro e w4 ⟨v4, rfl, h4, hb4⟩
      have HBX := Lib.hid hb4
      have HB4 := Lib.hid (blw (blw HB2.out HB3.out) hb4)
      obtain ⟨A4, c4, rfl, h4i⟩ := OwnI.ints h4
      have H4 := Lib.hid h4i
      clear h4 hb4 h4i
      have hl4 : (num (order E)).length = E.length := by rw [num_len, HM.out]
      rw [hl4]
      clear hl4
      go_wp2_with fail
      go_ret2
      have hbl : Below w4.heap.size w4 (w4.alloc (.cells #[.slice A3 E.length c3, .slice A2 E.length c2, .slice A4 E.length c4] 95)) := (Below.refl _ _).alloc (Nat.le_refl _) _
      refine ⟨_, by rw [HE.out]; rfl, blw HB4.out hbl, fun _ => ⟨⟨_, A3, c3, A2, c2, A4, c4, rfl, heap_alloc_new w4 _, H3.out.below (blw HBX.out hbl), H2.out.below (blw (blw HB3.out HBX.out) hbl), H4.out.below hbl⟩, HM.out⟩, fun h => absurd HE.out h⟩

end Go.Proofs.YtkicanegjkemoaaDoor.Dag

