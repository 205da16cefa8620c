/- What is come to: reached, Above, Below. -/
import Derived.Test.YtaokbjacfdipmaaDoorDagRch
namespace Go.Proofs.YtaokbjacfdipmaaDoor
open Go.RowKit Go.Shelf
set_option linter.unusedVariables false

set_option maxHeartbeats 800000 in
theorem newSet_at (n : Nat) (w : World) (hn : n ≤ 30) :
    Calls Tryd.prog 37 #[.int .i64 (n : Int)] w fun e w' => ∃ v, e = .returned v ∧ SetAt w' w.heap.size n v 0 ∧ Below w.heap.size w w' ∧ v.ownBlock = some w.heap.size ∧ w.heap.size < w'.heap.size := by
  by_cases h0 : n = 0
  · subst h0
    have hm := fun W : World => run_mk W 58 62 _ 8 Tryd.underlying58 info_u64 rfl (by decide) 0 (by decide) 0 0 rfl rfl
    go_enter Tryd.func37, Tryd.ntmps37
    go_wp2
    go_ret
    exact ⟨_, rfl, ⟨⟨_, rfl, Nat.le_refl _, fun h => absurd rfl h⟩, by decide⟩, (Below.refl _ _).alloc (Nat.le_refl _) _, rfl, by simp⟩
  · have hn' : (n : Int) ≤ 30 := by omega
    have hq : ((n : Int) + 64 - 1) / 64 = 1 := by omega
    have hm := fun W : World => run_mk W 58 62 _ 8 Tryd.underlying58 info_u64 rfl (by decide) 1 (by decide) 1 1 rfl rfl
    go_enter Tryd.func37, Tryd.ntmps37
    go_wp2
    go_ret
    refine ⟨_, rfl, ⟨⟨_, by rw [if_neg h0]; rfl, Nat.le_refl _, fun _ => ⟨heap_alloc_new w _⟩⟩, Nat.pow_pos (by decide)⟩, (Below.refl _ _).alloc (Nat.le_refl _) _, rfl, by simp⟩

def RetP (w : World) (n : Nat) (P : Nat → Prop) (e : Ending) (w' : World) : Prop :=
  ∃ (p : Nat → Bool) (A : Option Addr) (c : Nat), (∀ u, u < n → (p u = true ↔ P u)) ∧ e = .returned (.slice A (num ((List.range n).filter p)).length c) ∧ Ints w' A c (num ((List.range n).filter p)) ∧ Below w.heap.size w w'

theorem Rch.start (n : Nat) (w w1 w2 : World) (lv fv : Value) (h1 : SetAt w1 w.heap.size n lv 0) (b1 : Below w.heap.size w w1) (o1 : lv.ownBlock = some w.heap.size) (l1 : w.heap.size < w1.heap.size)
    (h2 : SetAt w2 w1.heap.size n fv 0) (b2 : Below w1.heap.size w1 w2) (o2 : fv.ownBlock = some w1.heap.size) :
    Rch n w w2.heap.size (w2.heap.size + 1) (w2.heap.size + 1 + 1) lv fv ((w2.alloc (.cells #[lv] 58)).alloc (.cells #[.slice none 0 0] 30)) [] 0 0 := by
  have z2 := b2.size
  have c1 : Below w2.heap.size w2 (w2.alloc (.cells #[lv] 58)) := (Below.refl _ _).alloc (Nat.le_refl _) _
  have c2 : Below (w2.alloc (.cells #[lv] 58)).heap.size (w2.alloc (.cells #[lv] 58)) ((w2.alloc (.cells #[lv] 58)).alloc (.cells #[.slice none 0 0] 30)) := (Below.refl _ _).alloc (Nat.le_refl _) _
  have c3 := blw c1 c2
  have e1 := heap_alloc_new w2 (.cells #[lv] 58)
  have e2 := heap_alloc_new (w2.alloc (.cells #[lv] 58)) (.cells #[.slice none 0 0] 30)
  rw [World.size_alloc] at e2
  refine ⟨blw (blw b1 b2) c3, ⟨by omega, by omega⟩, (c2.block _ (by simp)).trans e1, ⟨.slice none 0 0, e2, Own1.nil _ _ _⟩, (h1.below b2).below c3, ?_, by rw [o1, o2]; intro e; injection e with e; omega, ⟨by omega, by omega, by simp⟩⟩
  obtain ⟨⟨g, e, hg, hw⟩, hl⟩ := h2.below c3
  exact ⟨⟨g, e, by omega, hw⟩, hl⟩

set_option maxRecDepth 100000 in
set_option maxHeartbeats 4000000 in
theorem reached_any (es : List (List Int)) (l : List Int) (n nl : Nat) (hen : es.length = n) (hel : l.length = nl) (w : World) (A Al : Option Addr) (c cl : Nat) (hn : n ≤ 30) (hlb : ∀ x ∈ es, x.length ≤ 1000) (hE : Valid es) (h1 : IRows w A c es) (h2 : Ints w Al cl l) (hT : Tab w) :
    Calls Tryd.prog 35 #[.slice A n c, .slice Al nl cl] w (RetP w n (FarP es l)) := by
  subst hen hel
  have hlm : l.length ≤ 9223372036854775807 := Nat.le_trans h2.len (by have := Sl.top h2; simpa [maxLen] using this)
  have H1 := Lib.hid h1
  have H2 := Lib.hid h2
  have HT := Lib.hid hT
  have HE := Lib.hid hE
  have HLB := Lib.hid hlb
  clear h1 h2 hT hE hlb
  go_enter Tryd.func35, Tryd.ntmps35
  go_wp2_with fail
  refine (newSet_at es.length _ hn).mono ?_
  rintro e w1 ⟨lv, rfl, hs1, hb1, ho1, hl1⟩
  obtain ⟨gl, kl, rfl⟩ : ∃ g k, lv = .slice (some ⟨g, 0, none⟩) k k := by
    obtain ⟨⟨g, e, _⟩, _⟩ := hs1
    exact ⟨g, _, e⟩
  have HS1 := Lib.hid hs1; have HB1 := Lib.hid hb1; have HO1 := Lib.hid ho1; have HL1 := Lib.hid hl1
  clear hs1 hb1 ho1 hl1
  go_wp2_with fail
  refine (newSet_at es.length _ hn).mono ?_
  rintro e w2 ⟨fv, rfl, hs2, hb2, ho2, hl2⟩
  obtain ⟨gf, kf, rfl⟩ : ∃ g k, fv = .slice (some ⟨g, 0, none⟩) k k := by
    obtain ⟨⟨g, e, _⟩, _⟩ := hs2
    exact ⟨g, _, e⟩
  have HR := Lib.hid (Rch.start es.length w w1 w2 _ _ HS1.out HB1.out HO1.out HL1.out hs2 hb2 ho2)
  clear hs2 hb2 ho2 hl2 HS1 HB1 HO1 HL1
  go_wp2_with fail
  generalize (w2.alloc (.cells #[.slice (some ⟨gl, 0, none⟩) kl kl] 58)).alloc (.cells #[.slice none 0 0] 30) = W0 at HR ⊢
  generalize w2.heap.size + 1 + 1 = N at HR
  generalize w2.heap.size + 1 = b7 at HR ⊢
  generalize w2.heap.size = bl at HR ⊢
  go_loopw [23] (fun i wr => ∃ (k : Nat) (ls : List Nat) (lw : Nat), k ≤ l.length ∧ i = .int .i64 k ∧ Hid (Rch es.length w bl b7 N (.slice (some ⟨gl, 0, none⟩) kl kl) (.slice (some ⟨gf, 0, none⟩) kf kf) wr ls lw 0) ∧ Hid (Lst es.length lw ls) ∧ Hid (Strt es l ls k)) (fun i _ => l.length - (intOf i).toNat)
  case atStart => exact ⟨0, [], 0, Nat.zero_le _, rfl, HR, Lib.hid ⟨List.nodup_nil, by simp, by simp⟩, Lib.hid (Strt.zero es l)⟩
  case round =>
    clear HR
    obtain ⟨k, ls, lw, hk, rfl, HR, HL, HS⟩ := hrel
    by_cases hkl : k < l.length
    · obtain ⟨b, off, x, rfl, hx, hcx0⟩ := H2.out.at_ hkl
      have hcx := (HR.out.below.cell (p := ⟨b, off + k, none⟩) (World.block_lt_of_cell? w _ hcx0)).trans hcx0
      have HX := Lib.hid hx
      clear hx hcx0
      by_cases hv : 0 ≤ x ∧ x < (es.length : Int)
      · obtain ⟨u, rfl⟩ : ∃ u : Nat, x = (u : Int) := ⟨x.toNat, by omega⟩
        have hul : u < es.length := by omega
        clear hv
        go_wp2_with fail
        refine (visit_any es.length w bl b7 N _ _ _ ls lw 0 u hn HR.out HL.out hul).mono ?_
        rintro e w3 ⟨⟨v3, rfl⟩, lw3, hr3, hl3⟩
        have HR3 := Lib.hid hr3; have HL3 := Lib.hid hl3; clear hr3 hl3
        go_wp2_with fail
        go_roundw
        case rel => exact ⟨k + 1, insL ls u, lw3, by omega, by go_num, HR3, HL3, Lib.hid (HS.out.in_ HX.out hul)⟩
        case measure => simp [intOf]; omega
      · have HV := Lib.hid hv
        by_cases h0 : x < 0
        · clear hv
          go_wp2_with fail
          go_roundw
          case rel => exact ⟨k + 1, ls, lw, by omega, by go_num, HR, HL, Lib.hid (HS.out.out HX.out HV.out)⟩
          case measure => simp [intOf]; omega
        · have h1 : (es.length : Int) ≤ x := by omega
          have h0' : 0 ≤ x := by omega
          have hd : decide (x < (es.length : Int)) = false := decide_eq_false (by omega)
          clear hv h0
          go_wp2_with fail
          go_roundw
          case rel => exact ⟨k + 1, ls, lw, by omega, by go_num, HR, HL, Lib.hid (HS.out.out HX.out HV.out)⟩
          case measure => simp [intOf]; omega
    · obtain rfl : k = l.length := by omega
      have HSR := Lib.hid HS.out.end_
      clear HS hkl hk
      go_wp2_with fail
      go_loopw [11] (fun i wr => ∃ (i0 : Nat) (ls : List Nat) (lw fw : Nat), i0 ≤ ls.length ∧ i = .int .i64 i0 ∧ Hid (Rch es.length w bl b7 N (.slice (some ⟨gl, 0, none⟩) kl kl) (.slice (some ⟨gf, 0, none⟩) kf kf) wr ls lw fw) ∧ Hid (Lst es.length lw ls) ∧ Hid (Srch es l ls i0 0 fun u => fw.testBit u)) (fun i _ => es.length - (intOf i).toNat)
      case atStart => exact ⟨0, ls, lw, 0, Nat.zero_le _, rfl, HR, HL, Lib.hid (by have := HSR.out; simpa using this)⟩
      case round =>
        clear HR HL HSR
        obtain ⟨i0, ls, lw, fw, hi0, rfl, HR, HL, HS⟩ := hrel
        have hlen := HL.out.len
        obtain ⟨vo, h7, ho⟩ := HR.out.x7
        obtain ⟨Ao, co, rfl, hio⟩ := OwnI.ints ho
        have c7 := blk_cell h7 0
        simp only [List.getElem?_toArray, List.getElem?_cons_zero, num_len] at c7
        have HIO := Lib.hid hio
        clear h7 ho hio
        by_cases hil : i0 < ls.length
        · obtain ⟨b, off, y, rfl, hy, hcy⟩ := HIO.out.at_ (k := i0) (by rw [num_len]; exact hil)
          obtain ⟨x, hx⟩ : ∃ x, ls[i0]? = some x := ⟨_, List.getElem?_eq_getElem hil⟩
          rw [num_get, hx] at hy
          injection hy with hy
          subst hy
          have hxl : x < es.length := HL.out.2.1 x (List.mem_of_getElem? hx)
          obtain ⟨b2, off2, A2, c2, rfl, hcr0, hir⟩ := H1.out.cells x _ (row_get hxl)
          have hcr := (HR.out.below.cell (p := ⟨b2, off2 + x, none⟩) (World.block_lt_of_cell? w _ hcr0)).trans hcr0
          have hrl := HLB.out _ (row_mem hxl)
          have HX := Lib.hid hx
          have HIR := Lib.hid hir
          clear hx hcr0 hir
          go_wp2_with fail
          go_loopw [53] (fun i wr => ∃ (j : Nat) (ls : List Nat) (lw fw : Nat), j ≤ (row es x).length ∧ i = .int .i64 j ∧ Hid (ls[i0]? = some x) ∧ Hid (Rch es.length w bl b7 N (.slice (some ⟨gl, 0, none⟩) kl kl) (.slice (some ⟨gf, 0, none⟩) kf kf) wr ls lw fw) ∧ Hid (Lst es.length lw ls) ∧ Hid (Srch es l ls i0 j fun u => fw.testBit u)) (fun i _ => (row es x).length - (intOf i).toNat)
          case atStart => exact ⟨0, ls, lw, fw, Nat.zero_le _, rfl, HX, HR, HL, HS⟩
          case round =>
            clear HR HL HS HX c7 hcy hcr HIO
            obtain ⟨j, ls, lw, fw, hj, rfl, HX, HR, HL, HS⟩ := hrel
            by_cases hjl : j < (row es x).length
            · obtain ⟨b3, off3, y, rfl, hy, hcy0⟩ := HIR.out.at_ hjl
              have hcy := (HR.out.below.cell (p := ⟨b3, off3 + j, none⟩) (World.block_lt_of_cell? w _ hcy0)).trans hcy0
              obtain ⟨u, rfl, hul, _⟩ := HE.out.at_ (List.mem_of_getElem? hy)
              have HY := Lib.hid hy
              obtain ⟨g', eg, _, hwd⟩ := HR.out.sf.open_ hul
              injection eg with eg eg1 eg2
              injection eg with eg
              injection eg with eg
              subst eg eg1
              have HW := Lib.hid hwd
              have HLT : Hid (fw < 2 ^ es.length) := Lib.hid HR.out.sf.lt
              have HLT' : Hid (fw < 1073741824) := Lib.hid (Nat.lt_of_lt_of_le HLT.out (Nat.pow_le_pow_right (n := 2) (by decide) hn))
              clear hy hcy0 hwd
              go_wp2_with fail
              refine (add_any gf u fw _ HW.out (by omega) HLT'.out).mono ?_
              rintro e w4 ⟨⟨v4, rfl⟩, hwr⟩
              have HR4 := Lib.hid (HR.out.wrF rfl (by omega) hwr (or_lt HLT.out hul))
              clear hwr
              go_wp2_with fail
              refine (visit_any es.length w bl b7 N _ _ _ ls lw _ u hn HR4.out HL.out hul).mono ?_
              rintro e w5 ⟨⟨v5, rfl⟩, lw5, hr5, hl5⟩
              have HR5 := Lib.hid hr5; have HL5 := Lib.hid hl5; clear hr5 hl5
              go_wp2_with fail
              go_roundw
              case rel => exact ⟨j + 1, insL ls u, lw5, fw ||| 2 ^ u, by omega, by go_num, Lib.hid (insL_get HX.out), HR5, HL5, Lib.hid (HS.out.step HE.out HX.out HY.out fun v _ => or_bit fw u v)⟩
              case measure => simp [intOf]; omega
            · obtain rfl : j = (row es x).length := by omega
              have hil2 : i0 < ls.length := (List.getElem?_eq_some_iff.1 HX.out).1
              have hlen2 := HL.out.len
              go_wp2_with fail
              go_roundw
              case rel => exact ⟨i0 + 1, ls, lw, fw, by omega, by go_num, HR, HL, Lib.hid (HS.out.next HX.out)⟩
              case measure => simp [intOf]; omega
        · obtain rfl : i0 = ls.length := by omega
          go_wp2_with fail
          refine (collect_any es.length fw _ _ _ hn HR.out.sf (HT.out.below HR.out.below HT.out.lt)).mono ?_
          rintro e w6 ⟨A6, c6, rfl, hi6, hb6⟩
          have HI6 := Lib.hid hi6; have HB6 := Lib.hid hb6; clear hi6 hb6
          go_wp2
          go_ret
          exact ⟨fun u => fw.testBit u, A6, c6, fun u hu => HS.out.done HE.out hu, rfl, HI6.out, blw HR.out.below HB6.out⟩

end Go.Proofs.YtaokbjacfdipmaaDoor
