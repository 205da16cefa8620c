/- Bare. -/
import Derived.Test.YtaokbjacfdipmaaDoorDagJoin
import Derived.Test.YtaokbjacfdipmaaDoorDagRBare
namespace Go.Proofs.YtaokbjacfdipmaaDoor
open Go.RowKit
set_option linter.unusedVariables false

/-- words, where there are any -/
def rowW (f : Nat → Option Nat) (v : Nat) : List Value :=
  match f v with
  | none => []
  | some x => [.int .u64 (x : Int)]
def rowsW (n : Nat) (f : Nat → Option Nat) : List (List Value) := (List.range n).map (rowW f)
theorem rowW_some {f : Nat → Option Nat} {v x : Nat} (h : f v = some x) : rowW f v = [.int .u64 (x : Int)] := by unfold rowW; rw [h]
theorem rowsW_get {n v : Nat} (f : Nat → Option Nat) (h : v < n) : (rowsW n f)[v]? = some (rowW f v) := range_map_get _ h
def updW (f : Nat → Option Nat) (v x z : Nat) : Option Nat := if z = v then some x else f z
theorem updW_eq (f : Nat → Option Nat) (v x : Nat) : updW f v x v = some x := if_pos rfl
theorem updW_ne {f : Nat → Option Nat} {v x z : Nat} (h : z ≠ v) : updW f v x z = f z := if_neg h
theorem rowsW_set {n v : Nat} {f : Nat → Option Nat} {x : Nat} (hv : v < n) : (rowsW n f).set v [.int .u64 (x : Int)] = rowsW n (updW f v x) :=
  range_map_set hv (by rw [rowW_some (updW_eq f v x)]) fun i _ hi => by unfold rowW; rw [updW_ne hi]
theorem rowsW_none (n : Nat) : List.replicate n ([] : List Value) = rowsW n fun _ => none := by
  unfold rowsW
  apply List.ext_getElem?
  intro i
  rcases Nat.lt_or_ge i n with hi | hi
  · rw [range_map_get _ hi, List.getElem?_replicate, if_pos hi]; rfl
  · rw [List.getElem?_eq_none (by simpa using hi), List.getElem?_eq_none (by simpa using hi)]
theorem rowsV_none (n : Nat) : List.replicate n ([] : List Value) = rowsV n fun _ => [] := by
  unfold rowsV
  apply List.ext_getElem?
  intro i
  rcases Nat.lt_or_ge i n with hi | hi
  · rw [range_map_get _ hi, List.getElem?_replicate, if_pos hi]; rfl
  · rw [List.getElem?_eq_none (by simpa using hi), List.getElem?_eq_none (by simpa using hi)]
/-- a table stays where the blocks of its types stay -/
theorem Tbl.keepK {w w' : World} {base : Nat} {t e : TypeId} {v : Value} {vs : List Value} {rows : List (List Value)} (h : Tbl w base t e v vs rows)
    (hk : ∀ (b : Nat) (cs : Array Value) (t' : TypeId), w.heap[b]? = some (.cells cs t' (0, 0)) → (t' = t ∨ t' = e) → w'.heap[b]? = w.heap[b]?) : Tbl w' base t e v vs rows :=
  h.keep (fun b eb => by
    obtain ⟨cs, hc⟩ := h.out.typed eb
    exact hk b cs t hc (Or.inl rfl)) fun k u b hu eb => by
    obtain ⟨_, _, cs, hc⟩ := h.lt hu eb
    exact hk b cs e hc (Or.inr rfl)
theorem blk_type {w : World} {b : Nat} {cs cs' : Array Value} {t t' : TypeId} (h : w.heap[b]? = some (.cells cs t (0, 0))) (h' : w.heap[b]? = some (.cells cs' t' (0, 0))) : t = t' := by
  rw [h] at h'; injection h' with h'; injection h'

theorem Tbl.heapEq {w w' : World} {base : Nat} {t e : TypeId} {v : Value} {vs : List Value} {rows : List (List Value)} (h : Tbl w base t e v vs rows) (he : w'.heap = w.heap) : Tbl w' base t e v vs rows :=
  h.keep (fun b _ => by rw [he]) fun k u b _ _ => by rw [he]
theorem Tbl.keepSet {w : World} {base : Nat} {t e t0 : TypeId} {v : Value} {vs : List Value} {rows : List (List Value)} (h : Tbl w base t e v vs rows) {g i : Nat} {x : Value} (hg : ∃ cs, w.heap[g]? = some (.cells cs t0 (0, 0))) (n1 : t0 ≠ t) (n2 : t0 ≠ e) :
    Tbl (w.setCell ⟨g, i, none⟩ x) base t e v vs rows :=
  h.keepK fun b cs t' hb ht => blk_other fun e2 => by
    subst e2
    obtain ⟨cs0, h0⟩ := hg
    have := blk_type h0 hb
    rcases ht with ht | ht
    · exact n1 (this.trans ht)
    · exact n2 (this.trans ht)
theorem Tbl.keepWr {w w' : World} {base : Nat} {t e t0 : TypeId} {v : Value} {vs : List Value} {rows : List (List Value)} (h : Tbl w base t e v vs rows) {g i : Nat} {x : Value} (hw : Wr w w' g i x) (hg : ∃ cs, w.heap[g]? = some (.cells cs t0 (0, 0))) (n1 : t0 ≠ t) (n2 : t0 ≠ e) :
    Tbl w' base t e v vs rows := (h.keepSet (i := i) (x := x) hg n1 n2).heapEq hw.heap
/-- a table of other types stays where a row is appended to -/
theorem Tbl.keepApp {w w1 : World} {base b1 : Nat} {t e t1 e1 : TypeId} {v v1 : Value} {vs vs1 : List Value} {rows rows1 : List (List Value)} (h : Tbl w base t e v vs rows) (h1 : Tbl w b1 t1 e1 v1 vs1 rows1) (na : t1 ≠ t) (nb : t1 ≠ e) (nc : e1 ≠ t) (nd : e1 ≠ e)
    {k g i : Nat} {u x : Value} (hu : vs1[k]? = some u) {tmp : Obj} (hg : (w.alloc tmp).grownBy w1 u.ownBlock) (hv : v1.ownBlock = some g) : Tbl (w1.setCell ⟨g, i, none⟩ x) base t e v vs rows := by
  refine h.keepK fun b cs t' hb ht => ?_
  have hbl := blk_lt hb
  have hbg : b ≠ g := fun e2 => by
    subst e2
    obtain ⟨cs0, h0⟩ := h1.out.typed hv
    have := blk_type h0 hb
    rcases ht with ht | ht
    · exact na (this.trans ht)
    · exact nb (this.trans ht)
  rw [blk_other hbg]
  refine (hg.block b (by simp; omega) fun e2 => ?_).trans (Below.heap_alloc w tmp b hbl)
  obtain ⟨_, _, cs0, h0⟩ := h1.lt hu e2.symm
  have := blk_type h0 hb
  rcases ht with ht | ht
  · exact nc (this.trans ht)
  · exact nd (this.trans ht)
theorem Word.keepApp {w w1 : World} {b1 gi a : Nat} {t1 e1 : TypeId} {v1 : Value} {vs1 : List Value} {rows1 : List (List Value)} (h : Word w gi a) (h1 : Tbl w b1 t1 e1 v1 vs1 rows1) (na : t1 ≠ 62) (nc : e1 ≠ 62)
    {k g i : Nat} {u x : Value} (hu : vs1[k]? = some u) {tmp : Obj} (hg : (w.alloc tmp).grownBy w1 u.ownBlock) (hv : v1.ownBlock = some g) : Word (w1.setCell ⟨g, i, none⟩ x) gi a := by
  refine h.keep ?_
  have hbl := h.lt
  have hbg : gi ≠ g := fun e2 => by
    subst e2
    obtain ⟨cs0, h0⟩ := h1.out.typed hv
    exact na (blk_type h0 h.blk)
  rw [blk_other hbg]
  refine (hg.block gi (by simp; omega) fun e2 => ?_).trans (Below.heap_alloc w tmp gi hbl)
  obtain ⟨_, _, cs0, h0⟩ := h1.lt hu e2.symm
  exact nc (blk_type h0 h.blk)
theorem Word.sl {w : World} {g a : Nat} (h : Word w g a) : Sl w (some ⟨g, 0, none⟩) 1 [.int .u64 (a : Int)] := by
  refine ⟨fun k u hu => ?_, Nat.le_refl _, by simp [maxLen], fun e => by cases e⟩
  match k, hu with
  | 0, hu => simp at hu; subst hu; exact ⟨g, 0, rfl, h.cell⟩
  | k + 1, hu => simp at hu

/-- each word tells what its vertex waits for -/
def WordsOf (E : List (List Int)) (P : Nat → Prop) (f : Nat → Option Nat) : Prop := ∀ v, P v → ∃ x, f v = some x ∧ x < 2 ^ E.length ∧ ∀ u, u < E.length → x.testBit u = plusB E v u
def fB (E : List (List Int)) (i z : Nat) : List Nat := if z ∈ (order E).take i then barL E z else []
def fM (E : List (List Int)) (i v j z : Nat) : List Nat := if z = v then barI E v j else fB E i z
theorem fM_zero {E : List (List Int)} {i v : Nat} (h : (order E)[i]? = some v) : fM E i v 0 = fB E i := by
  funext z
  unfold fM
  split
  · rename_i e
    subst e
    rw [barI_zero]
    unfold fB
    rw [if_neg (not_yet (order_ord E).nodup h)]
  · rfl
theorem fM_end {E : List (List Int)} {i v : Nat} (h : (order E)[i]? = some v) : fM E i v (befL E v).length = fB E (i + 1) := by
  funext z
  unfold fM fB
  rw [List.take_add_one, h]
  by_cases e : z = v
  · subst e
    rw [if_pos rfl, barI_full, if_pos (by simp)]
  · rw [if_neg e]
    simp [e]
theorem fM_skip {E : List (List Int)} {i v j u : Nat} (hu : (befL E v)[j]? = some u) (hi : indB E v u = true) : fM E i v (j + 1) = fM E i v j := by
  funext z
  unfold fM
  rw [barI_succ hu, hi]
  simp
theorem fM_put {E : List (List Int)} {i v j u : Nat} (hu : (befL E v)[j]? = some u) (hi : indB E v u = false) : fM E i v (j + 1) v = fM E i v j v ++ [u] ∧ ∀ z, z ≠ v → fM E i v (j + 1) z = fM E i v j z := by
  constructor
  · unfold fM
    rw [if_pos rfl, if_pos rfl, barI_succ hu, hi]; simp
  · intro z hz
    unfold fM
    rw [if_neg hz, if_neg hz]
theorem fB_full {E : List (List Int)} (hf : (order E).length = E.length) : rowsV E.length (fB E E.length) = rowsV E.length (barL E) :=
  rowsV_congr fun i hi => by unfold fB; rw [if_pos (by rw [List.take_of_length_le (by omega)]; exact ord_all hf hi)]
theorem pow30 {n : Nat} (h : n ≤ 30) : 2 ^ n ≤ 1073741824 := Nat.pow_le_pow_right (n := 2) (by decide) h

set_option maxRecDepth 100000 in
set_option maxHeartbeats 4000000 in
theorem bare_any (w : World) (E : List (List Int)) (p : Value) (h : Gr w E p) (hE : Valid E) (hn : E.length ≤ 30) :
    Calls Tryd.prog 20 #[p] w (RetI w E.length (bareE E)) := by
  have HF : Hid ((order E).length = E.length) := Lib.hid h.full
  have HE := Lib.hid hE
  have H := Lib.hid h
  obtain ⟨g, A1, c1, A2, c2, A3, c3, ep, hg, h1, h2, h3⟩ := h.ex
  clear h hE h2
  subst ep
  have e0 := blk_cell hg 0
  simp only [show (#[Value.slice A1 E.length c1, Value.slice A2 E.length c2, Value.slice A3 E.length c3] : Array Value)[0]? = some (.slice A1 E.length c1) from rfl] at e0
  have e2 := blk_cell hg 2
  simp only [show (#[Value.slice A1 E.length c1, Value.slice A2 E.length c2, Value.slice A3 E.length c3] : Array Value)[2]? = some (.slice A3 E.length c3) from rfl] at e2
  have hmk1 := fun W : World => run_mk W 22 30 _ 24 Tryd.underlying22 info_is rfl (by decide) E.length (by omega) _ _ rfl rfl
  have hmk2 := fun W : World => run_mk W 56 58 _ 24 Tryd.underlying56 info_set rfl (by decide) E.length (by omega) _ _ rfl rfl
  have H1 := Lib.hid h1; have H3 := Lib.hid h3
  have HE0 := Lib.hid e0; have HE2 := Lib.hid e2
  clear h1 h3 hg e0 e2
  go_enter Tryd.func20, Tryd.ntmps20
  go_wp2_with fail
  refine (len_any H.out).mono ?_
  rintro e w1 ⟨rfl, rfl⟩
  go_wp2_with fail
  refine (len_any (H.out.below (al w _))).mono ?_
  rintro e w1 ⟨rfl, rfl⟩
  have HA : Hid (Below w.heap.size w ((w.alloc (.cells (Array.replicate E.length (.slice none 0 0)) 30)).alloc (.cells (Array.replicate E.length (.slice none 0 0)) 58))) := Lib.hid (blw (al w _) (al _ _))
  have c2 := (HA.out.cell (p := ⟨g, 2, none⟩) (World.block_lt_of_cell? w _ HE2.out)).trans HE2.out
  have ht1 := (Tbl.make (w := w) (base := w.heap.size) (t := 30) (e := 3) (Nat.le_refl _) E.length (by omega) rfl).below (al _ (.cells (Array.replicate E.length (.slice none 0 0)) 58))
  have ht2 := Tbl.make (w := w.alloc (.cells (Array.replicate E.length (.slice none 0 0)) 30)) (base := w.heap.size) (t := 58) (e := 62) (by simp) E.length (by omega) (g := w.heap.size + 1) (by simp)
  rw [rowsV_none, show (fun _ => []) = fB E 0 from by funext z; simp [fB]] at ht1
  rw [rowsW_none] at ht2
  have HT1 := Lib.hid ht1; have HT2 := Lib.hid ht2
  clear ht1 ht2
  go_wp2_with fail
  clear hmk1 hmk2 c2
  generalize (w.alloc (.cells (Array.replicate E.length (.slice none 0 0)) 30)).alloc (.cells (Array.replicate E.length (.slice none 0 0)) 58) = W0 at HA HT1 HT2 ⊢
  generalize eg : w.heap.size = gb at HT1 HT2 HA ⊢
  have HG := Lib.hid eg
  clear eg
  go_loopw [25] (fun iv wr => ∃ (i : Nat) (f : Nat → Option Nat) (vs us : List Value), i ≤ E.length ∧ iv = .int .i64 i ∧ Hid (Tbl wr gb 30 3 (.slice (some ⟨gb, 0, none⟩) E.length E.length) vs (rowsV E.length (fB E i))) ∧ Hid (Tbl wr gb 58 62 (.slice (some ⟨gb + 1, 0, none⟩) E.length E.length) us (rowsW E.length f)) ∧ Hid (WordsOf E (fun v => v ∈ (order E).take i) f) ∧ Hid (Below gb w wr)) (fun iv _ => E.length - (intOf iv).toNat)
  case atStart => exact ⟨0, _, _, _, Nat.zero_le _, rfl, HT1, HT2, Lib.hid (fun v hv => by simp at hv), HA⟩
  case round =>
    clear HT1 HT2 HA
    obtain ⟨i, f, vs, us, hi, rfl, HT1, HT2, HW, HB0⟩ := hrel
    have HB : Hid (Below w.heap.size w wr) := Lib.hid (by rw [HG.out]; exact HB0.out)
    by_cases hil : i < E.length
    · obtain ⟨x, hx⟩ : ∃ x, (order E)[i]? = some x := ⟨_, List.getElem?_eq_getElem (by rw [HF.out]; exact hil)⟩
      have hxl := (order_ord E).lt x (List.mem_of_getElem? hx)
      obtain ⟨b3, off3, y, rfl, hy, hcy0⟩ := H3.out.at_ (k := i) (by rw [num_len, HF.out]; exact hil)
      have hcy := (HB.out.cell (p := ⟨b3, off3 + i, none⟩) (World.block_lt_of_cell? w _ hcy0)).trans hcy0
      rw [num_get, hx] at hy
      injection hy with hy
      subst hy
      obtain ⟨b2, off2, Ax, cx, rfl, hcr0, hir⟩ := H1.out.cells x _ (fro_get hxl)
      obtain ⟨B, hB⟩ : ∃ B, befL E x = B := ⟨_, rfl⟩
      have hbeh := (order_ord E).behind i x hx
      have hBl : B.length ≤ 30 := by rw [← hB]; exact Nat.le_trans (nodup_len (bef_nodup E x) fun u hu => (bef_mem.1 hu).1) hn
      have hBlt : ∀ u ∈ B, u < E.length := fun u hu => by rw [← hB] at hu; exact (bef_mem.1 hu).1
      rw [hB] at hcr0 hir hbeh
      rw [num_len] at hcr0
      have HX := Lib.hid hx; have HIR := Lib.hid hir; have HBE := Lib.hid hB; have HBH := Lib.hid hbeh; have HCR := Lib.hid hcr0; have HBLT := Lib.hid hBlt
      clear hx hir hB hbeh hcy0 hcr0 hBlt
      obtain ⟨WI, hWI⟩ : ∃ WI, WI = wr := ⟨_, rfl⟩
      rw [← hWI] at HT1 HT2 HB HB0 hcy ⊢
      clear hWI
      go_wp2_with fail
      clear hcy
      refine (len_any (H.out.below HB.out)).mono ?_
      rintro e w1 ⟨rfl, rfl⟩
      go_wp2_with fail
      refine (newSet_at E.length _ hn).mono ?_
      rintro e w2 ⟨sv, rfl, hs2, hb2, ho2, hl2⟩
      obtain ⟨gi, rfl, hgi, hwd⟩ := hs2.open_ hxl
      have hgi2 : WI.heap.size = gi := by simpa [Value.ownBlock] using ho2.symm
      have HWD := Lib.hid hwd; have HB2 := Lib.hid hb2
      clear hs2 hb2 ho2 hwd
      have cg0 := ((blw HB.out HB2.out).cell (p := ⟨g, 0, none⟩) (World.block_lt_of_cell? w _ HE0.out)).trans HE0.out
      have cr0 := ((blw HB.out HB2.out).cell (p := ⟨b2, off2 + x, none⟩) (World.block_lt_of_cell? w _ HCR.out)).trans HCR.out
      go_wp2_with fail
      clear cg0 cr0
      go_loopw [40] (fun jv wr => ∃ j a : Nat, j ≤ B.length ∧ jv = .int .i64 j ∧ a < 2 ^ E.length ∧ Hid (Word wr gi a) ∧ Hid (∀ u, u < E.length → a.testBit u = overB E x j u) ∧ Hid (Below WI.heap.size WI wr)) (fun jv _ => B.length - (intOf jv).toNat)
      case atStart => exact ⟨0, 0, Nat.zero_le _, rfl, Nat.pow_pos (by decide), HWD, Lib.hid (fun u _ => by rw [overB_zero, Nat.zero_testBit]), HB2⟩
      case round =>
        clear HWD HB2
        obtain ⟨j, a, hj, rfl, ha, HWD, HBIT, HBI⟩ := hrel
        have hp30 := pow30 hn
        by_cases hjl : j < B.length
        · obtain ⟨u, hu⟩ : ∃ u, B[j]? = some u := ⟨_, List.getElem?_eq_getElem hjl⟩
          have hum := List.mem_of_getElem? hu
          have hul := HBLT.out u hum
          obtain ⟨z, hz1, hz2, hz3⟩ := HW.out u (HBH.out u hum)
          have HOS := Lib.hid (overB_succ (E := E) (v := x) (j := j) (x := u) (by rw [HBE.out]; exact hu))
          have HZ3 := Lib.hid hz3
          have hbw := blw HB.out HBI.out
          obtain ⟨b4, o4, u1, rfl, hu1, cu0⟩ := HIR.out.at_ (k := j) (by rw [num_len]; exact hjl)
          have cu := (hbw.cell (p := ⟨b4, o4 + j, none⟩) (World.block_lt_of_cell? w _ cu0)).trans cu0
          rw [num_get, hu] at hu1
          injection hu1 with hu1
          subst hu1
          obtain ⟨ga, Au, cu2, eA, _, _, _, cau, _, hou⟩ := (HT2.out.below HBI.out).row (rowsW_get f hul)
          injection eA with eA
          injection eA with eA
          subst eA
          rw [rowW_some hz1] at cau hou
          obtain ⟨gu, eAu, _, _, czu, _⟩ := Own1.at_ hou (k := 0) rfl
          subst eAu
          have cau' : wr.cell? ⟨gb + 1, u, none⟩ = some (.slice (some ⟨gu, 0, none⟩) 1 cu2) := cau
          have HJ := Lib.hid (join_any gi gu a z cu2 wr HWD.out czu (by omega) (by omega))
          clear hu hum hz1 hz3 cu0 cau hou czu hbw
          go_wp2_with fail
          refine HJ.out.mono ?_
          rintro e w3 ⟨⟨v3, rfl⟩, hwr⟩
          have HWR := Lib.hid hwr
          clear hwr HJ cu cau'
          go_wp2_with fail
          go_roundw
          case rel => exact ⟨j + 1, a ||| z, by omega, by go_num, Nat.or_lt_two_pow ha hz2, Lib.hid (HWR.out.word HWD.out), Lib.hid (fun t ht => by rw [Nat.testBit_or, HBIT.out t ht, HZ3.out t ht, HOS.out t]), Lib.hid (HWR.out.below HBI.out (by omega))⟩
          case measure => simp [intOf]; omega
        · obtain rfl : j = B.length := by omega
          obtain ⟨W1, hW1⟩ : ∃ W1, W1 = wr := ⟨_, rfl⟩
          rw [← hW1] at HWD HBI ⊢
          clear hW1
          have HCL := Lib.hid (cloneS_any (.int .u64 (a : Int)) rfl W1 ⟨gi, 0, none⟩ 1 HWD.out.sl)
          go_wp2_with fail
          refine HCL.out.mono ?_
          rintro e w5 ⟨A9, c9, rfl, ho9, hb9⟩
          obtain ⟨gn, eA9, hgn, hgn2, _⟩ := Own1.at_ ho9 (k := 0) rfl
          subst eA9
          have hT2 := HT2.out.below HBI.out
          obtain ⟨u0, hu0, _⟩ := hT2.at_ (rowsW_get f hxl)
          have hsz := HBI.out.size
          have hsz0 := (HT2.out.out.lt (b := gb + 1) rfl)
          obtain ⟨hT2u, cau, fau⟩ := hT2.update (by decide) rfl hu0 (w1 := w5) (u' := .slice (some ⟨gn, 0, none⟩) 1 c9) (us' := [.int .u64 (a : Int)]) (fun b hb _ => hb9.block b hb) (ho9.rebase (by omega)) (Or.inr fun b e => (ho9.lt e).1)
          rw [rowsW_set hxl] at hT2u
          have htg := (hT2.below hb9).out.typed (b := gb + 1) rfl
          have HT1n := Lib.hid ((((HT1.out.below HBI.out).below hb9)).keepSet (i := x) (x := .slice (some ⟨gn, 0, none⟩) 1 c9) htg (by decide) (by decide))
          have HT2n := Lib.hid hT2u
          have HWDn : Hid (Word (w5.setCell ⟨gb + 1, x, none⟩ (.slice (some ⟨gn, 0, none⟩) 1 c9)) gi a) := Lib.hid (HWD.out.keep ((blk_other (by omega)).trans (hb9.block gi HWD.out.lt)))
          have HBn : Hid (Below gb w (w5.setCell ⟨gb + 1, x, none⟩ (.slice (some ⟨gn, 0, none⟩) 1 c9))) := Lib.hid ((HB0.out.trans ((blw HBI.out hb9).mono (by omega))).setCell (p := ⟨gb + 1, x, none⟩) (by show gb ≤ gb + 1; omega) _)
          have HUS : Hid ((us.set x (.slice (some ⟨gn, 0, none⟩) 1 c9))[x]? = some (.slice (some ⟨gn, 0, none⟩) 1 c9)) := Lib.hid (by rw [List.getElem?_set, if_pos rfl, if_pos (List.getElem?_eq_some_iff.1 hu0).1])
          have hgig : gi < gn := by have := HWD.out.lt; omega
          have HIN : Hid (∀ u, u < E.length → a.testBit u = indB E x u) := Lib.hid (fun u hu => by rw [HBIT.out u hu]; unfold indB; rw [HBE.out])
          have hbw : Below w.heap.size w (w5.setCell ⟨gb + 1, x, none⟩ (.slice (some ⟨gn, 0, none⟩) 1 c9)) := by rw [HG.out]; exact HBn.out
          have cg0 := (hbw.cell (p := ⟨g, 0, none⟩) (World.block_lt_of_cell? w _ HE0.out)).trans HE0.out
          have cr0 := (hbw.cell (p := ⟨b2, off2 + x, none⟩) (World.block_lt_of_cell? w _ HCR.out)).trans HCR.out
          clear hT2 hT2u hu0 htg ho9 hb9 hsz hsz0 HCL hgn hgn2 hbw
          go_wp2_with fail
          clear cau fau cg0 cr0
          generalize w5.setCell ⟨gb + 1, x, none⟩ (.slice (some ⟨gn, 0, none⟩) 1 c9) = W6 at HT1n HT2n HWDn HBn ⊢
          generalize us.set x (.slice (some ⟨gn, 0, none⟩) 1 c9) = us2 at HT2n HUS
          clear HT1 HT2 HWD HBI HB HB0 HBIT
          go_loopw [64] (fun jv wr => ∃ (j y : Nat) (vs : List Value), j ≤ B.length ∧ jv = .int .i64 j ∧ y < 2 ^ E.length ∧ Hid (Tbl wr gb 30 3 (.slice (some ⟨gb, 0, none⟩) E.length E.length) vs (rowsV E.length (fM E i x j))) ∧ Hid (Tbl wr gb 58 62 (.slice (some ⟨gb + 1, 0, none⟩) E.length E.length) us2 (rowsW E.length (updW f x y))) ∧ Hid (Word wr gi a) ∧ Hid (∀ u, u < E.length → y.testBit u = (decide (u ∈ B.take j) || indB E x u)) ∧ Hid (Below gb w wr)) (fun jv _ => B.length - (intOf jv).toNat)
          case atStart => exact ⟨0, a, vs, Nat.zero_le _, rfl, ha, by rw [fM_zero HX.out]; exact HT1n, HT2n, HWDn, Lib.hid (fun u hu => by rw [HIN.out u hu]; simp), HBn⟩
          case round =>
            clear HT1n HT2n HWDn HBn
            obtain ⟨j, y, vs, hj, rfl, hy, HT1, HT2, HWD, HY, HB0⟩ := hrel
            have HB : Hid (Below w.heap.size w wr) := Lib.hid (by rw [HG.out]; exact HB0.out)
            by_cases hjl : j < B.length
            · obtain ⟨u, hu⟩ : ∃ u, B[j]? = some u := ⟨_, List.getElem?_eq_getElem hjl⟩
              have hul := HBLT.out u (List.mem_of_getElem? hu)
              have HU : Hid ((befL E x)[j]? = some u) := Lib.hid (by rw [HBE.out]; exact hu)
              obtain ⟨b4, o4, u1, rfl, hu1, cu0⟩ := HIR.out.at_ (k := j) (by rw [num_len]; exact hjl)
              have cu := (HB.out.cell (p := ⟨b4, o4 + j, none⟩) (World.block_lt_of_cell? w _ cu0)).trans cu0
              rw [num_get, hu] at hu1
              injection hu1 with hu1
              subst hu1
              have hrow : (rowsW E.length (updW f x y))[x]? = some [.int .u64 (y : Int)] := by rw [rowsW_get _ hxl, rowW_some (updW_eq f x y)]
              obtain ⟨ga, ega, _, _, cau, _⟩ := Own1.at_ HT2.out.out HUS.out
              injection ega with ega
              injection ega with ega
              subst ega
              obtain ⟨gz, egz, hgz1, hgz2, czy, fzy, hset⟩ := HT2.out.setIn (by decide) (A := some ⟨gn, 0, none⟩) (c := c9) hrow HUS.out (j := 0) rfl (.int .u64 ((y ||| 2 ^ u : Nat) : Int))
              injection egz with egz
              injection egz with egz
              subst egz
              have htz := (HT2.out.lt HUS.out (b := gn) rfl).2.2
              have hset' : Tbl (wr.setCell ⟨gn, 0, none⟩ (.int .u64 ((y ||| 2 ^ u : Nat) : Int))) gb 58 62 (.slice (some ⟨gb + 1, 0, none⟩) E.length E.length) us2 (rowsW E.length (updW f x (y ||| 2 ^ u))) := by
                have e : (rowsW E.length (updW f x y)).set x ([Value.int .u64 (y : Int)].set 0 (.int .u64 ((y ||| 2 ^ u : Nat) : Int))) = rowsW E.length (updW f x (y ||| 2 ^ u)) := by
                  refine range_map_set hxl (by rw [rowW_some (updW_eq _ _ _)]; rfl) fun z _ hz => ?_
                  unfold rowW
                  rw [updW_ne hz, updW_ne hz]
                rw [← e]
                exact hset
              have HADD := Lib.hid (addO_any gn u y c9 wr czy fzy (by omega) (by omega))
              have HSET := Lib.hid hset'; have HTZ := Lib.hid htz
              obtain ⟨r, hr⟩ : ∃ r, a.testBit u = r := ⟨_, rfl⟩
              have HR := Lib.hid hr
              have HIB : Hid (indB E x u = r) := Lib.hid (by rw [← HIN.out u hul]; exact hr)
              clear hu cu0 hrow hset hset' hr htz czy fzy
              go_wp2_with fail
              refine HADD.out.mono ?_
              rintro e w7 ⟨⟨v7, rfl⟩, hwr⟩
              have HT1a := Lib.hid (HT1.out.keepWr hwr HTZ.out (by decide) (by decide))
              have HT2a := Lib.hid (HSET.out.heapEq hwr.heap)
              have HWDa := Lib.hid (HWD.out.keep (hwr.block (by omega)))
              have HBa := Lib.hid (hwr.below HB0.out (by omega))
              clear hwr HADD HSET cau cu
              go_wp2_with fail
              refine (has_any gi u a _ HWDa.out (by omega) (by omega) r HR.out).mono ?_
              rintro e w8 ⟨rfl, hq⟩
              have HT1b := Lib.hid (HT1a.out.heapEq hq.2.2.2)
              have HT2b := Lib.hid (HT2a.out.heapEq hq.2.2.2)
              have HWDb := Lib.hid (HWDa.out.keep (by rw [hq.2.2.2]))
              have HBb := Lib.hid (HBa.out.trans (hq.below.mono (by have := HBa.out.size; rw [HG.out] at this; exact this)))
              have HYn : Hid (∀ t, t < E.length → (y ||| 2 ^ u).testBit t = (decide (t ∈ B.take (j + 1)) || indB E x t)) := Lib.hid (fun t ht => by
                rw [Nat.testBit_or, HY.out t ht, Nat.testBit_two_pow, take_succ_some (by rw [← HBE.out]; exact HU.out), Bool.eq_iff_iff]
                simp only [Bool.or_eq_true, decide_eq_true_eq, List.mem_append, List.mem_singleton]
                constructor
                · rintro ((h | h) | h)
                  · exact Or.inl (Or.inl h)
                  · exact Or.inr h
                  · exact Or.inl (Or.inr h.symm)
                · rintro ((h | h) | h)
                  · exact Or.inl (Or.inl h)
                  · exact Or.inr h.symm
                  · exact Or.inl (Or.inr h))
              have hy' : y ||| 2 ^ u < 2 ^ E.length := Nat.or_lt_two_pow hy (Nat.pow_lt_pow_right (by decide) hul)
              clear hq HT1a HT2a HWDa HBa HT1 HT2 HWD HB HB0 HY
              cases r with
              | true =>
                have HEQ := Lib.hid (fM_skip (i := i) HU.out HIB.out)
                go_wp2_with fail
                go_roundw
                case rel => exact ⟨j + 1, y ||| 2 ^ u, vs, by omega, by go_num, hy', by rw [HEQ.out]; exact HT1b, HT2b, HWDb, HYn, HBb⟩
                case measure => simp [intOf]; omega
              | false =>
                obtain ⟨q1, q2⟩ := fM_put (i := i) HU.out HIB.out
                have HQ1 := Lib.hid q1; have HQ2 := Lib.hid q2
                obtain ⟨R, hR⟩ : ∃ R, fM E i x j x = R := ⟨_, rfl⟩
                obtain ⟨g', A4, c4, eg, _, hglt, hvu, hcu, hfu, hou⟩ := HT1b.out.row (rowsV_get _ hxl)
                injection eg with eg
                injection eg with eg
                subst eg
                rw [hR, ints_len, num_len] at hcu hvu
                rw [hR] at hou
                rw [ints_len, num_len] at hou
                have hRl : R.length ≤ 30 := by
                  rw [← hR]
                  unfold fM
                  rw [if_pos rfl]
                  exact Nat.le_trans (barI_len E x j) (by rw [HBE.out]; exact hBl)
                have HVU := Lib.hid hvu; have HOU := Lib.hid hou; have HRR := Lib.hid hR
                have hsz := HBb.out.size
                rw [HG.out] at hsz
                clear q1 q2 hvu hou hR
                go_wp2_with (at_builtin; refine wpList_appg rfl _ _ 30 3 (.int .i64 0) 8 Tryd.underlying30 info_int rfl (by decide) rfl gb (.slice A4 R.length c4) (ints (num R)) rfl (Own1.below HOU.out ((Below.refl _ _).alloc (Nat.le_refl _) _)) (some ⟨w8.heap.size, 0, none⟩) 1 1 [.int .i64 (u : Int)] rfl rfl (Sl.one rfl) (by simp [Value.oneCell']) (by rw [ints_len, num_len]; simp; omega) (by simp; omega) ?_; intro l A9 c9' w9 el ho9 hg9 hb9 _; obtain ⟨htb, hcg, hfg, hbw⟩ := Tbl.appended HT1b.out (by decide) HVU.out hg9 ho9 hb9 (by omega); have HTB := Lib.hid htb; have HBW := Lib.hid hbw; have EL := Lib.hid el; have HG9 := Lib.hid hg9; clear htb hbw ho9 hg9 hb9 el)
                go_roundw
                case rel =>
                  refine ⟨j + 1, y ||| 2 ^ u, vs.set x (.slice A9 l.length c9'), by omega, by go_num, hy', Lib.hid ?_, Lib.hid (HT2b.out.keepApp HT1b.out (by decide) (by decide) (by decide) (by decide) HVU.out HG9.out rfl), Lib.hid (HWDb.out.keepApp HT1b.out (by decide) (by decide) HVU.out HG9.out rfl), HYn, Lib.hid (HBb.out.trans HBW.out)⟩
                  have e2 : (rowsV E.length (fM E i x j)).set x l = rowsV E.length (fM E i x (j + 1)) := by
                    have e3 : l = ints (num (fM E i x (j + 1) x)) := by rw [HQ1.out, HRR.out, EL.out, num_app, ints_app]; rfl
                    rw [e3]
                    exact rowsV_set hxl fun z _ hz => HQ2.out z hz
                  rw [← e2]
                  exact HTB.out
                case measure => simp [intOf]; omega
            · obtain rfl : j = B.length := by omega
              go_wp2_with fail
              go_roundw
              case rel =>
                refine ⟨i + 1, updW f x y, vs, us2, by omega, by go_num, Lib.hid ?_, HT2, Lib.hid fun z hz => ?_, HB0⟩
                · rw [← fM_end HX.out, HBE.out]
                  exact HT1.out
                · by_cases ezx : z = x
                  · subst ezx
                    refine ⟨y, updW_eq _ _ _, hy, fun u hu => ?_⟩
                    rw [HY.out u hu, List.take_length, plus_bef HF.out HE.out hxl, HBE.out]
                  · rw [List.take_add_one, HX.out] at hz
                    have hz' : z ∈ (order E).take i := by simpa [ezx] using hz
                    obtain ⟨q, q1, q2, q3⟩ := HW.out z hz'
                    exact ⟨q, by rw [updW_ne ezx]; exact q1, q2, q3⟩
              case measure => simp [intOf]; omega
    · obtain rfl : i = E.length := by omega
      go_wp2
      go_ret
      have := HT1.out
      rw [fB_full HF.out, rowsV_bare] at this
      exact ⟨_, _, rfl, this.irows.2, HB.out⟩

end Go.Proofs.YtaokbjacfdipmaaDoor
