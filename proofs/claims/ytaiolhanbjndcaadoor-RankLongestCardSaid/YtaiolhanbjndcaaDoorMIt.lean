/- Layer 7: the iterators: a list from its end on; tasks from the last one in the order on, each with those that wait for it. -/
import Derived.Test.YtaiolhanbjndcaaDoorMSeq
import Derived.Test.YtaiolhanbjndcaaDoorMSum
import Derived.Shelf.RegionOpen
import Derived.WalkKit
namespace Go.Proofs.YtaiolhanbjndcaaDoor
open Go.RowKit Go.Shelf
open Dag (Ints Sl num num_len num_get Gr order behL order_ord wide_call wide_call_in)
set_option linter.unusedVariables false
set_option maxRecDepth 100000
attribute [local go_sem] Oper.semAt_some

theorem ints_above {w w' : World} {A : Option Addr} {c B : Nat} {xs : List Int} (h : Ints w A c xs) (hb : Above B w w') (hB : ∀ a, A = some a → B ≤ a.block) : Ints w' A c xs := by
  refine ⟨fun k u hu => ?_, h.cap, h.top, h.nil⟩
  obtain ⟨b, off, e, hc⟩ := h.cells k u hu
  refine ⟨b, off, e, ?_⟩
  rw [World.cell?_of_block (w := w) (a := ⟨b, off + k, none⟩) (hb.block b (hB _ e) (World.block_lt_of_cell? w _ hc))]
  exact hc
theorem kp_cell {w w' : World} {b o : Nat} {v : Value} (hb : Below w.heap.size w w') (h : w.cell? ⟨b, o, none⟩ = some v) : w'.cell? ⟨b, o, none⟩ = some v := (hb.cell (p := ⟨b, o, none⟩) (World.block_lt_of_cell? w _ h)).trans h
theorem ints_cel {w w' : World} {A : Option Addr} {c : Nat} {xs : List Int} (h : Ints w A c xs) (hb : Cel w w') : Ints w' A c xs := by
  refine ⟨fun k u hu => ?_, h.cap, h.top, h.nil⟩
  obtain ⟨b, off, e, hc⟩ := h.cells k u hu
  refine ⟨b, off, e, ?_⟩
  have hl := World.block_lt_of_cell? w _ hc
  obtain ⟨o, ho⟩ : ∃ o, w.heap[b]? = some o := ⟨_, Array.getElem?_eq_getElem hl⟩
  have hcl : o.isCells = true := by
    unfold World.cell? at hc
    simp only [ho] at hc
    cases o <;> first | rfl | (simp at hc)
  rw [World.cell?_of_block (w := w) (a := ⟨b, off + k, none⟩) (by rw [hb b o ho hcl, ho])]
  exact hc
theorem num_split {l : List Nat} {pre : List Int} {x : Int} {post : List Int} (h : num l = pre ++ x :: post) : ∃ (p : List Nat) (v : Nat) (q : List Nat), l = p ++ v :: q ∧ pre = num p ∧ x = (v : Int) ∧ post = num q := by
  unfold num at h
  obtain ⟨l1, l2, e1, e2, e3⟩ := List.map_eq_append_iff.1 h
  obtain ⟨v, q, e4, e5, e6⟩ := List.map_eq_cons_iff.1 e3
  subst e1 e4
  exact ⟨l1, v, q, rfl, e2.symm, e5.symm, e6.symm⟩

theorem backward_any (A : Option Addr) (n c : Nat) (w : World) : Calls Tryd.prog 52 #[.slice A n c] w fun e w' => e = .returned (.func (.func 65) #[] #[.pointer (some ⟨w.heap.size, 0, none⟩)]) ∧ w' = w.alloc (.cells #[.slice A n c] 27) := by
  go_enter Tryd.func52, Tryd.ntmps52
  go_wp2
  go_ret
  exact ⟨rfl, rfl⟩
theorem backwards_any (p : Option Addr) (w : World) : Calls Tryd.prog 37 #[.pointer p] w fun e w' => e = .returned (.func (.func 51) #[] #[.pointer (some ⟨w.heap.size, 0, none⟩)]) ∧ ∃ t, w' = w.alloc (.cells #[.pointer p] t) := by
  go_enter Tryd.func37, Tryd.ntmps37
  go_wp2
  go_ret
  exact ⟨rfl, _, rfl⟩

set_option maxHeartbeats 1600000 in
theorem bw1_seqK (m : Nat) (xs : List Int) (n : Nat) (hn : xs.length = n) (hb : n ≤ 1000) (B : Nat) (A : Option Addr) (c : Nat) :
    SeqK (α := Int) Tryd.prog m 65 #[.pointer (some ⟨B, 0, none⟩)] (fun s => s = xs.reverse) (fun pre x args W => (∃ post, xs.reverse = pre ++ x :: post) ∧ ∃ i : Int, args = #[.int .i64 i, .int .i64 x])
      (fun W => W.cell? ⟨B, 0, none⟩ = some (.slice A n c) ∧ Ints W A c xs) := by
  intro l J Jx W hK hY h0
  obtain ⟨cB, hI⟩ := hK _ _ h0
  have HK := Lib.hid hK; have HY := Lib.hid hY; have H0 := Lib.hid h0; have HN := Lib.hid hn
  clear hK hY h0 hn
  have hbi : (n : Int) ≤ 1000 := by omega
  refine callsIn_of_wp Tryd.func65 rfl trivial ?_ rfl
  simp only [Tryd.ntmps65, List.size_toArray, List.length_cons, List.length_nil, Nat.reduceAdd, Nat.reduceSub, Array.replicate_succ, Array.replicate_zero, List.push_toArray, List.append_toArray, List.nil_append, List.cons_append]
  gi_wp2
  clear cB hI
  gi_loopw [3] (fun i wr => ∃ (k : Nat) (p : Int), k ≤ n ∧ i = .int .i64 p ∧ Hid (p = (k : Int) - 1) ∧ Hid (J (xs.reverse.take (n - k)) wr)) (fun i _ => (intOf i + 1).toNat)
  case atStart => exact ⟨n, _, Nat.le_refl _, rfl, Lib.hid rfl, Lib.hid (by rw [Nat.sub_self, List.take_zero]; exact H0.out)⟩
  case round =>
    obtain ⟨k, p, hk, rfl, HP, HJ⟩ := hrel
    obtain ⟨cB, hI⟩ := HK.out _ _ HJ.out
    by_cases h0 : k = 0
    · have hp : p < 0 := by have := HP.out; omega
      subst h0
      gi_wp2
      go_end0
      exact ⟨⟨_, rfl⟩, Or.inl ⟨_, rfl, by have := HJ.out; rwa [Nat.sub_zero, List.take_of_length_le (by rw [List.length_reverse, HN.out]; exact Nat.le_refl _)] at this⟩⟩
    · obtain ⟨q, rfl⟩ : ∃ q, k = q + 1 := ⟨k - 1, by omega⟩
      obtain rfl : p = (q : Int) := by have := HP.out; omega
      have hq : q < xs.length := by rw [HN.out]; omega
      obtain ⟨x, hx⟩ : ∃ x, xs[q]? = some x := ⟨_, List.getElem?_eq_getElem hq⟩
      have hxr : xs.reverse[n - (q + 1)]? = some x := by
        rw [List.getElem?_reverse (by rw [HN.out]; omega), ← hx, HN.out]
        congr 1; omega
      have htk : xs.reverse.take (n - q) = xs.reverse.take (n - (q + 1)) ++ [x] := by
        rw [show n - q = n - (q + 1) + 1 from by omega, List.take_add_one, hxr, Option.toList_some]
      have HTK := Lib.hid htk
      have hsp : xs.reverse = xs.reverse.take (n - (q + 1)) ++ x :: xs.reverse.drop (n - (q + 1) + 1) := by
        have h1 := List.take_append_drop (n - (q + 1)) xs.reverse
        rw [List.drop_eq_getElem_cons (List.getElem?_eq_some_iff.1 hxr).1, (List.getElem?_eq_some_iff.1 hxr).2] at h1
        exact h1.symm
      obtain ⟨b, off, eA, cx⟩ := hI.cells q (.int .i64 x) (by unfold Dag.ints; rw [List.getElem?_map, hx]; rfl)
      subst eA
      have hyl := HY.out (xs.reverse.take (n - (q + 1))) x #[.int .i64 (q : Int), .int .i64 x] wr HJ.out ⟨⟨_, hsp⟩, _, rfl⟩
      have hlb := World.block_lt_of_cell? wr _ cx
      clear hxr htk hsp hI hx
      obtain ⟨fn, tmps, assign, body, hy, hR⟩ := hyl
      gi_wp2
      refine ⟨(fun h => by cases h), hR.mono ?_⟩
      rintro e W3 (⟨rfl, hJ3⟩ | ⟨rfl, hJx3⟩)
      · have HJ3 := Lib.hid hJ3
        clear hJ3 hR hy
        gi_wp2
        go_roundw
        case rel => exact ⟨q, _, by omega, rfl, Lib.hid (by omega), Lib.hid (by rw [HTK.out]; exact HJ3.out)⟩
        case measure => simp [intOf]
      · have HJ3 := Lib.hid hJx3
        clear hJx3 hR hy
        gi_wp2
        refine bodyPost_ret (results_none rfl _ _ _) rfl ?_
        exact ⟨⟨_, rfl⟩, Or.inr ⟨_, HJ3.out⟩⟩

def backF (E : List (List Int)) (pre : List Nat) (v : Nat) (args : Array Value) (W : World) : Prop := (∃ post, (order E).reverse = pre ++ v :: post) ∧ ∃ A c, args = #[.int .i64 (v : Int), .slice A (behL E v).length c] ∧ Ints W A c (num (behL E v))
set_option maxHeartbeats 3200000 in
theorem back1_seqB (m : Nat) (E : List (List Int)) (p : Option Addr) (hn : E.length ≤ 30) (Bg : Nat) (w0 : World) :
    SeqB (α := Nat) Tryd.prog m 51 #[.pointer (some ⟨Bg, 0, none⟩)] (fun s => s = (order E).reverse) (backF E) (fun W => W.cell? ⟨Bg, 0, none⟩ = some (.pointer p) ∧ Gr W E (.pointer p)) w0 := by
  intro l J Jx W hW hJ hJx hK hY h0
  obtain ⟨cB, hG⟩ := hK _ _ h0
  have HFL := Lib.hid hG.full
  have HG := Lib.hid hG
  have HJ := Lib.hid hJ; have HJX := Lib.hid hJx; have HK := Lib.hid hK; have HY := Lib.hid hY; have H0 := Lib.hid h0
  clear hW hJ hJx hK hY h0 hG
  refine callsIn_of_wp_marks Tryd.func51 rfl trivial ?_ rfl
  simp only [Tryd.ntmps51, List.size_toArray, List.length_cons, List.length_nil, Nat.reduceAdd, Nat.reduceSub, Array.replicate_succ, Array.replicate_zero, List.push_toArray, List.append_toArray, List.nil_append, List.cons_append]
  have hlb := World.block_lt_of_cell? W _ cB
  gi_wp2_with fail
  refine wide_call (Dag.order_any _ E (.pointer p) (HG.out.below ((Below.refl _ _).alloc (Nat.le_refl _) _)) hn) ?_
  rintro e w1 ⟨Ao, co, rfl, hio, hb1, hfr⟩
  rw [num_len, HFL.out]
  have HBW : Hid (Below W.heap.size W w1) := Lib.hid (((Below.refl _ W).alloc (Nat.le_refl _) _).trans (hb1.mono (by simp)))
  have HYB : Hid (w1.heap[W.heap.size]? = some (.cells #[.func (.yield l) #[] #[]] 74)) := Lib.hid ((hb1.block _ (by simp)).trans (heap_alloc_new W _))
  have HIO := Lib.hid hio
  have HFR : Hid (∀ a, Ao = some a → W.heap.size < a.block) := Lib.hid fun a ha => by have := hfr a ha; simp at this; omega
  clear hio hb1 hfr
  gi_wp2_with fail
  refine wide_call (backward_any Ao E.length co w1) ?_
  rintro e w2 ⟨rfl, hw2⟩
  have HB2 : Hid (Below W.heap.size W w2) := Lib.hid (HBW.out.trans (by rw [hw2]; exact ((Below.refl _ _).alloc (Nat.le_refl _) _).mono HBW.out.size))
  have hB12 : Below w1.heap.size w1 w2 := by rw [hw2]; exact (Below.refl _ _).alloc (Nat.le_refl _) _
  have HY2 : Hid (w2.heap[W.heap.size]? = some (.cells #[.func (.yield l) #[] #[]] 74)) := Lib.hid ((hB12.block _ (Dag.blk_lt HYB.out)).trans HYB.out)
  have HI2 := Lib.hid (HIO.out.below hB12)
  have HS2 : Hid (w2.heap[w1.heap.size]? = some (.cells #[.slice Ao E.length co] 27)) := Lib.hid (by rw [hw2]; exact heap_alloc_new w1 _)
  have hws : W.heap.size < w1.heap.size := Dag.blk_lt HYB.out
  clear hw2 hB12 HYB HIO HBW
  obtain ⟨Bs, hBs⟩ : ∃ Bs, w1.heap.size = Bs := ⟨_, rfl⟩
  rw [hBs] at HS2 hws ⊢
  clear hBs
  have HA0 : Hid (∀ X, Above W.heap.size w2 X → X.heap[W.heap.size]? = some (.cells #[.func (.yield l) #[] #[]] 74) ∧ X.heap[Bs]? = some (.cells #[.slice Ao E.length co] 27) ∧ Ints X Ao co (num (order E))) :=
    Lib.hid fun X hA => ⟨hA.at_ (Nat.le_refl _) HY2.out, hA.at_ (Nat.le_of_lt hws) HS2.out, ints_above HI2.out hA fun a ha => Nat.le_of_lt (HFR.out a ha)⟩
  gi_wp2_with fail
  refine range_seqB (α := Int) (gf := 65) (lb := #[.pointer (some ⟨Bs, 0, none⟩)]) rfl (fun args w => by simp [go_sem]) (fun pre x args X h => by obtain ⟨_, i, rfl⟩ := h; rfl)
    ((bw1_seqK (m - 1) (num (order E)) E.length (by rw [num_len, HFL.out]) (by omega) Bs Ao co).toB w2) (Below.refl _ _) (fun pre x args X Y _ h => h)
    (fun pre X => ∃ pre' : List Nat, Hid (pre = num pre') ∧ Hid (J pre' X) ∧ Hid (Above W.heap.size w2 X))
    (fun cd pre X => Hid (cd = .ret) ∧ Hid (∃ pre', Jx pre' X))
    ?oi ?oix ?ok ?h0 (fun args => { tmps := #[.func (.yield l) #[] #[], .pointer (some ⟨Bg, 0, none⟩), .pointer (some ⟨W.heap.size, 0, none⟩), undef, args[1]?.getD undef, .pointer p, .slice Ao E.length co, .func (.func 65) #[] #[.pointer (some ⟨Bs, 0, none⟩)], args[0]?.getD undef, args[1]?.getD undef, undef, undef, undef, undef, undef, undef, undef], defers := [] }) ?assign ?body ?done ?stop
  case oi =>
    rintro pre X Y ⟨pre', h1, h2, h3⟩ hb
    exact ⟨pre', h1, Lib.hid (HJ.out _ _ _ h2.out (hb.mono HB2.out.size)), Lib.hid ⟨Nat.le_trans h3.out.size hb.size, fun k q1 q2 => (hb.block k q2).trans (h3.out.block k q1 q2)⟩⟩
  case oix =>
    rintro cd pre X Y ⟨h1, ⟨pre', h2⟩⟩ hb
    exact ⟨h1, Lib.hid ⟨pre', HJX.out _ _ _ h2 (hb.mono HB2.out.size)⟩⟩
  case ok =>
    rintro pre X ⟨pre', h1, h2, h3⟩
    obtain ⟨q1, q2, q3⟩ := HA0.out X h3.out
    exact ⟨by simpa using Dag.blk_cell q2 0, q3⟩
  case h0 => exact ⟨[], Lib.hid rfl, Lib.hid (HJ.out _ _ _ H0.out HB2.out), Lib.hid (Above.refl _ _)⟩
  case assign =>
    rintro l2 pre x args X K ⟨_, i, rfl⟩ hK
    gi_wp2
    exact hK
  case body =>
    rintro l2 pre x args X ⟨pre', h1, h2, h3⟩ ⟨⟨post, hpost⟩, i, rfl⟩
    obtain ⟨q1, q2, q3⟩ := HA0.out X h3.out
    obtain ⟨cB', hG'⟩ := HK.out _ _ h2.out
    have hpost' : num (order E).reverse = pre ++ x :: post := by rw [← hpost]; unfold num; rw [List.map_reverse]
    obtain ⟨p', v, q', e1, e2, e3, e4⟩ := num_split hpost'
    have hpp : p' = pre' := (List.map_inj_right (fun a b h => by exact Int.ofNat.inj h)).1 (e2.symm.trans h1.out)
    subst hpp e3
    have hvl : v < E.length := by
      have : v ∈ (order E).reverse := by rw [e1]; simp
      exact (order_ord E).lt v (List.mem_reverse.1 this)
    have hgl : Dag.getL (Dag.rev E) (v : Int) = num (behL E v) := by
      unfold Dag.getL
      rw [Dag.rev_len, if_pos (by omega), Int.toNat_natCast]
      exact Dag.rev_row v hvl
    have HBH := Lib.hid fun (Y : World) (hY : Below X.heap.size X Y) => Dag.behind_any Y E (.pointer p) (hG'.below hY) hn (v : Int)
    rw [hgl] at HBH
    have c2 := Dag.blk_cell q1 0
    simp only [List.getElem?_toArray, List.getElem?_cons_zero] at c2
    have E1 := Lib.hid e1; have E2 := Lib.hid e2
    have hmx : Tryd.prog.follows .mixedOrders = true := by kernel_rfl
    obtain ⟨QB, hQB⟩ : ∃ QB, QB = bodyB w2.heap.size (fun pre X => ∃ pre' : List Nat, Hid (pre = num pre') ∧ Hid (J pre' X) ∧ Hid (Above W.heap.size w2 X)) (fun cd pre X => Hid (cd = .ret) ∧ Hid (∃ pre', Jx pre' X)) (pre ++ [(v : Int)]) X := ⟨_, rfl⟩
    rw [← hQB]
    have HQB := Lib.hid hQB
    clear hpost hpost' e1 e2 e4 hgl hQB hG' q1 q2 q3
    gi_wp2_with fail
    rename_i K hKK
    have TAIL : ∀ (x1 W3 : World) (A2 : Option Addr) (cc2 : Nat) (b : Bool), Hid (Below X.heap.size X x1) → Hid ((b = true → J (p' ++ [v]) W3) ∧ (b = false → Jx (p' ++ [v]) W3) ∧ Above W.heap.size x1 W3) → Exit.then K (Exit.inBlock 1 QB) .normal { tmps := #[.func (.yield l) #[] #[], .pointer (some ⟨Bg, 0, none⟩), .pointer (some ⟨W.heap.size, 0, none⟩), undef, .int .i64 (v : Int), .pointer p, .slice Ao E.length co, .func (.func 65) #[] #[.pointer (some ⟨Bs, 0, none⟩)], .int .i64 i, .int .i64 (v : Int), .func (.yield l) #[] #[], .int .i64 (v : Int), .pointer p, .int .i64 (v : Int), .slice A2 (behL E v).length cc2, .bool b, .bool (!b)], defers := [] } W3 := by
      intro x1 W3 A2 cc2 b HBX HR3
      obtain ⟨r1, r2, r3⟩ := HR3.out
      have R1 := Lib.hid r1; have R2 := Lib.hid r2; have R3 := Lib.hid r3
      clear HR3 r1 r2 r3 c2 cB'
      cases b
      · gi_wp2
        rw [HQB.out]
        exact ⟨(Above.of_below HBX.out).trans (R3.out.mono HB2.out.size), Lib.hid rfl, Lib.hid ⟨_, R2.out (by first | rfl | trivial)⟩⟩
      · gi_wp2
        rw [HQB.out]
        exact ⟨(Above.of_below HBX.out).trans (R3.out.mono HB2.out.size), p' ++ [v], Lib.hid (by rw [E2.out]; simp [num]), Lib.hid (R1.out (by first | rfl | trivial)), Lib.hid ((h3.out.trans (Above.of_below HBX.out)).trans R3.out)⟩
    have d2 : X.drew.cell? ⟨W.heap.size, 0, none⟩ = some (.func (.yield l) #[] #[]) := c2
    gi_region_with_o (first
      | (refine ⟨trivial, (fun h => by cases h), ?_⟩; gi_at_call 29; refine (CallsIn.inRound l2 (callsIn_wide.2 (HBH.out X.drew (Below.refl _ _).drew))).mono ?_; rintro e x1 ⟨A2, cc2, rfl, hi2, hb2, hfr2⟩; simp only [num_len]; have d3 := kp_cell hb2 d2; have HBX : Hid (Below X.heap.size X x1) := Lib.hid ((Below.refl _ X).drew.trans hb2); obtain ⟨fn, tmps, assign, body, hy, hR⟩ := HY.out p' v #[.int .i64 (v : Int), .slice A2 (behL E v).length cc2] x1 (HJ.out _ _ _ h2.out (HBX.out.mono (Nat.le_trans HB2.out.size h3.out.size))) ⟨⟨_, E1.out⟩, A2, cc2, rfl, hi2⟩; clear hi2 hb2 hfr2)
      | (refine ⟨(fun h => by cases h), round_any (R' := fun e W' => ∃ b : Bool, e = .returned (.bool b) ∧ Hid ((b = true → J (p' ++ [v]) W') ∧ (b = false → Jx (p' ++ [v]) W') ∧ Above W.heap.size x1 W')) hR (fun e W' hr => by
          rcases hr with ⟨e1, q1, q2⟩ | ⟨e1, q1, q2⟩
          · exact ⟨true, e1, Lib.hid ⟨fun _ => q1, (fun h => by cases h), q2⟩⟩
          · exact ⟨false, e1, Lib.hid ⟨(fun h => by cases h), fun _ => q1, q2⟩⟩) |>.mono ?_⟩; rintro e W3 ⟨b, rfl, HR3⟩; clear hR hy))
    all_goals exact TAIL _ _ _ _ _ HBX HR3
  case done =>
    rintro D xs X hD hS ⟨pre', h1, h2, h3⟩ hdef
    have hp : pre' = (order E).reverse := (List.map_inj_right (fun a b h => by exact Int.ofNat.inj h)).1 (h1.out.symm.trans (hS.trans (by unfold num; rw [List.map_reverse])))
    subst hp
    have HD := Lib.hid hdef
    clear hdef hS
    gi_wp2_with fail
    refine leaves_marksB (base := W.heap.size) [D] X ⟨List.nodup_cons.2 ⟨by simp, List.nodup_nil⟩, fun D' hD' => by obtain rfl := List.mem_singleton.1 hD'; exact HD.out⟩ (fun D' hD' => by obtain rfl := List.mem_singleton.1 hD'; exact Nat.le_trans HB2.out.size hD) fun W' hB' hk hsz => ?_
    exact ⟨_, results_none rfl _ _ _, ⟨_, rfl⟩, Or.inl ⟨_, rfl, HJ.out _ _ _ h2.out hB'⟩⟩
  case stop =>
    rintro D cd pre X hD ⟨h1, h2⟩ hdef
    obtain rfl := h1.out
    have HD := Lib.hid hdef
    clear hdef
    gi_wp2_with fail
    refine leaves_marksB (base := W.heap.size) [D] X ⟨List.nodup_cons.2 ⟨by simp, List.nodup_nil⟩, fun D' hD' => by obtain rfl := List.mem_singleton.1 hD'; exact HD.out⟩ (fun D' hD' => by obtain rfl := List.mem_singleton.1 hD'; exact Nat.le_trans HB2.out.size hD) fun W' hB' hk hsz => ?_
    obtain ⟨pre', hj⟩ := h2.out
    exact ⟨_, results_none rfl _ _ _, ⟨_, rfl⟩, Or.inr ⟨pre', HJX.out _ _ _ hj hB'⟩⟩
end Go.Proofs.YtaiolhanbjndcaaDoor

