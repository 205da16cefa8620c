/- Of the document's Parse: with: a workflow of which a task is another one. -/
import Derived.Test.YtkcijibkloamkaaGreatDoorFlwRHad
import Derived.Test.YtkcijibkloamkaaGreatDoorFlwFcp
namespace Go.Proofs.YtkcijibkloamkaaGreatDoor
open Go.RowKit
open Dag (Ints Own1 Sl)
set_option linter.unusedVariables false
set_option maxRecDepth 100000

theorem own_setCells {base n c g sz : Nat} {e : TypeId} : ∀ (vs : List Value) (o : Nat) (us : List Value) (w : World), OwnN w base e sz (some ⟨g, 0, none⟩) n c us → o + vs.length ≤ us.length →
    OwnN (w.setCells g o vs) base e sz (some ⟨g, 0, none⟩) n c (us.take o ++ (vs ++ us.drop (o + vs.length)))
  | [], o, us, w, h, hl => by
    rw [List.nil_append, List.length_nil, Nat.add_zero, List.take_append_drop]; exact h
  | v :: vs, o, us, w, h, hl => by
    simp only [List.length_cons] at hl
    obtain ⟨g', eg, _, _, _, _, _, hset⟩ := OwnN.at_ h (List.getElem?_eq_getElem (show o < us.length by omega))
    injection eg with eg; injection eg with eg; subst eg
    have ih := own_setCells vs (o + 1) (us.set o v) (w.setCell ⟨g, o, none⟩ v) (hset v) (by rw [List.length_set]; omega)
    have e1 : (us.set o v).take (o + 1) = us.take o ++ [v] := by
      rw [List.take_add_one, List.getElem?_set_self (by omega), List.take_set_of_le (Nat.le_refl _)]; rfl
    have e2 : (us.set o v).drop (o + 1 + vs.length) = us.drop (o + (vs.length + 1)) := by
      rw [List.drop_set_of_lt (by omega)]; congr 1; omega
    rw [e1, e2] at ih
    rw [List.length_cons]
    show OwnN ((w.setCell ⟨g, o, none⟩ v).setCells g (o + 1) vs) base e sz (some ⟨g, 0, none⟩) n c _
    simpa using ih
theorem flatC : ∀ a b : List TaskA, flat tkC (a ++ b) = flat tkC a ++ flat tkC b
  | [], b => rfl
  | x :: a, b => by rw [List.cons_append, flat, flat, flatC a b, List.append_assoc]
theorem below_setCells {a w : World} {b o base : Nat} {vs : List Value} (ha : Below base a w) (hb : base ≤ b) : Below base a (w.setCells b o vs) := by
  obtain ⟨h1, h2, h3, h4⟩ := setCells_rest b vs o w
  exact ⟨h1.trans ha.os, h2.trans ha.tape, h3.trans ha.output, by rw [h4]; exact ha.size, fun k hk => (setCells_other b vs o w k (by omega)).trans (ha.block k hk)⟩
theorem info_T6 : (Tryz.prog.info? 48).map (·.size) = some 6 := by kernel_rfl
theorem flat_splice {L : List TaskA} {k : Nat} (hk : k < L.length) (x : TaskA) : (flat tkC L).take (k * 6) ++ (tkC x ++ (flat tkC L).drop (k * 6 + (tkC x).length)) = flat tkC (L.set k x) := by
  have e : L = L.take k ++ L[k] :: L.drop (k + 1) := by
    conv => lhs; rw [← List.take_append_drop k L, List.drop_eq_getElem_cons hk]
  have e2 : L.set k x = L.take k ++ x :: L.drop (k + 1) := by
    rw [List.set_eq_take_append_cons_drop, if_pos hk]
  have hl : (flat tkC (L.take k)).length = k * 6 := by rw [flat_len tkC_len, List.length_take]; congr 1; omega
  have f1 : flat tkC L = flat tkC (L.take k) ++ (tkC L[k] ++ flat tkC (L.drop (k + 1))) := by
    conv => lhs; rw [e]
    rw [flatC]; rfl
  rw [e2, flatC, f1, List.take_left' hl, show k * 6 + (tkC x).length = (flat tkC (L.take k)).length + 6 from by rw [hl, tkC_len], ← List.drop_drop, List.drop_left]
  congr 1
/-- a list of tasks in memory, with where each one's After lies, each in a block of its own type -/
def TL (W : World) (A : Option Addr) (c : Nat) (L : List TaskA) : Prop :=
  (L.length ≤ c ∧ c ≤ maxLen ∧ (A = none → c = 0)) ∧ (∀ x ∈ L, x.1.name.length ≤ maxLen) ∧ (∀ x ∈ L, IntsT W x.2.1 x.2.2 x.1.after) ∧
    (∀ k x, L[k]? = some x → ∃ b off, A = some ⟨b, off, none⟩ ∧ ∀ j u, (tkC x)[j]? = some u → W.cell? ⟨b, off + k * 6 + j, none⟩ = some u) ∧
    ∀ a, A = some a → ∃ cs, W.heap[a.block]? = some (Obj.cells cs 48 (0, 0))
theorem TL.tasks {W : World} {A : Option Addr} {c : Nat} {L : List TaskA} (h : TL W A c L) : Tasks W A c (L.map Prod.fst) := by
  obtain ⟨⟨h1, h2, h3⟩, h4, h5, h6, _⟩ := h
  refine ⟨fun k t ht => ?_, by rw [List.length_map]; exact h1, h2, h3, fun t ht => ?_⟩
  · rw [List.getElem?_map] at ht
    obtain ⟨x, hx, rfl⟩ := Option.map_eq_some_iff.1 ht
    obtain ⟨b, off, rfl, hc⟩ := h6 k x hx
    exact ⟨b, off, x.2.1, x.2.2, rfl, hc 0 _ rfl, hc 1 _ rfl, hc 2 _ rfl, hc 3 _ rfl, hc 4 _ rfl, hc 5 _ rfl, (h5 x (List.mem_of_getElem? hx)).ints⟩
  · obtain ⟨x, hx, rfl⟩ := List.mem_map.1 ht
    exact h4 x hx
theorem TL.kept {W W' : World} {A : Option Addr} {c : Nat} {L : List TaskA} (h : TL W A c L) (hk : Kept [48, 3] W W') : TL W' A c L :=
  ⟨h.1, h.2.1, fun x hx => (h.2.2.1 x hx).keep (hk _ (by simp)), fun k x hx => by
    obtain ⟨b, off, e, hc⟩ := h.2.2.2.1 k x hx
    obtain ⟨cs, hcs⟩ := h.2.2.2.2 _ e
    exact ⟨b, off, e, fun j u hu => (cell_keep (p := ⟨b, off + k * 6 + j, none⟩) (hk _ (by simp) b cs hcs)).trans (hc j u hu)⟩, fun a ha => by
    obtain ⟨cs, hcs⟩ := h.2.2.2.2 a ha
    exact ⟨cs, (hk _ (by simp) _ cs hcs).trans hcs⟩⟩
theorem TL.below {W W' : World} {A : Option Addr} {c : Nat} {L : List TaskA} (h : TL W A c L) (hb : Below W.heap.size W W') : TL W' A c L := h.kept (Kept.below hb)
theorem TL.own {w : World} {base : Nat} {A : Option Addr} {c : Nat} {L : List TaskA} (h : OwnN w base 48 6 A L.length c (flat tkC L)) (hI : ∀ x ∈ L, IntsT w x.2.1 x.2.2 x.1.after) (hn : ∀ x ∈ L, x.1.name.length ≤ maxLen) : TL w A c L := by
  refine ⟨OwnN.cap h, hn, hI, fun k x hx => ?_, fun a ha => (h.lt ha).2.2⟩
  have hc : ∀ i u, (tkC x)[i]? = some u → ∃ g, A = some ⟨g, 0, none⟩ ∧ w.cell? ⟨g, k * 6 + i, none⟩ = some u := fun i u hu => by
    have hi : i < 6 := by have := (List.getElem?_eq_some_iff.1 hu).1; rwa [tkC_len] at this
    have hu' : (flat tkC L)[k * 6 + i]? = some u := by rw [flat_get tkC_len L k i x hx hi]; exact hu
    obtain ⟨g, e, _, _, hc, _⟩ := OwnN.at_ h hu'
    exact ⟨g, e, hc⟩
  obtain ⟨g, e, _⟩ := hc 0 _ rfl
  subst e
  refine ⟨g, 0, rfl, fun j u hu => ?_⟩
  obtain ⟨g', e, h1⟩ := hc j u hu
  injection e with e; injection e with e; subst e
  rw [Nat.zero_add]; exact h1
/-- tasks in memory, each in a block of its own type -/
def TT (W : World) (A : Option Addr) (c : Nat) (ts : List TaskD) : Prop := ∃ L : List TaskA, L.map Prod.fst = ts ∧ TL W A c L
theorem TT.tasks {W : World} {A : Option Addr} {c : Nat} {ts : List TaskD} (h : TT W A c ts) : Tasks W A c ts := by
  obtain ⟨L, rfl, h⟩ := h; exact h.tasks
theorem TT.kept {W W' : World} {A : Option Addr} {c : Nat} {ts : List TaskD} (h : TT W A c ts) (hk : Kept [48, 3] W W') : TT W' A c ts := by
  obtain ⟨L, e, h⟩ := h; exact ⟨L, e, h.kept hk⟩
theorem TT.below {W W' : World} {A : Option Addr} {c : Nat} {ts : List TaskD} (h : TT W A c ts) (hb : Below W.heap.size W W') : TT W' A c ts := h.kept (Kept.below hb)
theorem TT.none (W : World) : TT W none 0 [] := ⟨[], rfl, ⟨Nat.le_refl _, Nat.zero_le _, fun _ => rfl⟩, fun _ h => by simp at h, fun _ h => by simp at h, fun k x h => by simp at h, fun a h => by cases h⟩
theorem IntsT.below {W W' : World} {A : Option Addr} {c : Nat} {xs : List Int} (h : IntsT W A c xs) (hb : Below W.heap.size W W') : IntsT W' A c xs := h.keep fun b cs hc => hb.block b (Dag.blk_lt hc)
theorem IntsT.own {w : World} {base n c : Nat} {A : Option Addr} {xs : List Int} (h : Own1 w base 3 (.slice A n c) (Dag.ints xs)) : IntsT w A c xs := ⟨(Own1.sl h).2, fun a ha => by subst ha; exact Own1.typed h (b := a.block) rfl⟩

set_option maxHeartbeats 3200000 in
theorem withL_any (F : FlowD) (A : Option Addr) (c : Nat) (w : World) (L : List TaskA) (n : Nat) (hLn : L.length = n) (hC0 : ∀ k x, L[k]? = some x → ∃ b off, A = some ⟨b, off, none⟩ ∧ ∀ j u, (tkC x)[j]? = some u → w.cell? ⟨b, off + k * 6 + j, none⟩ = some u) (k : Nat) (hk : k < n) (hm : n ≤ 1000000) (t : TaskD) (A2 : Option Addr) (c2 : Nat) :
    Calls Tryz.prog 128 #[.agg #[.string (sb F.name), .int .i64 F.deadline, .int .i64 F.priority, .slice A n c], .int .i64 k, .agg #[.string (sb t.name), .int .i64 t.nodes, .int .i64 t.wall, .int .i64 t.retry, .bool t.done, .slice A2 t.after.length c2]] w fun e w' =>
      ∃ A' c', e = .returned (.agg #[.string (sb F.name), .int .i64 F.deadline, .int .i64 F.priority, .slice A' n c']) ∧ OwnN w' w.heap.size 48 6 A' n c' (flat tkC (L.set k (t, A2, c2))) ∧ Below w.heap.size w w' := by
  obtain ⟨t0, ht0⟩ : ∃ t, L[k]? = some t := ⟨_, List.getElem?_eq_getElem (by omega)⟩
  obtain ⟨b, off, rfl, ht9⟩ := hC0 k t0 ht0
  clear ht9 ht0 t0
  have hfl : (flat tkC L).length = n * 6 := by rw [flat_len tkC_len, hLn]
  have hsrc : ∀ j u, (flat tkC L)[j]? = some u → w.cell? ((⟨b, off, none⟩ : Addr).add j) = some u := fun j u hu => by
    obtain ⟨q, i, x, e, hi, hx, hu2⟩ := flat_split tkC_len (by decide) L j u hu
    obtain ⟨b2, off2, ea, hcell⟩ := hC0 q x hx
    injection ea with ea; injection ea with e1 e2; subst e1 e2
    rw [Go.WideShapes.add_plain, e, ← Nat.add_assoc]
    exact hcell i u hu2
  have HLN := Lib.hid hLn; have HFL := Lib.hid hfl; have HS := Lib.hid hsrc
  obtain ⟨i0, hi0, hz0, hz1, hz2⟩ := info_parts info_task
  have HI0 := Lib.hid hi0; have HZ0 := Lib.hid hz0; have HZ1 := Lib.hid hz1; have HZ2 := Lib.hid hz2
  clear hi0 hz0 hz1 hz2 hLn hfl hsrc hC0
  go_enter Tryz.func128, Tryz.ntmps128
  have hF0 := keep_obj (al ((w.alloc (.cells #[.string (sb F.name), .int .i64 F.deadline, .int .i64 F.priority, .slice (some ⟨b, off, none⟩) n c] 25)).alloc (.cells #[.string (sb t.name), .int .i64 t.nodes, .int .i64 t.wall, .int .i64 t.retry, .bool t.done, .slice A2 t.after.length c2] 48)) (.cells zero4 25)) (keep_obj (al (w.alloc (.cells #[.string (sb F.name), .int .i64 F.deadline, .int .i64 F.priority, .slice (some ⟨b, off, none⟩) n c] 25)) (.cells #[.string (sb t.name), .int .i64 t.nodes, .int .i64 t.wall, .int .i64 t.retry, .bool t.done, .slice A2 t.after.length c2] 48)) (heap_alloc_new w (.cells #[.string (sb F.name), .int .i64 F.deadline, .int .i64 F.priority, .slice (some ⟨b, off, none⟩) n c] 25)))
  have hT0 := keep_obj (al ((w.alloc (.cells #[.string (sb F.name), .int .i64 F.deadline, .int .i64 F.priority, .slice (some ⟨b, off, none⟩) n c] 25)).alloc (.cells #[.string (sb t.name), .int .i64 t.nodes, .int .i64 t.wall, .int .i64 t.retry, .bool t.done, .slice A2 t.after.length c2] 48)) (.cells zero4 25)) (alloc_at (W := w.alloc (.cells #[.string (sb F.name), .int .i64 F.deadline, .int .i64 F.priority, .slice (some ⟨b, off, none⟩) n c] 25)) (o := (.cells #[.string (sb t.name), .int .i64 t.nodes, .int .i64 t.wall, .int .i64 t.retry, .bool t.done, .slice A2 t.after.length c2] 48)) (g := w.heap.size + 1) (by simp))
  have hR0 := alloc_at (W := (w.alloc (.cells #[.string (sb F.name), .int .i64 F.deadline, .int .i64 F.priority, .slice (some ⟨b, off, none⟩) n c] 25)).alloc (.cells #[.string (sb t.name), .int .i64 t.nodes, .int .i64 t.wall, .int .i64 t.retry, .bool t.done, .slice A2 t.after.length c2] 48)) (o := (.cells zero4 25)) (g := w.heap.size + 1 + 1) (by simp)
  have hB0 := blw (blw (al w (.cells #[.string (sb F.name), .int .i64 F.deadline, .int .i64 F.priority, .slice (some ⟨b, off, none⟩) n c] 25)) (al (w.alloc (.cells #[.string (sb F.name), .int .i64 F.deadline, .int .i64 F.priority, .slice (some ⟨b, off, none⟩) n c] 25)) (.cells #[.string (sb t.name), .int .i64 t.nodes, .int .i64 t.wall, .int .i64 t.retry, .bool t.done, .slice A2 t.after.length c2] 48))) (al ((w.alloc (.cells #[.string (sb F.name), .int .i64 F.deadline, .int .i64 F.priority, .slice (some ⟨b, off, none⟩) n c] 25)).alloc (.cells #[.string (sb t.name), .int .i64 t.nodes, .int .i64 t.wall, .int .i64 t.retry, .bool t.done, .slice A2 t.after.length c2] 48)) (.cells zero4 25))
  have HF0 := Lib.hid hF0; have HT0 := Lib.hid hT0; have HR0 := Lib.hid hR0; have HB0 := Lib.hid hB0
  clear hF0 hT0 hR0 hB0
  go_wp2_with (first
    | (at_builtin; refine wpList_append_own_at _ rfl _ _ 23 rfl (w.heap.size + 1 + 1 + 1) 48 i0 (.agg #[.string ⟨#[]⟩, .int .i64 0, .int .i64 0, .int .i64 0, .bool false, .slice none 0 0]) 6 72 Tryz.underlying23 HI0.out HZ0.out HZ1.out HZ2.out rfl (by decide) (.slice none 0 0) 0 [] rfl ⟨rfl, Or.inl ⟨rfl, rfl⟩⟩ ⟨b, off, none⟩ n c (flat tkC L) rfl (by rw [HFL.out]) (fun j u hu => keep_cell HB0.out (HS.out j u hu)) (flat_one tkC_one L) (by simp only [maxLen]; omega) (by omega) (by simp) ?_; intro v9 w9 ho9 hg9 _ _; obtain ⟨A9, c9, rfl⟩ : ∃ A9 c9, v9 = .slice A9 (0 + n) c9 := (by rcases ho9.2 with ⟨hv, h0⟩ | ⟨g2, cap, cur, hv, _⟩; exact ⟨none, 0, by rw [hv, h0]⟩; exact ⟨_, _, hv⟩); rw [Nat.zero_add, List.nil_append] at ho9; rw [Nat.zero_add]; have hb9 : Below (w.heap.size + 1 + 1 + 1) (((w.alloc (.cells #[.string (sb F.name), .int .i64 F.deadline, .int .i64 F.priority, .slice (some ⟨b, off, none⟩) n c] 25)).alloc (.cells #[.string (sb t.name), .int .i64 t.nodes, .int .i64 t.wall, .int .i64 t.retry, .bool t.done, .slice A2 t.after.length c2] 48)).alloc (.cells zero4 25)) w9 := (Below.refl _ _).grown hg9 (by simp) (fun k hk => by cases hk); obtain ⟨g, eg, hbg, hgl, _⟩ := OwnN.at_ ho9 (show (flat tkC L)[k * 6]? = some _ from List.getElem?_eq_getElem (by rw [HFL.out]; omega)); subst eg; have HTH : Hid (w9.there g (k * 6) 6) := Lib.hid (fun j hj => (by obtain ⟨g', eg, _, _, hc, hf, _⟩ := OwnN.at_ ho9 (show (flat tkC L)[k * 6 + j]? = some _ from List.getElem?_eq_getElem (by rw [HFL.out]; omega)); injection eg with eg; injection eg with eg; subst eg; exact ⟨by rw [hc]; rfl, hf⟩)); have HO9 := Lib.hid ho9; have HF9 := Lib.hid ((hb9.block w.heap.size (by omega)).trans HF0.out); have HT9 := Lib.hid ((hb9.block (w.heap.size + 1) (by omega)).trans HT0.out); have HR9 := Lib.hid ((hb9.block (w.heap.size + 1 + 1) (by omega)).trans HR0.out); have HB9 := Lib.hid (HB0.out.trans (hb9.mono (by omega))); clear ho9 hg9 hb9)
    | (refine wpList_loadA rfl 48 _ rfl (w.heap.size + 1) #[.string (sb t.name), .int .i64 t.nodes, .int .i64 t.wall, .int .i64 t.retry, .bool t.done, .slice A2 t.after.length c2] 48 rfl HT9.out _ Tryz.underlying48 rfl info_T6 ?_)
    | (refine wpList_store_mid rfl 48 _ _ rfl g (k * 6) #[.string (sb t.name), .int .i64 t.nodes, .int .i64 t.wall, .int .i64 t.retry, .bool t.done, .slice A2 t.after.length c2] (by simp [Act.eval]) (by simp [Act.eval]) HTH.out info_T6 (by simp [Value.oneCell']) ?_; have HB10 := Lib.hid (below_setCells (o := k * 6) (vs := tkC (t, A2, c2)) HB9.out (show w.heap.size ≤ g by omega)); have HF10 := Lib.hid ((setCells_other g (tkC (t, A2, c2)) (k * 6) w9 w.heap.size (by omega)).trans HF9.out); have HR10 := Lib.hid ((setCells_other g (tkC (t, A2, c2)) (k * 6) w9 (w.heap.size + 1 + 1) (by omega)).trans HR9.out); have HO10 := Lib.hid (own_setCells (tkC (t, A2, c2)) (k * 6) _ w9 HO9.out (by rw [HFL.out, tkC_len]; omega)); change wpList _ _ _ _ _ (w9.setCells g (k * 6) (tkC (t, A2, c2))); generalize w9.setCells g (k * 6) (tkC (t, A2, c2)) = w10 at HB10 HF10 HR10 HO10 ⊢; have p3 : w10.cell? ⟨w.heap.size, 3, none⟩ = some (.slice (some ⟨b, off, none⟩) n c) := (Dag.blk_cell HF10.out 3).trans rfl; have pf := Dag.blk_frozen HF10.out 3; have HF11 : Hid ((w10.setCell ⟨w.heap.size, 3, none⟩ (.slice (some ⟨g, 0, none⟩) n c9)).heap[w.heap.size]? = some (.cells #[.string (sb F.name), .int .i64 F.deadline, .int .i64 F.priority, .slice (some ⟨g, 0, none⟩) n c9] 25 (0, 0))) := Lib.hid (by rw [Dag.blk_set HF10.out]; simp); have HR11 : Hid ((w10.setCell ⟨w.heap.size, 3, none⟩ (.slice (some ⟨g, 0, none⟩) n c9)).heap[w.heap.size + 1 + 1]? = some (.cells zero4 25 (0, 0))) := Lib.hid ((Dag.blk_other (by omega)).trans HR10.out))
    | (refine wpList_loadA rfl 25 _ rfl w.heap.size #[.string (sb F.name), .int .i64 F.deadline, .int .i64 F.priority, .slice (some ⟨g, 0, none⟩) n c9] 25 rfl HF11.out _ Tryz.underlying25 rfl info_flow ?_)
    | (refine wpList_storeA rfl 25 _ _ rfl (w.heap.size + 1 + 1) #[.string (sb F.name), .int .i64 F.deadline, .int .i64 F.priority, .slice (some ⟨g, 0, none⟩) n c9] zero4 _ rfl rfl HR11.out rfl info_flow (flow4_one _ _ _ _ _ _) ?_; intro w12 hp12; have HP12 := Lib.hid hp12; clear hp12))
  refine bodyPost_ret (results_cell_row rfl _ _ _ _ _ _ _ rfl HP12.out.blk Tryz.underlying25 rfl info_flow) rfl ?_
  have hb11 := HB10.out.setCell (p := ⟨w.heap.size, 3, none⟩) (Nat.le_refl _) (.slice (some ⟨g, 0, none⟩) n c9)
  have hb12 := HP12.out.below hb11 (show w.heap.size ≤ w.heap.size + 1 + 1 by omega)
  have ho := HO10.out
  rw [flat_splice (by rw [HLN.out]; exact hk)] at ho
  refine ⟨some ⟨g, 0, none⟩, c9, rfl, OwnN.rebase (ho.keep fun b2 cs hb2 => ?_) (by omega), hb12⟩
  have h1 : b2 ≠ w.heap.size := fun e => by subst e; have := HF10.out; rw [hb2] at this; injection this with this; injection this with _ this; exact absurd this (by decide)
  have h2 : b2 ≠ w.heap.size + 1 + 1 := fun e => by subst e; have := HR10.out; rw [hb2] at this; injection this with this; injection this with _ this; exact absurd this (by decide)
  exact (HP12.out.other b2 h2).trans (Dag.blk_other h1)

theorem with_any (F : FlowD) (A : Option Addr) (c : Nat) (w0 w : World) (h : TT w0 A c F.tasks) (hb0 : Below w0.heap.size w0 w) (k n : Nat) (hn : F.tasks.length = n) (hk : k < n) (hm : n ≤ 1000000) (t : TaskD) (A2 : Option Addr) (c2 : Nat) (hI : IntsT w0 A2 c2 t.after) (hnm : t.name.length ≤ maxLen) :
    Calls Tryz.prog 128 #[.agg #[.string (sb F.name), .int .i64 F.deadline, .int .i64 F.priority, .slice A n c], .int .i64 k, .agg #[.string (sb t.name), .int .i64 t.nodes, .int .i64 t.wall, .int .i64 t.retry, .bool t.done, .slice A2 t.after.length c2]] w fun e w' =>
      ∃ A' c', e = .returned (.agg #[.string (sb F.name), .int .i64 F.deadline, .int .i64 F.priority, .slice A' n c']) ∧ (∀ W, Below w0.heap.size w0 W → Kept [48] w' W → TT W A' c' (F.tasks.set k t)) ∧ Below w.heap.size w w' := by
  obtain ⟨L, hL, hTL⟩ := h
  have hLn : L.length = n := by rw [← hn, ← hL, List.length_map]
  refine (withL_any F A c w L n hLn (fun k x hx => ?_) k hk hm t A2 c2).mono ?_
  · obtain ⟨b, off, e, hc⟩ := hTL.2.2.2.1 k x hx
    exact ⟨b, off, e, fun j u hu => keep_cell hb0 (hc j u hu)⟩
  rintro e w' ⟨A', c', rfl, ho2, hb⟩
  refine ⟨A', c', rfl, fun W hW hKW => ?_, hb⟩
  have hl2 : (L.set k (t, A2, c2)).length = n := by rw [List.length_set, hLn]
  rw [← hl2] at ho2
  refine ⟨L.set k (t, A2, c2), by rw [List.map_set, hL], TL.own (ho2.keep fun b2 cs hb2 => hKW _ (by simp) b2 cs hb2) (fun x hx => ?_) (fun x hx => ?_)⟩
  · rcases List.mem_or_eq_of_mem_set hx with hx | rfl
    · exact (hTL.2.2.1 x hx).below hW
    · exact hI.below hW
  · rcases List.mem_or_eq_of_mem_set hx with hx | rfl
    · exact hTL.2.1 x hx
    · exact hnm
end Go.Proofs.YtkcijibkloamkaaGreatDoor

