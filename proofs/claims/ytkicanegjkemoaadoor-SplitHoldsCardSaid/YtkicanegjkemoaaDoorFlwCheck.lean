/- What each task waits for, as rows of its own; a copy of a row. -/
import Derived.Test.YtkicanegjkemoaaDoorFlwTwn
import Derived.Lib.SliceRun
import Derived.Test.YtkicanegjkemoaaDoorFlwPure
namespace Go.Proofs.YtkicanegjkemoaaDoor
open Go.RowKit
open Dag (Ints IRows Own1 OwnI Sl ints info_int info_is)
set_option linter.unusedVariables false
set_option maxRecDepth 100000

def RetL (w : World) (xs : List Int) (e : Ending) (w' : World) : Prop := ∃ A c, e = .returned (.slice A xs.length c) ∧ Ints w' A c xs ∧ (∀ a, A = some a → w.heap.size ≤ a.block) ∧ Below w.heap.size w w'
set_option maxHeartbeats 800000 in
theorem clone_any (xs : List Int) (n : Nat) (he : xs.length = n) (w : World) (A : Option Addr) (c : Nat) (h : Ints w A c xs) (hn : n ≤ 100000000) :
    Calls Tryd.prog 64 #[.slice A n c] w (RetL w xs) := by
  have HE := Lib.hid he
  have q30 := fun (W : World) (a : Option Addr) (n c n' c' : Nat) => Lib.run_eql_slice_nil W 41 3 a n c n' c' Tryd.underlying41
  cases A with
  | none =>
    have hc := Sl.nil h rfl
    have hx : xs = [] := List.eq_nil_of_length_eq_zero (by have := h.len; omega)
    subst hx hc
    obtain rfl : n = 0 := by simpa using he.symm
    clear he
    go_enter Tryd.func64, Tryd.ntmps64
    go_wp2
    go_ret
    exact ⟨none, 0, rfl, Ints.empty w, (fun a e => by cases e), Below.refl _ _⟩
  | some a =>
    have H := Lib.hid h; clear h he
    have own0 : Own1 (w.alloc (.cells #[] 3)) w.heap.size 3 (.slice (some ⟨w.heap.size, 0, none⟩) 0 0) [] := by
      have := Own1.lit w w.heap.size 3 (Nat.le_refl _) [] (by simp [maxLen])
      simpa using this
    have OWN := Lib.hid own0; clear own0
    go_enter Tryd.func64, Tryd.ntmps64
    go_wp2_with (at_builtin; refine Dag.wpList_appg rfl _ _ 41 3 (.int .i64 0) 8 Tryd.underlying41 info_int rfl (by decide) rfl w.heap.size (.slice (some ⟨w.heap.size, 0, none⟩) 0 0) [] rfl OWN.out (some a) c n (ints xs) (by rw [Dag.ints_len, HE.out]) rfl (Sl.below H.out ((Below.refl _ _).alloc (Nat.le_refl _) _)) (Dag.ints_one xs) (by rw [Dag.ints_len, HE.out]; simp; omega) (by simp) ?_; intro l A9 c9 w9 el ho9 hg9 hb9 hbl9; have HO9 := Lib.hid ho9; have HBL := Lib.hid hbl9; have EL := Lib.hid el; clear ho9 hg9 hb9 hbl9 el)
    go_ret
    have el : l = ints xs := by rw [EL.out, List.nil_append]
    subst el
    have h2 := (OwnI.ints' (xs := xs) HO9.out)
    rw [Dag.ints_len] at h2
    refine ⟨A9, c9, by rw [Dag.ints_len]; rfl, h2.2, fun a' e => ?_, ((Below.refl _ _).alloc (Nat.le_refl _) _).trans HBL.out⟩
    subst e
    obtain ⟨A8, c8, e8, _, h8⟩ := Own1.slice HO9.out
    injection e8 with e8
    rcases h8 with h8 | ⟨g, h8⟩
    · rw [h8] at e8; cases e8
    · rw [h8] at e8; injection e8 with e8; subst e8
      exact (Own1.lt HO9.out (b := g) rfl).1

/-- rows of numbers, the first k of them there already, none of them in the outer block -/
structure Half (w : World) (base : Nat) (v : Value) (n k : Nat) (ls : List (List Int)) : Prop where
  ex : ∃ g vs, v = .slice (some ⟨g, 0, none⟩) n n ∧ vs.length = n ∧ base ≤ g ∧ g < w.heap.size ∧ Own1 w base 41 v vs ∧
    ∀ j xs, j < k → ls[j]? = some xs → ∃ A c, vs[j]? = some (.slice A xs.length c) ∧ Ints w A c xs ∧ (∀ a, A = some a → g < a.block)
theorem Half.rows {w : World} {base n : Nat} {v : Value} {ls : List (List Int)} (h : Half w base v n n ls) (hn : ls.length = n) (hb : n ≤ maxLen) : ∃ A c, v = .slice A n c ∧ IRows w A c ls := by
  obtain ⟨g, vs, rfl, hl, hbg, hlt, ho, hr⟩ := h.ex
  refine ⟨_, _, rfl, ⟨fun k xs hk => ?_, by omega, hb, fun e => by cases e⟩⟩
  have hkn : k < n := by have := (List.getElem?_eq_some_iff.1 hk).1; omega
  obtain ⟨A, c, hv, hi, _⟩ := hr k xs hkn hk
  obtain ⟨g2, e2, _, _, hc, _⟩ := Own1.at_ ho hv
  injection e2 with e2; injection e2 with e2; subst e2
  exact ⟨_, 0, A, c, rfl, by rw [Nat.zero_add]; exact hc, hi⟩
theorem Half.below {w w' : World} {base n k : Nat} {v : Value} {ls : List (List Int)} (h : Half w base v n k ls) (hb : Below w.heap.size w w') : Half w' base v n k ls := by
  obtain ⟨g, vs, rfl, hl, hbg, hlt, ho, hr⟩ := h.ex
  refine ⟨g, vs, rfl, hl, hbg, Nat.lt_of_lt_of_le hlt hb.size, ho.below hb, fun j xs hj hx => ?_⟩
  obtain ⟨A, c, h1, h2, h3⟩ := hr j xs hj hx
  exact ⟨A, c, h1, h2.below hb, h3⟩
theorem cell_keep {w w' : World} {p : Addr} (h : w'.heap[p.block]? = w.heap[p.block]?) : w'.cell? p = w.cell? p := by unfold World.cell?; rw [h]
theorem ints_other {w : World} {A : Option Addr} {c g i : Nat} {xs : List Int} {u : Value} (h : Ints w A c xs) (hg : ∀ a, A = some a → a.block ≠ g) : Ints (w.setCell ⟨g, i, none⟩ u) A c xs := by
  refine ⟨fun k v hk => ?_, h.cap, h.top, h.nil⟩
  obtain ⟨b, off, e, hc⟩ := h.cells k v hk
  exact ⟨b, off, e, (cell_keep (p := ⟨b, off + k, none⟩) (Dag.blk_other (hg _ e : b ≠ g))).trans hc⟩
/-- one row more -/
theorem Half.step {w w1 : World} {base n k : Nat} {v : Value} {ls : List (List Int)} {xs : List Int} {A : Option Addr} {c : Nat} (h : Half w base v n k ls) (hb : Below w.heap.size w w1) (hk : k < n) (hx : ls[k]? = some xs) (hi : Ints w1 A c xs) (hA : ∀ a, A = some a → w.heap.size ≤ a.block) :
    ∃ g, v = .slice (some ⟨g, 0, none⟩) n n ∧ base ≤ g ∧ g < w.heap.size ∧ (∃ u, w1.cell? ⟨g, k, none⟩ = some u) ∧ w1.frozen? ⟨g, k, none⟩ = false ∧ Half (w1.setCell ⟨g, k, none⟩ (.slice A xs.length c)) base v n (k + 1) ls := by
  obtain ⟨g, vs, rfl, hl, hbg, hlt, ho, hr⟩ := h.ex
  have ho1 := ho.below hb
  have hkv : k < vs.length := by omega
  obtain ⟨g2, e2, _, hlt1, hc, hf, _, hs⟩ := Own1.at_ ho1 (List.getElem?_eq_getElem hkv)
  injection e2 with e2; injection e2 with e2; subst e2
  refine ⟨_, rfl, hbg, hlt, ⟨_, hc⟩, hf, ⟨_, _, rfl, by rw [List.length_set]; exact hl, hbg, by simpa [World.setCell] using hlt1, hs _, fun j ys hj hy => ?_⟩⟩
  by_cases e : j = k
  · subst e
    rw [hx] at hy; injection hy with hy; subst hy
    exact ⟨A, c, by rw [List.getElem?_set, if_pos rfl, if_pos hkv], ints_other hi (fun a ha => by have := hA a ha; omega), fun a ha => by have := hA a ha; omega⟩
  · obtain ⟨A', c', h1, h2, h3⟩ := hr j ys (by omega) hy
    exact ⟨A', c', by rw [List.getElem?_set, if_neg (fun h => e h.symm)]; exact h1, ints_other (h2.below hb) (fun a ha => by have := h3 a ha; omega), h3⟩
theorem after_get {ts : List TaskD} {k : Nat} {t : TaskD} (h : ts[k]? = some t) : (afterL ts)[k]? = some t.after := by simp [afterL, h]
theorem after_len (ts : List TaskD) : (afterL ts).length = ts.length := by simp [afterL]

set_option maxHeartbeats 1600000 in
theorem after_any (f : FlowD) (A : Option Addr) (c : Nat) (w : World) (h : Tasks w A c f.tasks) (hn : f.tasks.length ≤ 1000000) (hl : ∀ t ∈ f.tasks, t.after.length ≤ 100000000) :
    Calls Tryd.prog 54 #[.agg #[.string (sb f.name), .int .i64 f.deadline, .int .i64 f.priority, .slice A f.tasks.length c]] w (fun e w' => ∃ A' c', e = .returned (.slice A' f.tasks.length c') ∧ IRows w' A' c' (afterL f.tasks) ∧ Below w.heap.size w w') := by
  have H := Lib.hid h; clear h
  have HL := Lib.hid hl; clear hl
  have hmk := fun (W : World) (x y : Int) (hx : x = (f.tasks.length : Int)) (hy : y = (f.tasks.length : Int)) => Dag.run_mk W 66 41 (.slice none 0 0) 24 Tryd.underlying66 info_is rfl (by decide) f.tasks.length hn x y hx hy
  have hmk1 := fun (W : World) => hmk W _ _ rfl rfl
  clear hmk
  go_enter Tryd.func54, Tryd.ntmps54
  go_wp2
  go_loopw [13] (fun i wr => ∃ k : Nat, k ≤ f.tasks.length ∧ i = .int .i64 k ∧ Below w.heap.size w wr ∧ Hid (Half wr w.heap.size (.slice (some ⟨w.heap.size + 1, 0, none⟩) f.tasks.length f.tasks.length) f.tasks.length k (afterL f.tasks))) (fun i _ => f.tasks.length - (intOf i).toNat)
  case atStart =>
    refine ⟨0, Nat.zero_le _, rfl, blw (al _ _) (al _ _), Lib.hid ⟨_, _, rfl, List.length_replicate, by omega, by simp, Own1.make (w.alloc _) _ _ (by simp) _ hn (.slice none 0 0) (by simp), fun j xs hj => by omega⟩⟩
  case round =>
    obtain ⟨k, hk, rfl, hb, hh⟩ := hrel
    by_cases hlt : k < f.tasks.length
    · obtain ⟨t, ht⟩ : ∃ t, f.tasks[k]? = some t := ⟨_, List.getElem?_eq_getElem hlt⟩
      obtain ⟨b, off, A', c', rfl, h0, h1, h2, h3, h4, h5, hI⟩ := (H.out.below hb).cells k _ ht
      have hll := HL.out t (List.mem_of_getElem? ht)
      have HI := Lib.hid (show Ints (wr.alloc (.cells #[.string (sb t.name), .int .i64 t.nodes, .int .i64 t.wall, .int .i64 t.retry, .bool t.done, .slice A' t.after.length c'] 43)) A' c' t.after from hI.below (al wr _))
      have HG := Lib.hid (after_get ht)
      clear hI ht
      go_wp2_with fail
      refine (clone_any t.after _ rfl _ A' c' HI.out hll).mono ?_
      rintro e w1 ⟨A9, c9, rfl, hi9, hA9, hb9⟩
      obtain ⟨g, eg, hbg, hlg, ⟨u, hc⟩, hf, hS⟩ := (hh.out.below (al wr _)).step hb9 hlt HG.out hi9 hA9
      injection eg with eg
      injection eg with eg
      injection eg with eg
      have HS := Lib.hid hS
      have HB := Lib.hid (blw (blw hb (al wr _)) hb9)
      clear hS hi9 hA9 hb9 hlg
      subst eg
      go_wp2
      go_roundw
      case rel => exact ⟨k + 1, by omega, by go_num, HB.out.setCell (by simp) _, HS⟩
      case measure => simp [intOf]; omega
    · obtain rfl : k = f.tasks.length := by omega
      obtain ⟨A9, c9, e9, h9⟩ := hh.out.rows (after_len _) (by simp only [maxLen]; omega)
      injection e9 with e1 e2 e3
      subst e1 e3
      go_wp2
      go_ret
      exact ⟨_, _, rfl, h9, hb⟩

end Go.Proofs.YtkicanegjkemoaaDoor

/- Names: whether a task may be called so; whether all of a workflow may. -/
namespace Go.Proofs.YtkicanegjkemoaaDoor
open Go.RowKit
open Txt (nameD sameS)
set_option linter.unusedVariables false
set_option maxRecDepth 100000

theorem sb_sz {s : List UInt8} {n : Nat} (h : s.length ≤ n) : (sb s).size ≤ n := by rw [sb_size]; exact h
theorem nm_any (s : List UInt8) (w : World) (hs : s.length ≤ 9000000000000000000) (hT : Txt.Tabs w) :
    Calls Tryd.prog 68 #[.string (sb s)] w fun e w' => e = .returned (.bool (nameD s)) ∧ Below w.heap.size w w' := by
  have h := Txt.name_any (sb s) w (sb_sz hs) hT
  rw [show Txt.lst (sb s) = s from sb_list s] at h
  exact h
theorem sm_any (a b : List UInt8) (w : World) (ha : a.length ≤ 9000000000000000000) (hb : b.length ≤ 9000000000000000000) :
    Calls Tryd.prog 79 #[.string (sb a), .string (sb b)] w fun e w' => e = .returned (.bool (sameS a b)) ∧ Below w.heap.size w w' := by
  have h := Txt.same_any (sb a) (sb b) w (sb_sz ha) (sb_sz hb)
  rw [show Txt.lst (sb a) = a from sb_list a, show Txt.lst (sb b) = b from sb_list b] at h
  exact h

theorem isTask_any (s : List UInt8) (w : World) (hs : s.length ≤ 9000000000000000000) (hT : Txt.Tabs w) :
    Calls Tryd.prog 67 #[.string (sb s)] w fun e w' => e = .returned (.bool (taskName s)) ∧ Below w.heap.size w w' := by
  unfold taskName
  have HT := Lib.hid hT; clear hT
  go_enter Tryd.func67, Tryd.ntmps67
  go_wp2_with fail
  refine (nm_any s _ hs HT.out).mono ?_
  rintro e w1 ⟨rfl, hb1⟩
  cases hn : nameD s
  · go_wp2
    go_ret
    exact ⟨by rw [hn]; rfl, hb1⟩
  · go_wp2_with fail
    refine (sm_any s childW _ hs (by decide)).mono ?_
    rintro e w2 ⟨rfl, hb2⟩
    go_wp2
    go_ret
    exact ⟨by rw [hn]; rfl, blw hb1 hb2⟩

set_option maxHeartbeats 1600000 in
theorem hasNames_any (f : FlowD) (A : Option Addr) (c : Nat) (w : World) (h : Tasks w A c f.tasks) (hT : Txt.Tabs w) (hl : f.name.length ≤ 9000000000000000000) (hn : ∀ t ∈ f.tasks, t.name.length ≤ 9000000000000000000) :
    Calls Tryd.prog 49 #[.agg #[.string (sb f.name), .int .i64 f.deadline, .int .i64 f.priority, .slice A f.tasks.length c]] w fun e w' => e = .returned (.bool (namesOK f)) ∧ Below w.heap.size w w' := by
  have hlm := h.lenI
  have H := Lib.hid h; clear h
  have HT := Lib.hid hT; clear hT
  have HL := Lib.hid hn; clear hn
  go_enter Tryd.func49, Tryd.ntmps49
  go_wp2
  go_loopw [8] (fun i wr => ∃ k : Nat, k ≤ f.tasks.length ∧ i = .int .i64 k ∧ Below w.heap.size w wr ∧ Hid (wr.heap[w.heap.size]? = some (flowO f A c)) ∧ Hid ((f.tasks.take k).all (fun t => taskName t.name) = true)) (fun i _ => f.tasks.length - (intOf i).toNat)
  case atStart => exact ⟨0, Nat.zero_le _, rfl, al _ _, Lib.hid (heap_alloc_new w _), Lib.hid rfl⟩
  case round =>
    obtain ⟨k, hk, rfl, hb, ho, hi⟩ := hrel
    by_cases hlt : k < f.tasks.length
    · obtain ⟨t, ht⟩ : ∃ t, f.tasks[k]? = some t := ⟨_, List.getElem?_eq_getElem hlt⟩
      obtain ⟨b, off, A', c', rfl, h0, h1, h2, h3, h4, h5, _⟩ := (H.out.below hb).cells k _ ht
      have hnl := HL.out t (List.mem_of_getElem? ht)
      cases e4 : taskName t.name
      · have HN := Lib.hid (show namesOK f = false from by unfold namesOK; rw [all_no (p := fun t => taskName t.name) ht e4]; rfl)
        clear ht
        go_wp2_with fail
        refine (isTask_any _ _ hnl (HT.out.below (blw hb (al _ _)))).mono ?_
        rintro e w1 ⟨rfl, hb1⟩
        rw [e4]
        go_wp2
        go_ret
        exact ⟨by rw [HN.out]; rfl, blw (blw hb (al wr _)) hb1⟩
      · have HN := Lib.hid (all_snoc (p := fun t => taskName t.name) ht e4 hi.out)
        clear ht
        go_wp2_with fail
        refine (isTask_any _ _ hnl (HT.out.below (blw hb (al _ _)))).mono ?_
        rintro e w1 ⟨rfl, hb1⟩
        rw [e4]
        go_wp2
        have hbb := blw (blw hb (al wr _)) hb1
        go_roundw
        case rel => exact ⟨k + 1, by omega, by go_num, hbb, Lib.hid (keep_obj hb1 (keep_obj (al wr _) ho.out)), HN⟩
        case measure => simp [intOf]; omega
    · have HA := Lib.hid (show namesOK f = nameD f.name from by unfold namesOK; rw [all_done hlt hi.out]; rfl)
      have c0 := Dag.blk_cell ho.out 0
      have hlb := Dag.blk_lt ho.out
      simp at c0
      go_wp2_with fail
      refine (nm_any _ _ hl (HT.out.below hb)).mono ?_
      rintro e w1 ⟨rfl, hb1⟩
      go_wp2
      go_ret
      exact ⟨by rw [HA.out]; rfl, blw hb hb1⟩

end Go.Proofs.YtkicanegjkemoaaDoor

/- Check: the first error of a workflow. -/
namespace Go.Proofs.YtkicanegjkemoaaDoor
open Go.RowKit
open Txt (nameD sameS)
open Dag (Ints IRows newE)
set_option linter.unusedVariables false
set_option maxRecDepth 100000

/-- what New is asked for here: its error, of at most N vertices -/
def NewOK (N : Nat) (Tb : World → Prop) : Prop := ∀ (E : List (List Int)) (n : Nat), E.length = n → n ≤ N → (∀ l ∈ E, l.length ≤ N) → ∀ (w : World) (A : Option Addr) (c : Nat), IRows w A c E → Tb w →
  Calls Tryd.prog 53 #[.slice A n c] w fun e w' => ∃ p, e = .returned (.tuple #[p, .int .i64 (newE E)]) ∧ Below w.heap.size w w'
theorem newOK : NewOK 4096 Dag.Tab := by
  intro E n he hn hl w A c h hT
  refine (Dag.new_any E n he w A c h hn (fun l hm => Nat.le_trans (hl l hm) (by decide)) hT).mono ?_
  rintro e w' ⟨p, rfl, hb, _⟩
  exact ⟨p, rfl, hb⟩

theorem rise_len {n : Nat} : ∀ (l : List Int) (L : Int), -1 ≤ L → riseL n L l = true → (l.length : Int) + L + 1 ≤ n ∨ l = []
  | [], L, _, _ => Or.inr rfl
  | v :: l, L, hL, h => by
    rw [riseL] at h
    simp only [Bool.and_eq_true, decide_eq_true_eq] at h
    obtain ⟨h1, h2, h3⟩ := h
    rcases rise_len l v (by omega) h3 with h4 | h4
    · left; simp only [List.length_cons]; omega
    · left; subst h4; simp only [List.length_cons, List.length_nil]; omega
theorem linkOK_len {n : Nat} {l : List Int} (h : linkOK n l = true) : l.length ≤ n := by
  rcases rise_len l (-1) (by omega) h with h | h
  · omega
  · subst h; simp
theorem linksOK_len {ts : List TaskD} (h : linksOK ts = true) : ∀ l ∈ afterL ts, l.length ≤ ts.length := by
  intro l hl
  obtain ⟨t, ht, rfl⟩ := List.mem_map.1 hl
  exact linkOK_len (List.all_eq_true.1 h t ht)

theorem flowO_cells {w : World} {b : Nat} {f : FlowD} {A : Option Addr} {c : Nat} (h : w.heap[b]? = some (flowO f A c)) :
    w.cell? ⟨b, 0, none⟩ = some (.string (sb f.name)) ∧ w.cell? ⟨b, 1, none⟩ = some (.int .i64 f.deadline) ∧ w.cell? ⟨b, 2, none⟩ = some (.int .i64 f.priority) ∧ w.cell? ⟨b, 3, none⟩ = some (.slice A f.tasks.length c) ∧ b < w.heap.size :=
  ⟨Dag.blk_cell h 0, Dag.blk_cell h 1, Dag.blk_cell h 2, Dag.blk_cell h 3, Dag.blk_lt h⟩

set_option maxHeartbeats 3200000 in
theorem check_any (N : Nat) (Tb : World → Prop) (hN : NewOK N Tb) (hTb : ∀ w w', Tb w → Below w.heap.size w w' → Tb w') (f : FlowD) (A : Option Addr) (c : Nat) (w : World) (h : Tasks w A c f.tasks) (hT : Txt.Tabs w) (hS : TabS w) (hB : Tb w)
    (hl : f.name.length ≤ 9000000000000000000) (hn : ∀ t ∈ f.tasks, t.name.length ≤ 9000000000000000000) (hlen : f.tasks.length ≤ 4096 → f.tasks.length ≤ N) :
    Calls Tryd.prog 29 #[.agg #[.string (sb f.name), .int .i64 f.deadline, .int .i64 f.priority, .slice A f.tasks.length c]] w fun e w' => e = .returned (.int .i64 (checkE f)) ∧ Below w.heap.size w w' := by
  have hlm := h.lenI
  have H := Lib.hid h; clear h
  have HT := Lib.hid hT; clear hT
  have HS := Lib.hid hS; clear hS
  have HB := Lib.hid hB; clear hB
  unfold checkE
  have FL : Hid (∀ w1, Below (w.alloc (flowO f A c)).heap.size (w.alloc (flowO f A c)) w1 → w1.heap[w.heap.size]? = some (flowO f A c)) := Lib.hid fun w1 hb => keep_obj hb (heap_alloc_new w _)
  go_enter Tryd.func29, Tryd.ntmps29
  go_wp2_with fail
  refine (hasNames_any f A c _ (H.out.below (al _ _)) (HT.out.below (al _ _)) hl hn).mono ?_
  rintro e w1 ⟨rfl, hb1⟩
  have b1 := blw (al w (flowO f A c)) hb1
  cases e1 : namesOK f
  · go_wp2
    go_ret
    exact ⟨by first | rfl | simp, b1⟩
  have B1 := Lib.hid hb1
  have BB1 := Lib.hid b1
  obtain ⟨p0, p1, p2, p3, pl⟩ := flowO_cells (FL.out _ hb1)
  clear hb1 b1
  go_wp2_with fail
  refine (numbers_any f A c _ (H.out.below BB1.out) (HS.out.below BB1.out)).mono ?_
  rintro e w2 ⟨rfl, hb2⟩
  have b2 := blw B1.out hb2
  have bb2 := blw BB1.out hb2
  cases e2 : numbersOK f
  · go_wp2
    all_goals go_ret
    all_goals exact ⟨by first | rfl | simp, bb2⟩
  have B2 := Lib.hid b2
  have BB2 := Lib.hid bb2
  obtain ⟨q0, q1, q2, q3, ql⟩ := flowO_cells (FL.out _ b2)
  clear hb2 b2 bb2
  go_wp2_with fail
  refine (twins_any f.tasks A c _ (H.out.below BB2.out)).mono ?_
  rintro e w3 ⟨rfl, hb3⟩
  have b3 := blw B2.out hb3
  have bb3 := blw BB2.out hb3
  cases e3 : twins f.tasks
  case true =>
    go_wp2
    all_goals go_ret
    all_goals exact ⟨by first | rfl | simp, bb3⟩
  have B3 := Lib.hid b3
  have BB3 := Lib.hid bb3
  obtain ⟨r0, r1, r2, r3, rl⟩ := flowO_cells (FL.out _ b3)
  clear hb3 b3 bb3
  by_cases h4 : 4096 < f.tasks.length
  · go_wp2
    all_goals go_ret
    all_goals exact ⟨by first | rfl | simp [h4] | simp, BB3.out⟩
  go_wp2_with fail
  refine (links_any f.tasks A c _ (H.out.below BB3.out)).mono ?_
  rintro e w4 ⟨rfl, hb4⟩
  have b4 := blw B3.out hb4
  have bb4 := blw BB3.out hb4
  cases e4 : linksOK f.tasks
  · go_wp2
    all_goals go_ret
    all_goals exact ⟨by first | rfl | simp [h4] | simp, bb4⟩
  have B4 := Lib.hid b4
  have BB4 := Lib.hid bb4
  obtain ⟨s0, s1, s2, s3, sl⟩ := flowO_cells (FL.out _ b4)
  clear hb4 b4 bb4
  have hlN := hlen (by omega)
  have hll := linksOK_len e4
  have HLL := Lib.hid (show ∀ l ∈ afterL f.tasks, l.length ≤ N from fun l hm => Nat.le_trans (hll l hm) hlN)
  have HLT := Lib.hid (show ∀ t ∈ f.tasks, t.after.length ≤ 100000000 from fun t hm => Nat.le_trans (hll _ (List.mem_map_of_mem hm)) (by omega))
  clear hll
  go_wp2_with fail
  refine (after_any f A c _ (H.out.below BB4.out) (by omega) HLT.out).mono ?_
  rintro e w5 ⟨A5, c5, rfl, hi5, hb5⟩
  have BB5 := Lib.hid (blw BB4.out hb5)
  have HI5 := Lib.hid hi5
  clear hi5 hb5
  go_wp2_with fail
  refine (hN (afterL f.tasks) _ (after_len _) hlN HLL.out _ A5 c5 HI5.out (hTb _ _ HB.out BB5.out)).mono ?_
  rintro e w6 ⟨p, rfl, hb6⟩
  go_wp2
  all_goals go_ret
  all_goals exact ⟨by first | rfl | simp [h4] | simp, blw BB5.out hb6⟩

end Go.Proofs.YtkicanegjkemoaaDoor


