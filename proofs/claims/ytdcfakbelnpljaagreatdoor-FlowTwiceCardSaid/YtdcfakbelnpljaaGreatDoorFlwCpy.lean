/- Find; slices.Clone of numbers and of tasks, in memory of the call's own. -/
import Derived.Test.YtdcfakbelnpljaaGreatDoorFlwSame
import Derived.Test.YtdcfakbelnpljaaGreatDoorFlwRead
namespace Go.Proofs.YtdcfakbelnpljaaGreatDoor
open Go.RowKit
open Dag (Ints IRows Own1 OwnI Sl ints info_int)
set_option linter.unusedVariables false
set_option maxRecDepth 100000

/-! Find -/
theorem findc_any (t : TaskD) (s : List UInt8) (A : Option Addr) (c : Nat) (w : World) (bn : Nat) (h : w.cell? ⟨bn, 0, none⟩ = some (.string (sb s))) (r : Bool) (hr : ((sb t.name).toList == (sb s).toList) = r) :
    Calls Tryz.prog 57 #[.agg #[.string (sb t.name), .int .i64 t.nodes, .int .i64 t.wall, .int .i64 t.retry, .bool t.done, .slice A t.after.length c], .pointer (some ⟨bn, 0, none⟩)] w fun e w' => e = .returned (.bool r) ∧ Below w.heap.size w w' := by
  have hlt : bn < w.heap.size := World.block_lt_of_cell? w _ h
  have HR := Lib.hid hr
  clear hr
  go_enter Tryz.func57, Tryz.ntmps57
  go_wp2
  go_ret
  exact ⟨by rw [← HR.out]; rfl, al _ _⟩
set_option maxHeartbeats 1600000 in
theorem findix_any (ts : List TaskD) (A : Option Addr) (c : Nat) (w : World) (h : Tasks w A c ts) (s : List UInt8) (bn : Nat) (hn : w.cell? ⟨bn, 0, none⟩ = some (.string (sb s))) :
    Calls Tryz.prog 56 #[.slice A ts.length c, .func (.func 57) #[] #[.pointer (some ⟨bn, 0, none⟩)]] w fun e w' => e = .returned (.int .i64 (findI ts s)) ∧ Below w.heap.size w w' := by
  have hlm := h.lenI
  have H := Lib.hid h; have HN := Lib.hid hn
  clear h hn
  go_enter Tryz.func56, Tryz.ntmps56
  go_wp2
  go_loopw [8] (fun i wr => ∃ (k : Nat), k ≤ ts.length ∧ i = .int .i64 k ∧ Hid (Below w.heap.size w wr) ∧ Hid (s ∉ names (ts.take k))) (fun i _ => ts.length - (intOf i).toNat)
  case atStart => exact ⟨0, Nat.zero_le _, rfl, Lib.hid (Below.refl _ _), Lib.hid (by simp [names])⟩
  case round =>
    obtain ⟨k, hk, rfl, HB, hn⟩ := hrel
    by_cases hlt : k < ts.length
    · obtain ⟨t, ht⟩ : ∃ t, ts[k]? = some t := ⟨_, List.getElem?_eq_getElem hlt⟩
      obtain ⟨b, off, A', c', rfl, h0, h1, h2, h3, h4, h5, _⟩ := (H.out.below HB.out).cells k _ ht
      have hcn := keep_cell HB.out HN.out
      by_cases hts : t.name = s
      · have hne := beq_list hts
        have HF := Lib.hid (findI_at ht hts hn.out)
        clear hts ht
        go_wp2_with fail
        refine (findc_any t s A' c' _ bn hcn true hne).mono ?_
        rintro e w1 ⟨rfl, hb1⟩
        go_wp2
        go_ret
        exact ⟨by rw [HF.out]; rfl, blw HB.out hb1⟩
      · have hne := bne_list hts
        have HNN := Lib.hid (names_snoc ht hn.out hts)
        clear hts ht
        go_wp2_with fail
        refine (findc_any t s A' c' _ bn hcn false hne).mono ?_
        rintro e w1 ⟨rfl, hb1⟩
        go_wp2
        go_roundw
        case rel => exact ⟨k + 1, by omega, by go_num, Lib.hid (blw HB.out hb1), HNN⟩
        case measure => simp [intOf]; omega
    · obtain rfl : k = ts.length := by omega
      have HF := Lib.hid (findI_none (ts := ts) (s := s) (by have := hn.out; rwa [List.take_length] at this))
      go_wp2
      go_ret
      exact ⟨by rw [HF.out]; rfl, HB.out⟩
theorem findI_low (ts : List TaskD) (s : List UInt8) : -1 ≤ findI ts s ∧ findI ts s ≤ ts.length := by
  unfold findI
  split
  · have := List.idxOf_lt_length_of_mem (by assumption : s ∈ names ts)
    simp only [names, List.length_map] at this ⊢
    omega
  · omega
set_option maxHeartbeats 1600000 in
theorem find_flow (f : FlowD) (A : Option Addr) (c : Nat) (w : World) (h : Tasks w A c f.tasks) (s : List UInt8) (x : Int) (hx : findI f.tasks s = x) :
    Calls Tryz.prog 24 #[.agg #[.string (sb f.name), .int .i64 f.deadline, .int .i64 f.priority, .slice A f.tasks.length c], .string (sb s)] w fun e w' => e = .returned (.tuple #[.int .i64 (if x < 0 then 0 else x), .bool (decide (0 ≤ x))]) ∧ Below w.heap.size w w' := by
  have H := Lib.hid h
  clear h
  have HX := Lib.hid hx
  clear hx
  have hW : Below w.heap.size w ((w.alloc (flowO f A c)).alloc (.cells #[.string (sb s)] 9)) := blw (al _ _) (al _ _)
  have HC := Lib.hid (findix_any f.tasks A c _ (H.out.below hW) s (w.heap.size + 1) (by
    have := alloc_at (W := w.alloc (flowO f A c)) (o := .cells #[.string (sb s)] 9) (g := w.heap.size + 1) (by simp)
    exact Dag.blk_cell this 0))
  by_cases hlt : x < 0
  · have HD : Hid (decide (0 ≤ x) = false) := Lib.hid (decide_eq_false (by omega))
    rw [if_pos hlt]
    go_enter Tryz.func24, Tryz.ntmps24
    go_wp2_with fail
    refine HC.out.mono ?_
    rw [HX.out]
    rintro e w1 ⟨rfl, hb1⟩
    go_wp2
    go_ret2
    exact ⟨by rw [HD.out]; rfl, blw hW hb1⟩
  · have HD : Hid (decide (0 ≤ x) = true) := Lib.hid (decide_eq_true (by omega))
    rw [if_neg hlt]
    go_enter Tryz.func24, Tryz.ntmps24
    go_wp2_with fail
    refine HC.out.mono ?_
    rw [HX.out]
    rintro e w1 ⟨rfl, hb1⟩
    go_wp2
    go_ret2
    exact ⟨by rw [HD.out]; rfl, blw hW hb1⟩

/-! slices.Clone -/
theorem clone_own (xs : List Int) (n : Nat) (he : xs.length = n) (w : World) (A : Option Addr) (c : Nat) (h : Ints w A c xs) (hn : n ≤ 100000000) :
    Calls Tryz.prog 58 #[.slice A n c] w fun e w' => ∃ A' c', e = .returned (.slice A' n c') ∧ OwnI w' w.heap.size (.slice A' n c') xs ∧ Below w.heap.size w w' := by
  have HE := Lib.hid he
  have q30 := fun (W : World) (a : Option Addr) (n c n' c' : Nat) => Lib.run_eql_slice_nil W 55 3 a n c n' c' Tryz.underlying55
  cases A with
  | none =>
    have hc := Sl.nil h rfl
    have hx : xs = [] := List.eq_nil_of_length_eq_zero (by have := h.len; omega)
    subst hx hc
    obtain rfl : n = 0 := by simpa using he.symm
    clear he
    go_enter Tryz.func58, Tryz.ntmps58
    go_wp2
    go_ret
    exact ⟨none, 0, rfl, Own1.nil _ _ _, Below.refl _ _⟩
  | some a =>
    have H := Lib.hid h; clear h he
    have own0 : Own1 (w.alloc (.cells #[] 3)) w.heap.size 3 (.slice (some ⟨w.heap.size, 0, none⟩) 0 0) [] := by
      have := Own1.lit w w.heap.size 3 (Nat.le_refl _) [] (by simp [maxLen])
      simpa using this
    have OWN := Lib.hid own0; clear own0
    go_enter Tryz.func58, Tryz.ntmps58
    go_wp2_with (at_builtin; refine Dag.wpList_appg rfl _ _ 55 3 (.int .i64 0) 8 Tryz.underlying55 info_int rfl (by decide) rfl w.heap.size (.slice (some ⟨w.heap.size, 0, none⟩) 0 0) [] rfl OWN.out (some a) c n (ints xs) (by rw [Dag.ints_len, HE.out]) rfl (Sl.below H.out ((Below.refl _ _).alloc (Nat.le_refl _) _)) (Dag.ints_one xs) (by rw [Dag.ints_len, HE.out]; simp; omega) (by simp) ?_; intro l A9 c9 w9 el ho9 hg9 hb9 hbl9; have HO9 := Lib.hid ho9; have HBL := Lib.hid hbl9; have EL := Lib.hid el; clear ho9 hg9 hb9 hbl9 el)
    go_ret
    have el : l = ints xs := by rw [EL.out, List.nil_append]
    subst el
    have hn2 : (ints xs).length = n := by rw [Dag.ints_len, HE.out]
    have ho := HO9.out
    rw [hn2] at ho ⊢
    exact ⟨A9, c9, rfl, ho, ((Below.refl _ _).alloc (Nat.le_refl _) _).trans HBL.out⟩

/-- a task, and where its links lie -/
abbrev TaskA := TaskD × Option Addr × Nat
def tkC (x : TaskA) : List Value := [.string (sb x.1.name), .int .i64 x.1.nodes, .int .i64 x.1.wall, .int .i64 x.1.retry, .bool x.1.done, .slice x.2.1 x.1.after.length x.2.2]
theorem tkC_len (x : TaskA) : (tkC x).length = 6 := rfl
theorem tkC_one (x : TaskA) : ∀ u ∈ tkC x, u.oneCell' = true := by
  intro u hu
  simp only [tkC, List.mem_cons, List.mem_nil_iff, or_false] at hu
  rcases hu with rfl | rfl | rfl | rfl | rfl | rfl <;> rfl
theorem flat_one {α : Type} {c : α → List Value} (h : ∀ x, ∀ u ∈ c x, u.oneCell' = true) : ∀ l : List α, ∀ u ∈ flat c l, u.oneCell' = true
  | [], u, hu => by cases hu
  | x :: l, u, hu => by
    rw [flat] at hu
    rcases List.mem_append.1 hu with hu | hu
    · exact h x u hu
    · exact flat_one h l u hu
theorem flat_split {α : Type} {c : α → List Value} {sz : Nat} (hc : ∀ a, (c a).length = sz) (hsz : 0 < sz) : ∀ (l : List α) (i : Nat) (u : Value), (flat c l)[i]? = some u → ∃ k j a, i = k * sz + j ∧ j < sz ∧ l[k]? = some a ∧ (c a)[j]? = some u
  | [], i, u, h => by simp [flat] at h
  | x :: l, i, u, h => by
    rw [flat] at h
    rcases Nat.lt_or_ge i sz with hi | hi
    · rw [List.getElem?_append_left (by rw [hc]; exact hi)] at h
      exact ⟨0, i, x, by omega, hi, rfl, h⟩
    · rw [List.getElem?_append_right (by rw [hc]; exact hi), hc] at h
      obtain ⟨k, j, a, e, hj, ha, hu⟩ := flat_split hc hsz l (i - sz) u h
      exact ⟨k + 1, j, a, by rw [Nat.succ_mul]; omega, hj, by simpa using ha, hu⟩
/-- the tasks of a slice, and where each one's links lie -/
theorem Tasks.list {w : World} {A : Option Addr} {c : Nat} {ts : List TaskD} (h : Tasks w A c ts) : ∃ L : List TaskA, L.map Prod.fst = ts ∧ (∀ x ∈ L, Ints w x.2.1 x.2.2 x.1.after) ∧ ∀ k x, L[k]? = some x → ∃ b off, A = some ⟨b, off, none⟩ ∧ ∀ j u, (tkC x)[j]? = some u → w.cell? ⟨b, off + k * 6 + j, none⟩ = some u := by
  have hc := h.cells
  have key : ∀ n, n ≤ ts.length → ∃ L : List TaskA, L.map Prod.fst = ts.take n ∧ (∀ x ∈ L, Ints w x.2.1 x.2.2 x.1.after) ∧ ∀ k x, L[k]? = some x → ∃ b off, A = some ⟨b, off, none⟩ ∧ ∀ j u, (tkC x)[j]? = some u → w.cell? ⟨b, off + k * 6 + j, none⟩ = some u := by
    intro n
    induction n with
    | zero => intro _; exact ⟨[], by simp, (fun x hx => by cases hx), (fun k x hx => by simp at hx)⟩
    | succ n ih =>
      intro hn
      obtain ⟨L, h1, h2, h3⟩ := ih (by omega)
      obtain ⟨t, ht⟩ : ∃ t, ts[n]? = some t := ⟨_, List.getElem?_eq_getElem (by omega)⟩
      obtain ⟨b, off, A', c', e, g0, g1, g2, g3, g4, g5, hi⟩ := hc n t ht
      have hl : L.length = n := by have := congrArg List.length h1; simpa [Nat.min_eq_left (show n ≤ ts.length by omega)] using this
      refine ⟨L ++ [(t, A', c')], ?_, fun x hx => ?_, fun k x hx => ?_⟩
      · rw [List.map_append, h1, List.take_add_one, ht]; rfl
      · rcases List.mem_append.1 hx with hx | hx
        · exact h2 x hx
        · simp at hx; subst hx; exact hi
      · rcases Nat.lt_or_ge k L.length with hk | hk
        · rw [List.getElem?_append_left hk] at hx
          exact h3 k x hx
        · rw [List.getElem?_append_right hk] at hx
          have hz : k - L.length = 0 := by
            have := (List.getElem?_eq_some_iff.1 hx).1
            simp at this; omega
          rw [hz] at hx
          simp at hx
          obtain rfl : k = n := by omega
          subst hx
          refine ⟨b, off, e, fun j u hu => ?_⟩
          match j, hu with
          | 0, hu => simp [tkC] at hu; subst hu; exact g0
          | 1, hu => simp [tkC] at hu; subst hu; exact g1
          | 2, hu => simp [tkC] at hu; subst hu; exact g2
          | 3, hu => simp [tkC] at hu; subst hu; exact g3
          | 4, hu => simp [tkC] at hu; subst hu; exact g4
          | 5, hu => simp [tkC] at hu; subst hu; exact g5
          | j + 6, hu => simp [tkC] at hu
  obtain ⟨L, h1, h2, h3⟩ := key ts.length (Nat.le_refl _)
  rw [List.take_length] at h1
  exact ⟨L, h1, h2, h3⟩
set_option maxHeartbeats 1600000 in
theorem cloneT_any (ts : List TaskD) (n : Nat) (hn : ts.length = n) (w0 w : World) (A : Option Addr) (c : Nat) (h : Tasks w0 A c ts) (hb0 : Below w0.heap.size w0 w) (hm : n ≤ 1000000) :
    Calls Tryz.prog 59 #[.slice A n c] w fun e w' => ∃ (A' : Option Addr) (c' : Nat) (L : List TaskA), e = .returned (.slice A' n c') ∧ L.map Prod.fst = ts ∧ (∀ x ∈ L, Ints w0 x.2.1 x.2.2 x.1.after) ∧ OwnN w' w.heap.size 57 6 A' n c' (flat tkC L) ∧ Below w.heap.size w w' := by
  have q30 := fun (W : World) (a : Option Addr) (n c n' c' : Nat) => Lib.run_eql_slice_nil W 23 57 a n c n' c' Tryz.underlying23
  obtain ⟨L, hL, hI, hC0⟩ := h.list
  have hC : ∀ k x, L[k]? = some x → ∃ b off, A = some ⟨b, off, none⟩ ∧ ∀ j u, (tkC x)[j]? = some u → w.cell? ⟨b, off + k * 6 + j, none⟩ = some u := fun k x hx => by
    obtain ⟨b, off, e, hc⟩ := hC0 k x hx
    exact ⟨b, off, e, fun j u hu => keep_cell hb0 (hc j u hu)⟩
  clear hC0
  have hLn : L.length = n := by rw [← hn, ← hL, List.length_map]
  cases A with
  | none =>
    have hc := h.nil rfl
    have hx : ts = [] := List.eq_nil_of_length_eq_zero (by have := h.cap; omega)
    subst hx hc
    obtain rfl : n = 0 := by simpa using hn.symm
    obtain rfl : L = [] := List.eq_nil_of_length_eq_zero hLn
    clear h hL hI hC hLn hb0
    go_enter Tryz.func59, Tryz.ntmps59
    go_wp2
    go_ret
    exact ⟨none, 0, [], rfl, rfl, (fun x hx => by cases hx), ⟨rfl, Or.inl ⟨rfl, rfl⟩⟩, Below.refl _ _⟩
  | some a =>
    have HL := Lib.hid hL; have HI := Lib.hid hI; have HC := Lib.hid hC; have HLN := Lib.hid hLn
    have hfl : (flat tkC L).length = n * 6 := by rw [flat_len tkC_len, hLn]
    have HFL := Lib.hid hfl
    have hsrc : ∀ j u, (flat tkC L)[j]? = some u → w.cell? (a.add j) = some u := fun j u hu => by
      obtain ⟨k, i, x, e, hi, hx, hu2⟩ := flat_split tkC_len (by decide) L j u hu
      obtain ⟨b, off, ea, hcell⟩ := hC k x hx
      injection ea with ea
      subst ea
      rw [Go.WideShapes.add_plain, e, ← Nat.add_assoc]
      exact hcell i u hu2
    have HS := Lib.hid hsrc
    clear h hL hI hC hLn hfl hsrc hn hb0
    obtain ⟨i0, hi0, hz0, hz1, hz2⟩ := info_parts info_task
    have HI0 := Lib.hid hi0; have HZ0 := Lib.hid hz0; have HZ1 := Lib.hid hz1; have HZ2 := Lib.hid hz2
    clear hi0 hz0 hz1 hz2
    have own0 : OwnN (w.alloc (.cells #[] 57)) w.heap.size 57 6 (some ⟨w.heap.size, 0, none⟩) 0 0 [] :=
      ⟨rfl, Or.inr ⟨w.heap.size, 0, #[], rfl, Nat.le_refl _, heap_alloc_new w _, Nat.le_refl _, by simp [maxLen], rfl, rfl⟩⟩
    have OWN := Lib.hid own0; clear own0
    go_enter Tryz.func59, Tryz.ntmps59
    go_wp2_with (at_builtin; refine wpList_append_own_at _ rfl _ _ 23 rfl w.heap.size 57 i0 (.agg #[.string ⟨#[]⟩, .int .i64 0, .int .i64 0, .int .i64 0, .bool false, .slice none 0 0]) 6 72 Tryz.underlying23 HI0.out HZ0.out HZ1.out HZ2.out rfl (by decide) (.slice (some ⟨w.heap.size, 0, none⟩) 0 0) 0 [] rfl OWN.out a n c (flat tkC L) rfl (by rw [HFL.out]) (fun j u hu => by have := HS.out j u hu; exact ((al w (.cells #[] 57)).cell (World.block_lt_of_cell? w _ this)).trans this) (flat_one tkC_one L) (by simp only [maxLen]; omega) (by omega) (by simp) ?_; intro v9 w9 ho9 hg9 _ hb9; obtain ⟨A9, c9, rfl⟩ : ∃ A9 c9, v9 = .slice A9 (0 + n) c9 := (by rcases ho9.2 with ⟨hv, h0⟩ | ⟨g2, cap, cur, hv, _⟩; exact ⟨none, 0, by rw [hv, h0]⟩; exact ⟨_, _, hv⟩); rw [Nat.zero_add] at ho9 ⊢; have HO9 := Lib.hid ho9; have HB9 : Hid (Below w.heap.size w w9) := Lib.hid (((al w _)).grown hg9 (by simp) fun k hk => by injection hk with hk; subst hk; exact Nat.le_refl _); clear ho9 hg9 hb9)
    go_ret
    exact ⟨A9, c9, L, rfl, HL.out, HI.out, HO9.out, HB9.out⟩

end Go.Proofs.YtdcfakbelnpljaaGreatDoor
