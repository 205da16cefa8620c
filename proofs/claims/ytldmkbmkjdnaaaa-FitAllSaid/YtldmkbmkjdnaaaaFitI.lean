/- Layer 10: the document's Times, First, Last. -/
import Derived.Test.YtldmkbmkjdnaaaaFitH
import Derived.Test.YtldmkbmkjdnaaaaFitReg
namespace Go.Proofs.Ytldmkbmkjdnaaaa.Ft
open Go.RowKit Go.Shelf
open Stp
open Dag (Ints Sl Own1 OwnI ints ints_len ints_app)
set_option linter.unusedVariables false
set_option maxRecDepth 100000

/-! the times -/
def candL (d : Int) : List StepD → List Int
  | [] => []
  | s :: l => s.at_ :: (s.at_ - d) :: (s.at_ - d + 1) :: (s.at_ - 1) :: candL d l
def timD (l : List StepD) (a b d : Int) : List Int := a :: (b - d) :: candL d l
theorem cand_snoc (d : Int) : ∀ (l : List StepD) (s : StepD), candL d (l ++ [s]) = candL d l ++ [s.at_, s.at_ - d, s.at_ - d + 1, s.at_ - 1]
  | [], s => rfl
  | a :: l, s => by simp only [List.cons_append, candL, cand_snoc d l s]
theorem cand_len (d : Int) : ∀ (l : List StepD), (candL d l).length = 4 * l.length
  | [] => rfl
  | s :: l => by simp only [candL, List.length_cons, cand_len d l]; omega
theorem cand_mem {d t : Int} : ∀ {l : List StepD}, t ∈ candL d l ↔ ∃ s ∈ l, t = s.at_ ∨ t = s.at_ - d ∨ t = s.at_ - d + 1 ∨ t = s.at_ - 1
  | [] => by simp [candL]
  | s :: l => by simp only [candL, List.mem_cons, cand_mem (l := l), exists_eq_or_imp, or_assoc]
theorem tim_mem {l : List StepD} {a b d t : Int} : t ∈ timD l a b d ↔ t = a ∨ t = b - d ∨ ∃ s ∈ l, t = s.at_ ∨ t = s.at_ - d ∨ t = s.at_ - d + 1 ∨ t = s.at_ - 1 := by
  unfold timD; simp only [List.mem_cons, cand_mem]
theorem tim_bd {l : List StepD} {a b d t : Int} (hl : ∀ s ∈ l, 0 ≤ s.at_ ∧ s.at_ ≤ 1099511627775) (ha : 0 ≤ a ∧ a ≤ 1099511627775) (hb : 0 ≤ b ∧ b ≤ 1099511627775) (hd : 0 ≤ d ∧ d ≤ 1099511627775) (ht : t ∈ timD l a b d) : -10000000000000 ≤ t ∧ t ≤ 10000000000000 := by
  rcases tim_mem.1 ht with rfl | rfl | ⟨s, hs, h⟩
  · omega
  · omega
  · have := hl s hs
    omega
theorem int4 {W : World} {g : Nat} {x y z u : Int} {t : TypeId} (h : W.heap[g]? = some (.cells #[.int .i64 x, .int .i64 y, .int .i64 z, .int .i64 u] t (0, 0))) : Sl W (some ⟨g, 0, none⟩) 4 [.int .i64 x, .int .i64 y, .int .i64 z, .int .i64 u] := by
  refine ⟨fun k v hk => ?_, by simp, by decide, fun e => by cases e⟩
  match k, hk with
  | 0, hk => injection hk with hk; subst hk; exact ⟨_, 0, rfl, Dag.blk_cell h 0⟩
  | 1, hk => injection hk with hk; subst hk; exact ⟨_, 0, rfl, Dag.blk_cell h 1⟩
  | 2, hk => injection hk with hk; subst hk; exact ⟨_, 0, rfl, Dag.blk_cell h 2⟩
  | 3, hk => injection hk with hk; subst hk; exact ⟨_, 0, rfl, Dag.blk_cell h 3⟩
  | k + 4, hk => simp at hk
theorem wpList_int4 {w : World} {ops : Array Oper} {rest : List Oper} {o : Oper} {a : Act} {Q : Exit → Act → World → Prop} (hgd : o.guard = none) (s x : Operand)
    (ho : o.op = .call { callee := .builtin .append, args := #[s, x], argTypes := #[57, 57] })
    (base : Nat) (v : Value) (l : List Int) (hs : a.eval s = v) (hown : OwnI w base v l) (g : Nat) (u1 u2 u3 u4 : Int) (hx : a.eval x = .slice (some ⟨g, 0, none⟩) 4 4)
    (h0 : w.heap[g]? = some (.cells #[.int .i64 u1, .int .i64 u2, .int .i64 u3, .int .i64 u4] 3 (0, 0))) (hlen : l.length ≤ 1000000) (hbase : base ≤ w.heap.size)
    (h : ∀ (A' : Option Addr) (c' : Nat) (w' : World), OwnI w' base (.slice A' (l ++ [u1, u2, u3, u4]).length c') (l ++ [u1, u2, u3, u4]) → Below base w w' →
      wpList Try.prog ops Q rest (a.put o.dst (.slice A' (l ++ [u1, u2, u3, u4]).length c')) w') :
    wpList Try.prog ops Q (o :: rest) a w := by
  refine Dag.wpList_appg hgd s x 57 3 (.int .i64 0) 8 Try.underlying57 Dag.info_int rfl (by decide) ho base v (ints l) hs hown (some ⟨g, 0, none⟩) 4 4 [.int .i64 u1, .int .i64 u2, .int .i64 u3, .int .i64 u4] rfl hx (int4 h0) (by intro y hy; simp at hy; rcases hy with rfl | rfl | rfl | rfl <;> rfl) (by rw [ints_len]; simp; omega) hbase ?_
  intro l' A' c' w' el ho' hg hb hw
  subst el
  have e : ints l ++ [.int .i64 u1, .int .i64 u2, .int .i64 u3, .int .i64 u4] = ints (l ++ [u1, u2, u3, u4]) := by rw [ints_app]; rfl
  rw [e] at ho' hb ⊢
  rw [ints_len] at ho' hb ⊢
  exact h A' c' w' ho' hw
theorem step_int4 {ops : Array Oper} {E : Prop} {w : World} {o : Oper} {a : Act} {K : Act → World → Prop} {Q : Exit → Act → World → Prop} (hgd : o.guard = none) (s x : Operand)
    (ho : o.op = .call { callee := .builtin .append, args := #[s, x], argTypes := #[57, 57] })
    (base : Nat) (v : Value) (l : List Int) (hs : a.eval s = v) (hown : OwnI w base v l) (g : Nat) (u1 u2 u3 u4 : Int) (hx : a.eval x = .slice (some ⟨g, 0, none⟩) 4 4)
    (h0 : w.heap[g]? = some (.cells #[.int .i64 u1, .int .i64 u2, .int .i64 u3, .int .i64 u4] 3 (0, 0))) (hlen : l.length ≤ 1000000) (hbase : base ≤ w.heap.size)
    (h : ∀ (A' : Option Addr) (c' : Nat) (w' : World), OwnI w' base (.slice A' (l ++ [u1, u2, u3, u4]).length c') (l ++ [u1, u2, u3, u4]) → Below base w w' →
      K (a.put o.dst (.slice A' (l ++ [u1, u2, u3, u4]).length c')) w') :
    if Region.wanted o (yielded ops a.tmps) = true then Oper.wp Try.prog o a w K Q else E := by
  have hw : Region.wanted o (yielded ops a.tmps) = true := by simp [Region.wanted, hgd]
  rw [if_pos hw]
  obtain ⟨i0, hi0, hz0, hz1, hz2⟩ := info_parts Dag.info_int
  obtain ⟨v', w', hr, h2, h3, h4, h5⟩ := run_append_own_at (P := Try.prog) w base 57 o.type 3 i0 (.int .i64 0) 1 8 Try.underlying57 hi0 hz0 hz1 hz2 rfl (by decide) v (ints l).length (ints l) hown ⟨g, 0, none⟩ 4 4 [.int .i64 u1, .int .i64 u2, .int .i64 u3, .int .i64 u4] rfl (fun j y hy => by
      rw [Go.WideShapes.add_plain, Nat.zero_add]
      match j, hy with
      | 0, hy => injection hy with hy; subst hy; exact Dag.blk_cell h0 0
      | 1, hy => injection hy with hy; subst hy; exact Dag.blk_cell h0 1
      | 2, hy => injection hy with hy; subst hy; exact Dag.blk_cell h0 2
      | 3, hy => injection hy with hy; subst hy; exact Dag.blk_cell h0 3
      | j + 4, hy => simp at hy) (by intro y hy; simp at hy; rcases hy with rfl | rfl | rfl | rfl <;> rfl) (by rw [ints_len]; simp only [maxLen]; omega) (by rw [ints_len]; omega) hbase
  have e : ints l ++ [.int .i64 u1, .int .i64 u2, .int .i64 u3, .int .i64 u4] = ints (l ++ [u1, u2, u3, u4]) := by rw [ints_app]; rfl
  rw [e] at h2
  have ho2 : OwnI w' base v' (l ++ [u1, u2, u3, u4]) := by
    have : (ints l).length + 4 = (ints (l ++ [u1, u2, u3, u4])).length := by rw [ints_len, ints_len]; simp
    rw [this] at h2
    exact h2
  obtain ⟨A', c', e2, _⟩ := OwnI.ints ho2
  subst e2
  unfold Oper.wp execOp
  simp only [ho, resolve, invoke, builtin, Sem.run_bind, Sem.run_pure, Result.andThen_ok, List.map_toArray, List.map_cons, List.map_nil, hs, hx, hr]
  exact h A' c' w' ho2 ((Below.refl _ _).grown h3 hbase fun k hk => (Own1.lt hown hk).1)
def RetT (w : World) (xs : List Int) (e : Ending) (w' : World) : Prop := ∃ A c, e = .returned (.slice A xs.length c) ∧ Ints w' A c xs ∧ Below w.heap.size w w'
set_option maxHeartbeats 1600000 in
theorem rtim_any (l : List StepD) (hl : ∀ s ∈ l, 0 ≤ s.at_ ∧ s.at_ ≤ 1099511627775) (a b d : Int) (ha : 0 ≤ a ∧ a ≤ 1099511627775) (hb : 0 ≤ b ∧ b ≤ 1099511627775) (hd : 0 ≤ d ∧ d ≤ 1099511627775) (A : Option Addr) (m c : Nat) (hm : l.length = m) (hm2 : m ≤ 100000) (w : World) (h : Stp w A c l) :
    Calls Try.prog 46 #[.slice A m c, .agg #[.int .i64 a, .int .i64 b], .int .i64 d] w (RetT w (timD l a b d)) := by
  obtain ⟨x0, x1⟩ := new2 w (.int .i64 a) (.int .i64 b) 28
  have H1 := Lib.hid h; have HN := Lib.hid hm; have HL := Lib.hid hl
  have w0 : IntKind.i64.wrap (b - d) = b - d := IntWalk.i64_in _ (by omega)
  clear h hm hl
  go_enter Try.func46, Try.ntmps46
  go_wp2_with fail
  have hBa := al w (.cells #[.int .i64 a, .int .i64 b] 28)
  have hz : (w.alloc (.cells #[.int .i64 a, .int .i64 b] 28)).heap.size = w.heap.size + 1 := by simp
  generalize w.alloc (.cells #[.int .i64 a, .int .i64 b] 28) = wa at hBa hz ⊢
  have hO0 : OwnI (wa.alloc (.cells #[.int .i64 a, .int .i64 (b - d)] 3)) w.heap.size (.slice (some ⟨w.heap.size + 1, 0, none⟩) 2 2) [a, b - d] := Own1.litm wa w.heap.size 3 hBa.size (ints [a, b - d]) rfl hz (by decide)
  have hB0 : Below w.heap.size w (wa.alloc (.cells #[.int .i64 a, .int .i64 (b - d)] 3)) := blw hBa (al _ _)
  generalize wa.alloc (.cells #[.int .i64 a, .int .i64 (b - d)] 3) = w1 at hO0 hB0 ⊢
  have HO0 := Lib.hid hO0; have HB0 := Lib.hid hB0
  clear hO0 hB0 hBa hz x0 x1
  go_loopw [7, 8] (fun va vi wr => ∃ (i : Nat) (xs : List Int) (O : Option Addr) (co : Nat), i ≤ m ∧ xs.length = 2 + 4 * i ∧ vi = .int .i64 i ∧ va = .slice O xs.length co ∧ Hid (xs = timD (l.take i) a b d) ∧ Hid (OwnI wr w.heap.size (.slice O xs.length co) xs) ∧ Hid (Below w.heap.size w wr)) (fun _ vi _ => m - (intOf vi).toNat)
  case atStart => exact ⟨0, [a, b - d], _, _, Nat.zero_le _, rfl, rfl, rfl, Lib.hid rfl, HO0, HB0⟩
  case round =>
    clear HO0 HB0
    obtain ⟨i, xs, O, co, hi, hq, rfl, rfl, HXS, HO, HX⟩ := hrel
    by_cases hlt : i < m
    · obtain ⟨b1, o1, s, eA, hs, c0, c1⟩ := (H1.out.below HX.out).lt (k := i) (by rw [HN.out]; exact hlt)
      subst eA
      have hsb := HL.out s (List.mem_of_getElem? hs)
      have HTK : Hid (xs ++ [s.at_, s.at_ - d, s.at_ - d + 1, s.at_ - 1] = timD (l.take (i + 1)) a b d) := Lib.hid (by
        rw [List.take_add_one, hs, Option.toList_some, HXS.out]
        unfold timD
        rw [cand_snoc]; rfl)
      have hlen : xs.length ≤ 1000000 := by omega
      have w1' : IntKind.i64.wrap (s.at_ - d) = s.at_ - d := IntWalk.i64_in _ (by omega)
      have w2' : IntKind.i64.wrap (s.at_ - d + 1) = s.at_ - d + 1 := IntWalk.i64_in _ (by omega)
      have w3' : IntKind.i64.wrap (s.at_ - 1) = s.at_ - 1 := IntWalk.i64_in _ (by omega)
      have HQ := Lib.hid hq
      have hbq := dr wr
      have s0 : wr.drew.cell? ⟨b1, o1 + i * 2, none⟩ = some (.int .i64 s.at_) := kp hbq c0
      have s1 : (wr.drew.alloc (.cells #[.int .i64 s.at_, .int .i64 (s.at_ - d), .int .i64 (s.at_ - d + 1), .int .i64 (s.at_ - 1)] 3)).cell? ⟨b1, o1 + i * 2, none⟩ = some (.int .i64 s.at_) := kp (blw hbq (al wr.drew _)) c0
      obtain ⟨b9, o9, eA9, cw, _⟩ := H1.out.cells i s hs
      injection eA9 with eA9
      injection eA9 with e8 e9
      subst e8 e9
      have hbl := World.block_lt_of_cell? w _ cw
      have CW := Lib.hid cw
      clear cw
      obtain ⟨w2, hw2⟩ : ∃ x, wr.drew = x := ⟨_, rfl⟩
      rw [hw2] at hbq
      have HXA := Lib.hid (HX.out.trans ((blw hbq (al w2 (.cells #[.int .i64 s.at_, .int .i64 (s.at_ - d), .int .i64 (s.at_ - d + 1), .int .i64 (s.at_ - 1)] 3))).mono HX.out.size))
      have HOA := Lib.hid (Dag.Own1.below HO.out (blw hbq (al w2 (.cells #[.int .i64 s.at_, .int .i64 (s.at_ - d), .int .i64 (s.at_ - d + 1), .int .i64 (s.at_ - 1)] 3))))
      have HNW := Lib.hid (heap_alloc_new w2 (.cells #[.int .i64 s.at_, .int .i64 (s.at_ - d), .int .i64 (s.at_ - d + 1), .int .i64 (s.at_ - 1)] 3))
      clear hbq hs hq hsb c0 c1
      rw [← hw2] at HXA HOA HNW
      clear hw2
      go_wp2_with fail
      go_region_held3 (fun (W : World) => W.cell? ⟨b1, o1 + i * 2, none⟩ = some (.int .i64 s.at_)) (first | exact s0 | exact s1 | exact s2) (first
        | (refine step_int4 rfl (.tmp 22) (.tmp 49) rfl w.heap.size _ xs rfl HOA.out wr.drew.heap.size s.at_ (s.at_ - d) (s.at_ - d + 1) (s.at_ - 1) rfl HNW.out hlen HXA.out.size ?_; intro A' c' w' ho' hb'; have HO2 := Lib.hid ho'; have HB2 := Lib.hid (HXA.out.trans hb'); have s2 : w'.cell? ⟨b1, o1 + i * 2, none⟩ = some (.int .i64 s.at_) := (HB2.out.cell (p := ⟨b1, o1 + i * 2, none⟩) hbl).trans CW.out; clear ho' hb'))
      go_wp2_with fail
      refine ⟨⟨i + 1, xs ++ [s.at_, s.at_ - d, s.at_ - d + 1, s.at_ - 1], A', c', by omega, by rw [List.length_append, HQ.out]; simp; omega, by go_num, by simp, HTK, HO2, HB2⟩, ?_⟩
      simp [intOf]; omega
    · obtain rfl : i = m := by omega
      have HXS1 : Hid (xs = timD l a b d) := Lib.hid (by rw [HXS.out, List.take_of_length_le]; rw [HN.out]; exact Nat.le_refl _)
      clear HXS hq
      go_wp2_with fail
      go_ret
      exact ⟨O, co, by rw [← HXS1.out]; rfl, by rw [← HXS1.out]; exact (OwnI.ints' HO.out).2, HX.out⟩

/-! the first, the last: over all times -/
def fstF (p : Int → Bool) : Int → List Int → Int
  | best, [] => best
  | best, t :: r => fstF p (if 0 ≤ t ∧ p t = true ∧ (best < 0 ∨ t < best) then t else best) r
def lstF (p : Int → Bool) : Int → List Int → Int
  | best, [] => best
  | best, t :: r => lstF p (if 0 ≤ t ∧ p t = true then (if best < t then t else best) else best) r
def firN (l : List StepD) (a b n d : Int) : Int := fstF (fitB l n d a b) (-1) (timD l a b d)
def lasN (l : List StepD) (a b n d : Int) : Int := lstF (fitB l n d a b) (-1) (timD l a b d)
set_option maxHeartbeats 3200000 in
theorem rfirst_any (l : List StepD) (hp : Prof l) (a b n d : Int) (ha : 0 ≤ a ∧ a ≤ 1099511627775) (hb : 0 ≤ b ∧ b ≤ 1099511627775) (hd : 0 ≤ d ∧ d ≤ 1099511627775) (A : Option Addr) (m c : Nat) (hm : l.length = m) (w : World) (h : Stp w A c l) :
    Calls Try.prog 20 #[.slice A m c, .agg #[.int .i64 a, .int .i64 b], .int .i64 n, .int .i64 d] w fun e w' => e = .returned (.int .i64 (firN l a b n d)) ∧ Below w.heap.size w w' := by
  have hlb : ∀ s ∈ l, 0 ≤ s.at_ ∧ s.at_ ≤ 1099511627775 := fun s hs => (hp.ok s hs).1
  have HT := Lib.hid fun W (hW : Below w.heap.size w W) => rtim_any l hlb a b d ha hb hd A m c hm (by have := hp.len; omega) W (h.below hW)
  have HF := Lib.hid fun t (ht : t ∈ timD l a b d) W (hW : Below w.heap.size w W) => rfits_any l hp a b n d t hb.2 ha.1 ⟨hd.1, by omega⟩ (tim_bd hlb ha hb hd ht) A m c hm W (h.below hW)
  unfold RF at HF
  unfold RetT at HT
  obtain ⟨x0, x1⟩ := new2 w (.int .i64 a) (.int .i64 b) 28
  obtain ⟨R, hR⟩ : ∃ R, firN l a b n d = R := ⟨_, rfl⟩
  rw [hR]
  unfold firN at hR
  obtain ⟨T, hT⟩ : ∃ T, timD l a b d = T := ⟨_, rfl⟩
  obtain ⟨q, hq⟩ : ∃ q, T.length = q := ⟨_, rfl⟩
  have hql : q ≤ 100000 := by
    rw [← hq, ← hT]; unfold timD
    have := hp.len
    simp only [List.length_cons, cand_len]; omega
  rw [hT] at HF HT hR
  rw [hq] at HT
  have HR := Lib.hid hR; have HQ := Lib.hid hq
  have HTB : Hid (∀ t ∈ T, -10000000000000 ≤ t ∧ t ≤ 10000000000000) := Lib.hid fun t ht => tim_bd hlb ha hb hd (by rw [hT]; exact ht)
  clear h hm hp hlb hT hq hR
  go_enter Try.func20, Try.ntmps20
  go_wp2_with fail
  refine (HT.out _ (al w _)).mono ?_
  rintro e w1 ⟨A1, c1, rfl, hi, hb1⟩
  have HI := Lib.hid hi; have HB1 := Lib.hid (blw (al w (.cells #[.int .i64 a, .int .i64 b] 28)) hb1)
  have y0 := kp hb1 x0; have y1 := kp hb1 x1
  have Y := Lib.hid (And.intro y0 y1)
  clear hi hb1 x0 x1 y0 y1
  go_wp2_with fail
  go_loopw [10, 11] (fun vb vi wr => ∃ (i : Nat) (best : Int), i ≤ q ∧ vi = .int .i64 i ∧ vb = .int .i64 best ∧ Hid (fstF (fitB l n d a b) best (T.drop i) = R) ∧ Hid (Below w1.heap.size w1 wr)) (fun _ vi _ => q - (intOf vi).toNat)
  case atStart => exact ⟨0, -1, Nat.zero_le _, rfl, rfl, HR, Lib.hid (Below.refl _ _)⟩
  case round =>
    clear HR
    obtain ⟨i, best, hiq, rfl, rfl, HRB, HX⟩ := hrel
    by_cases hlt : i < q
    · obtain ⟨tb, to_, t, eT, ht, ct⟩ := (Ints.below HI.out HX.out).at_ (k := i) (by rw [HQ.out]; exact hlt)
      subst eT
      have hd0 : T.drop i = t :: T.drop (i + 1) := by rw [List.drop_eq_getElem_cons (by rw [HQ.out]; exact hlt), (List.getElem?_eq_some_iff.1 ht).2]
      have hR := HRB.out
      rw [hd0] at hR
      unfold fstF at hR
      have htm := List.mem_of_getElem? ht
      have hfit := HF.out t htm
      obtain ⟨r, hr⟩ : ∃ r, fitB l n d a b t = r := ⟨_, rfl⟩
      rw [hr] at hR hfit
      have y0 := kp HX.out Y.out.1; have y1 := kp HX.out Y.out.2
      by_cases t0 : 0 ≤ t
      case neg =>
        rw [if_neg (by rintro ⟨h, _⟩; omega)] at hR
        have HR2 := Lib.hid hR
        have g0 : decide (0 ≤ t) = false := decide_eq_false t0
        have s0 : wr.drew.cell? ⟨w.heap.size, 0, none⟩ = some (.int .i64 a) ∧ wr.drew.cell? ⟨w.heap.size, 1, none⟩ = some (.int .i64 b) ∧ wr.drew.cell? ⟨tb, to_ + i, none⟩ = some (.int .i64 t) := ⟨y0, y1, ct⟩
        have HQ0 := Lib.hid (HX.out.trans ((dr wr).mono HX.out.size))
        clear hR HRB hd0 ht hr y0 y1 hfit
        go_wp2_with fail
        clear ct
        refine wp_region_R (fun (W : World) => W.cell? ⟨w.heap.size, 0, none⟩ = some (.int .i64 a) ∧ W.cell? ⟨w.heap.size, 1, none⟩ = some (.int .i64 b) ∧ W.cell? ⟨tb, to_ + i, none⟩ = some (.int .i64 t)) 28 (by kernel_rfl) ?_
        refine wpAnyR_leadI (by kernel_rfl) ?hQ ?hS0 [0, 1, 2, 3, 4, 5, 6, 7, 8, 9, 10, 11, 12, 13, 14, 15, 16, 17, 18, 19, 20, 21, 22, 23, 24, 25, 26, 27] 0 _ _ (by kernel_rfl) ?_
        case hQ => intro c a d v w h; cases d <;> exact h
        case hS0 => exact s0
        iterate 6 (refine wpLeadI_read (v := ?_) _ rfl rfl (by rfl) ?_ ?_; rotate_left; (intro W hW; (try dsimp only at hW); go_simp; (try with_reducible rfl)); try simp only [Act.put, List.setIfInBounds_toArray, List.set_cons_succ, List.set_cons_zero])
        iterate 9 (refine wpLeadI_skip _ rfl rfl (by kernel_rfl) ?_; try simp only [Act.put, List.setIfInBounds_toArray, List.set_cons_succ, List.set_cons_zero])
        iterate 2 (refine wpLeadI_read (v := ?_) _ rfl rfl (by rfl) ?_ ?_; rotate_left; (intro W hW; (try dsimp only at hW); go_simp; (try with_reducible rfl)); try simp only [Act.put, List.setIfInBounds_toArray, List.set_cons_succ, List.set_cons_zero])
        iterate 10 (refine wpLeadI_skip _ rfl rfl (by kernel_rfl) ?_; try simp only [Act.put, List.setIfInBounds_toArray, List.set_cons_succ, List.set_cons_zero])
        iterate 1 (refine wpLeadI_read (v := ?_) _ rfl rfl (by rfl) ?_ ?_; rotate_left; (intro W hW; (try dsimp only at hW); go_simp; (try with_reducible rfl)); try simp only [Act.put, List.setIfInBounds_toArray, List.set_cons_succ, List.set_cons_zero])
        simp only [wpLeadI]
        refine ⟨by kernel_rfl, ?_⟩
        go_wp2_with fail
        refine ⟨⟨i + 1, _, by omega, by go_num, by first | rfl | trivial, HR2, HQ0⟩, ?_⟩
        simp [intOf]; omega
      have g0 : decide (0 ≤ t) = true := decide_eq_true t0
      cases r
      case false =>
        rw [if_neg (by rintro ⟨_, h, _⟩; cases h)] at hR
        have HR2 := Lib.hid hR
        have s0 : wr.drew.cell? ⟨w.heap.size, 0, none⟩ = some (.int .i64 a) ∧ wr.drew.cell? ⟨w.heap.size, 1, none⟩ = some (.int .i64 b) ∧ wr.drew.cell? ⟨tb, to_ + i, none⟩ = some (.int .i64 t) := ⟨y0, y1, ct⟩
        have HQ0 := Lib.hid (HX.out.trans ((dr wr).mono HX.out.size))
        clear hR HRB hd0 ht hr y0 y1 
        go_wp2_with fail
        clear ct
        refine wp_region_R (fun (W : World) => W.cell? ⟨w.heap.size, 0, none⟩ = some (.int .i64 a) ∧ W.cell? ⟨w.heap.size, 1, none⟩ = some (.int .i64 b) ∧ W.cell? ⟨tb, to_ + i, none⟩ = some (.int .i64 t)) 28 (by kernel_rfl) ?_
        refine wpAnyR_leadI (by kernel_rfl) ?hQ ?hS0 [0, 1, 2, 3, 4, 5, 6, 7, 8, 9, 10, 11, 12, 13] 14 _ _ (by kernel_rfl) ?_
        case hQ => intro c a d v w h; cases d <;> exact h
        case hS0 => exact s0
        iterate 14 (refine wpLeadI_read (v := ?_) _ rfl rfl (by rfl) ?_ ?_; rotate_left; (intro W hW; (try dsimp only at hW); go_simp; (try with_reducible rfl)); try simp only [Act.put, List.setIfInBounds_toArray, List.set_cons_succ, List.set_cons_zero])
        simp only [wpLeadI]
        refine wpAnyR_one (i := 14) rfl (by kernel_rfl) ?_
        intro K1 hK1
        go_simp
        refine (hfit _ (HB1.out.trans (HQ0.out.mono HB1.out.size))).mono ?_
        rintro e x1 ⟨rfl, hb2⟩
        have s1 : x1.cell? ⟨w.heap.size, 0, none⟩ = some (.int .i64 a) ∧ x1.cell? ⟨w.heap.size, 1, none⟩ = some (.int .i64 b) ∧ x1.cell? ⟨tb, to_ + i, none⟩ = some (.int .i64 t) := ⟨kp hb2 s0.1, kp hb2 s0.2.1, kp hb2 s0.2.2⟩
        have HQ1 := Lib.hid (HQ0.out.trans (hb2.mono HQ0.out.size))
        have ct1 := s1.2.2
        clear hb2
        refine hK1.out _ _ s1 ?_
        clear hK1 K1
        refine wpAnyR_leadI (by kernel_rfl) ?hQ ?hS0 [15, 16, 17, 18, 19, 20, 21, 22, 23, 24, 25, 26, 27] 0 _ _ (by kernel_rfl) ?_
        case hQ => intro c a d v w h; cases d <;> exact h
        case hS0 => exact s1
        iterate 2 (refine wpLeadI_read (v := ?_) _ rfl rfl (by rfl) ?_ ?_; rotate_left; (intro W hW; (try dsimp only at hW); go_simp; (try with_reducible rfl)); try simp only [Act.put, List.setIfInBounds_toArray, List.set_cons_succ, List.set_cons_zero])
        iterate 10 (refine wpLeadI_skip _ rfl rfl (by kernel_rfl) ?_; try simp only [Act.put, List.setIfInBounds_toArray, List.set_cons_succ, List.set_cons_zero])
        iterate 1 (refine wpLeadI_read (v := ?_) _ rfl rfl (by rfl) ?_ ?_; rotate_left; (intro W hW; (try dsimp only at hW); go_simp; (try with_reducible rfl)); try simp only [Act.put, List.setIfInBounds_toArray, List.set_cons_succ, List.set_cons_zero])
        simp only [wpLeadI]
        refine ⟨by kernel_rfl, ?_⟩
        go_wp2_with fail
        refine ⟨⟨i + 1, _, by omega, by go_num, by first | rfl | trivial, HR2, HQ1⟩, ?_⟩
        simp [intOf]; omega
      by_cases b0 : best < 0
      case pos =>
        rw [if_pos ⟨t0, rfl, Or.inl b0⟩] at hR
        have HR2 := Lib.hid hR
        have g1 : decide (best < 0) = true := decide_eq_true b0
        have s0 : wr.drew.cell? ⟨w.heap.size, 0, none⟩ = some (.int .i64 a) ∧ wr.drew.cell? ⟨w.heap.size, 1, none⟩ = some (.int .i64 b) ∧ wr.drew.cell? ⟨tb, to_ + i, none⟩ = some (.int .i64 t) := ⟨y0, y1, ct⟩
        have HQ0 := Lib.hid (HX.out.trans ((dr wr).mono HX.out.size))
        clear hR HRB hd0 ht hr y0 y1 
        go_wp2_with fail
        clear ct
        refine wp_region_R (fun (W : World) => W.cell? ⟨w.heap.size, 0, none⟩ = some (.int .i64 a) ∧ W.cell? ⟨w.heap.size, 1, none⟩ = some (.int .i64 b) ∧ W.cell? ⟨tb, to_ + i, none⟩ = some (.int .i64 t)) 28 (by kernel_rfl) ?_
        refine wpAnyR_leadI (by kernel_rfl) ?hQ ?hS0 [0, 1, 2, 3, 4, 5, 6, 7, 8, 9, 10, 11, 12, 13] 14 _ _ (by kernel_rfl) ?_
        case hQ => intro c a d v w h; cases d <;> exact h
        case hS0 => exact s0
        iterate 14 (refine wpLeadI_read (v := ?_) _ rfl rfl (by rfl) ?_ ?_; rotate_left; (intro W hW; (try dsimp only at hW); go_simp; (try with_reducible rfl)); try simp only [Act.put, List.setIfInBounds_toArray, List.set_cons_succ, List.set_cons_zero])
        simp only [wpLeadI]
        refine wpAnyR_one (i := 14) rfl (by kernel_rfl) ?_
        intro K1 hK1
        go_simp
        refine (hfit _ (HB1.out.trans (HQ0.out.mono HB1.out.size))).mono ?_
        rintro e x1 ⟨rfl, hb2⟩
        have s1 : x1.cell? ⟨w.heap.size, 0, none⟩ = some (.int .i64 a) ∧ x1.cell? ⟨w.heap.size, 1, none⟩ = some (.int .i64 b) ∧ x1.cell? ⟨tb, to_ + i, none⟩ = some (.int .i64 t) := ⟨kp hb2 s0.1, kp hb2 s0.2.1, kp hb2 s0.2.2⟩
        have HQ1 := Lib.hid (HQ0.out.trans (hb2.mono HQ0.out.size))
        have ct1 := s1.2.2
        clear hb2
        refine hK1.out _ _ s1 ?_
        clear hK1 K1
        refine wpAnyR_leadI (by kernel_rfl) ?hQ ?hS0 [15, 16, 17, 18, 19, 20, 21, 22, 23, 24, 25, 26, 27] 0 _ _ (by kernel_rfl) ?_
        case hQ => intro c a d v w h; cases d <;> exact h
        case hS0 => exact s1
        iterate 5 (refine wpLeadI_read (v := ?_) _ rfl rfl (by rfl) ?_ ?_; rotate_left; (intro W hW; (try dsimp only at hW); go_simp; (try with_reducible rfl)); try simp only [Act.put, List.setIfInBounds_toArray, List.set_cons_succ, List.set_cons_zero])
        iterate 6 (refine wpLeadI_skip _ rfl rfl (by kernel_rfl) ?_; try simp only [Act.put, List.setIfInBounds_toArray, List.set_cons_succ, List.set_cons_zero])
        iterate 2 (refine wpLeadI_read (v := ?_) _ rfl rfl (by rfl) ?_ ?_; rotate_left; (intro W hW; (try dsimp only at hW); go_simp; (try with_reducible rfl)); try simp only [Act.put, List.setIfInBounds_toArray, List.set_cons_succ, List.set_cons_zero])
        simp only [wpLeadI]
        refine ⟨by kernel_rfl, ?_⟩
        go_wp2_with fail
        refine ⟨⟨i + 1, _, by omega, by go_num, by first | rfl | trivial, HR2, HQ1⟩, ?_⟩
        simp [intOf]; omega
      have g1 : decide (best < 0) = false := decide_eq_false b0
      by_cases tb0 : t < best
      case pos =>
        rw [if_pos ⟨t0, rfl, Or.inr tb0⟩] at hR
        have HR2 := Lib.hid hR
        have g2 : decide (t < best) = true := decide_eq_true tb0
        have s0 : wr.drew.cell? ⟨w.heap.size, 0, none⟩ = some (.int .i64 a) ∧ wr.drew.cell? ⟨w.heap.size, 1, none⟩ = some (.int .i64 b) ∧ wr.drew.cell? ⟨tb, to_ + i, none⟩ = some (.int .i64 t) := ⟨y0, y1, ct⟩
        have HQ0 := Lib.hid (HX.out.trans ((dr wr).mono HX.out.size))
        clear hR HRB hd0 ht hr y0 y1 
        go_wp2_with fail
        clear ct
        refine wp_region_R (fun (W : World) => W.cell? ⟨w.heap.size, 0, none⟩ = some (.int .i64 a) ∧ W.cell? ⟨w.heap.size, 1, none⟩ = some (.int .i64 b) ∧ W.cell? ⟨tb, to_ + i, none⟩ = some (.int .i64 t)) 28 (by kernel_rfl) ?_
        refine wpAnyR_leadI (by kernel_rfl) ?hQ ?hS0 [0, 1, 2, 3, 4, 5, 6, 7, 8, 9, 10, 11, 12, 13] 14 _ _ (by kernel_rfl) ?_
        case hQ => intro c a d v w h; cases d <;> exact h
        case hS0 => exact s0
        iterate 14 (refine wpLeadI_read (v := ?_) _ rfl rfl (by rfl) ?_ ?_; rotate_left; (intro W hW; (try dsimp only at hW); go_simp; (try with_reducible rfl)); try simp only [Act.put, List.setIfInBounds_toArray, List.set_cons_succ, List.set_cons_zero])
        simp only [wpLeadI]
        refine wpAnyR_one (i := 14) rfl (by kernel_rfl) ?_
        intro K1 hK1
        go_simp
        refine (hfit _ (HB1.out.trans (HQ0.out.mono HB1.out.size))).mono ?_
        rintro e x1 ⟨rfl, hb2⟩
        have s1 : x1.cell? ⟨w.heap.size, 0, none⟩ = some (.int .i64 a) ∧ x1.cell? ⟨w.heap.size, 1, none⟩ = some (.int .i64 b) ∧ x1.cell? ⟨tb, to_ + i, none⟩ = some (.int .i64 t) := ⟨kp hb2 s0.1, kp hb2 s0.2.1, kp hb2 s0.2.2⟩
        have HQ1 := Lib.hid (HQ0.out.trans (hb2.mono HQ0.out.size))
        have ct1 := s1.2.2
        clear hb2
        refine hK1.out _ _ s1 ?_
        clear hK1 K1
        refine wpAnyR_leadI (by kernel_rfl) ?hQ ?hS0 [15, 16, 17, 18, 19, 20, 21, 22, 23, 24, 25, 26, 27] 0 _ _ (by kernel_rfl) ?_
        case hQ => intro c a d v w h; cases d <;> exact h
        case hS0 => exact s1
        iterate 13 (refine wpLeadI_read (v := ?_) _ rfl rfl (by rfl) ?_ ?_; rotate_left; (intro W hW; (try dsimp only at hW); go_simp; (try with_reducible rfl)); try simp only [Act.put, List.setIfInBounds_toArray, List.set_cons_succ, List.set_cons_zero])
        simp only [wpLeadI]
        refine ⟨by kernel_rfl, ?_⟩
        go_wp2_with fail
        refine ⟨⟨i + 1, _, by omega, by go_num, by first | rfl | trivial, HR2, HQ1⟩, ?_⟩
        simp [intOf]; omega
      rw [if_neg (by rintro ⟨_, _, h | h⟩ <;> omega)] at hR
      have HR2 := Lib.hid hR
      have g2 : decide (t < best) = false := decide_eq_false tb0
      have s0 : wr.drew.cell? ⟨w.heap.size, 0, none⟩ = some (.int .i64 a) ∧ wr.drew.cell? ⟨w.heap.size, 1, none⟩ = some (.int .i64 b) ∧ wr.drew.cell? ⟨tb, to_ + i, none⟩ = some (.int .i64 t) := ⟨y0, y1, ct⟩
      have HQ0 := Lib.hid (HX.out.trans ((dr wr).mono HX.out.size))
      clear hR HRB hd0 ht hr y0 y1 
      go_wp2_with fail
      clear ct
      refine wp_region_R (fun (W : World) => W.cell? ⟨w.heap.size, 0, none⟩ = some (.int .i64 a) ∧ W.cell? ⟨w.heap.size, 1, none⟩ = some (.int .i64 b) ∧ W.cell? ⟨tb, to_ + i, none⟩ = some (.int .i64 t)) 28 (by kernel_rfl) ?_
      refine wpAnyR_leadI (by kernel_rfl) ?hQ ?hS0 [0, 1, 2, 3, 4, 5, 6, 7, 8, 9, 10, 11, 12, 13] 14 _ _ (by kernel_rfl) ?_
      case hQ => intro c a d v w h; cases d <;> exact h
      case hS0 => exact s0
      iterate 14 (refine wpLeadI_read (v := ?_) _ rfl rfl (by rfl) ?_ ?_; rotate_left; (intro W hW; (try dsimp only at hW); go_simp; (try with_reducible rfl)); try simp only [Act.put, List.setIfInBounds_toArray, List.set_cons_succ, List.set_cons_zero])
      simp only [wpLeadI]
      refine wpAnyR_one (i := 14) rfl (by kernel_rfl) ?_
      intro K1 hK1
      go_simp
      refine (hfit _ (HB1.out.trans (HQ0.out.mono HB1.out.size))).mono ?_
      rintro e x1 ⟨rfl, hb2⟩
      have s1 : x1.cell? ⟨w.heap.size, 0, none⟩ = some (.int .i64 a) ∧ x1.cell? ⟨w.heap.size, 1, none⟩ = some (.int .i64 b) ∧ x1.cell? ⟨tb, to_ + i, none⟩ = some (.int .i64 t) := ⟨kp hb2 s0.1, kp hb2 s0.2.1, kp hb2 s0.2.2⟩
      have HQ1 := Lib.hid (HQ0.out.trans (hb2.mono HQ0.out.size))
      have ct1 := s1.2.2
      clear hb2
      refine hK1.out _ _ s1 ?_
      clear hK1 K1
      refine wpAnyR_leadI (by kernel_rfl) ?hQ ?hS0 [15, 16, 17, 18, 19, 20, 21, 22, 23, 24, 25, 26, 27] 0 _ _ (by kernel_rfl) ?_
      case hQ => intro c a d v w h; cases d <;> exact h
      case hS0 => exact s1
      iterate 13 (refine wpLeadI_read (v := ?_) _ rfl rfl (by rfl) ?_ ?_; rotate_left; (intro W hW; (try dsimp only at hW); go_simp; (try with_reducible rfl)); try simp only [Act.put, List.setIfInBounds_toArray, List.set_cons_succ, List.set_cons_zero])
      simp only [wpLeadI]
      refine ⟨by kernel_rfl, ?_⟩
      go_wp2_with fail
      refine ⟨⟨i + 1, _, by omega, by go_num, by first | rfl | trivial, HR2, HQ1⟩, ?_⟩
      simp [intOf]; omega
    · obtain rfl : i = q := by omega
      have hR := HRB.out
      rw [List.drop_eq_nil_of_le (by rw [HQ.out]; exact Nat.le_refl _)] at hR
      obtain rfl : best = R := hR
      clear HRB
      go_wp2_with fail
      go_ret
      exact ⟨rfl, HB1.out.trans (HX.out.mono HB1.out.size)⟩
end Go.Proofs.Ytldmkbmkjdnaaaa.Ft

