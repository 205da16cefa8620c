/- Layer 11. -/
import Derived.Test.YtapojmniokdjfaaBkOut
import Derived.Test.YtapojmniokdjfaaBkT
import Derived.Test.YtapojmniokdjfaaFitReg
import Derived.Test.YtapojmniokdjfaaBkPlus
import Derived.Test.YtapojmniokdjfaaBkS
import Derived.Test.YtapojmniokdjfaaStpL
/- Layer 11 in plain words: reservations that are given back. -/
namespace Go.Proofs.Ytapojmniokdjfaa.Bk
open Stp (inW)
set_option linter.unusedVariables false

theorem tak_perm {t : Int} {l m : List SlotD} (h : l.Perm m) : takV l t = takV m t := by
  induction h with
  | nil => rfl
  | cons a _ ih => simp only [takV, ih]
  | swap a b l => simp only [takV]; omega
  | trans _ _ i j => exact i.trans j
theorem rise_pair : ∀ {l : List SlotD} {lo : Int}, RiseI lo l → l.Pairwise (fun a b => a.id ≠ b.id)
  | [], _, _ => List.Pairwise.nil
  | a :: l, lo, ⟨h1, h2⟩ => List.pairwise_cons.2 ⟨fun u hu => by have := h2.gt u hu; omega, rise_pair h2⟩
theorem rem_perm {id : Int} {s : SlotD} : ∀ {l : List SlotD} {lo : Int}, RiseI lo l → fndS id l = some s → l.Perm (s :: remS id l)
  | [], _, _, h => by cases h
  | a :: l, lo, ⟨h1, h2⟩, h => by
    unfold fndS at h
    rw [List.find?_cons] at h
    unfold remS
    rw [List.filter_cons]
    by_cases e : a.id = id
    · rw [decide_eq_true e] at h
      injection h with h
      subst h
      rw [if_neg (by simp [e])]
      have : remS id l = l := rem_no (fnd_none.2 fun u hu => by have := h2.gt u hu; omega)
      unfold remS at this
      rw [this]
    · rw [decide_eq_false e] at h
      rw [if_pos (by simp [e])]
      exact ((rem_perm (l := l) h2 h).cons a).trans (List.Perm.swap _ _ _)
theorem ins_perm (s : SlotD) : ∀ l : List SlotD, (insS s l).Perm (s :: l)
  | [] => List.Perm.refl _
  | a :: l => by
    unfold insS
    split
    · exact List.Perm.refl _
    · exact ((ins_perm s l).cons a).trans (List.Perm.swap _ _ _)
def freeR : List Int → List SlotD → Option (List SlotD)
  | [], M => some M
  | id :: r, M => match fndS id M with
    | none => none
    | some _ => freeR r (remS id M)
theorem freeR_snoc : ∀ (q : List Int) (id : Int) (M M1 : List SlotD), freeR q M = some M1 → freeR (q ++ [id]) M = match fndS id M1 with | none => none | some _ => some (remS id M1)
  | [], id, M, M1, h => by
    injection h with h
    subst h
    simp only [List.nil_append, freeR]
  | a :: q, id, M, M1, h => by
    simp only [List.cons_append, freeR] at h ⊢
    cases hf : fndS a M with
    | none => rw [hf] at h; cases h
    | some s => rw [hf] at h; exact freeR_snoc q id _ M1 h
theorem freeR_none : ∀ (q r : List Int) (M : List SlotD), freeR q M = none → freeR (q ++ r) M = none
  | [], r, M, h => by cases h
  | a :: q, r, M, h => by
    simp only [List.cons_append, freeR] at h ⊢
    cases hf : fndS a M with
    | none => rfl
    | some s => rw [hf] at h; exact freeR_none q r _ h
/-- those that stay, those that are gone -/
structure FreeI (L M G : List SlotD) : Prop where
  rise : RiseI 0 M
  perm : L.Perm (M ++ G)
theorem FreeI.mk0 {L : List SlotD} (h : RiseI 0 L) : FreeI L L [] := ⟨h, by rw [List.append_nil]⟩
theorem FreeI.step {L M G : List SlotD} {id : Int} {s : SlotD} (h : FreeI L M G) (hf : fndS id M = some s) : FreeI L (remS id M) (G ++ [s]) := by
  refine ⟨rise_rem h.rise, h.perm.trans (((rem_perm h.rise hf).append_right G).trans ?_)⟩
  rw [← List.append_assoc]
  exact (List.perm_append_comm (l₁ := [s]) (l₂ := remS id M ++ G))
theorem FreeI.back {L M G : List SlotD} {s : SlotD} (hL : RiseI 0 L) (h : FreeI L M (s :: G)) : fndS s.id M = none ∧ FreeI L (insS s M) G := by
  have hp := (h.perm.pairwise_iff (fun {a b} e => Ne.symm e)).1 (rise_pair hL)
  have hn : fndS s.id M = none := fnd_none.2 fun u hu => (List.pairwise_append.1 hp).2.2 u hu s (by simp)
  have hs0 : 0 < s.id := hL.gt s (h.perm.mem_iff.2 (by simp))
  refine ⟨hn, rise_ins h.rise hs0 hn, h.perm.trans ?_⟩
  exact (List.perm_middle).trans ((ins_perm s M).symm.append_right G)
theorem FreeI.done {L M : List SlotD} (hL : RiseI 0 L) (h : FreeI L M []) : M = L := by
  have hp := h.perm
  rw [List.append_nil] at hp
  exact rise_uniq h.rise hL fun s => hp.mem_iff.symm
theorem FreeI.memM {L M G : List SlotD} (h : FreeI L M G) {s : SlotD} (hs : s ∈ M) : s ∈ L := h.perm.mem_iff.2 (by simp [hs])
theorem FreeI.memG {L M G : List SlotD} (h : FreeI L M G) {s : SlotD} (hs : s ∈ G) : s ∈ L := h.perm.mem_iff.2 (by simp [hs])
theorem FreeI.tak {L M G : List SlotD} (h : FreeI L M G) (t : Int) : takV L t = takV M t + takV G t := by rw [tak_perm h.perm, tak_app]
theorem FreeI.len {L M G : List SlotD} (h : FreeI L M G) : M.length + G.length = L.length := by rw [h.perm.length_eq, List.length_append]
theorem BkI.some {N : Int} {F R : List StepD} {L M G : List SlotD} {T : List Int} {k : Nat} (h : BkI N F L T k) (hf : FreeI L M G) (hR : Prof R) (hv : ∀ t, 0 ≤ t → valF 0 R t = valF 0 F t + takV G t) : BkI N R M T k := by
  refine ⟨h.n, hR, hf.rise, fun u hu => h.ok u (hf.memM hu), fun t ht => ?_, ?_, fun u hu => h.ends u (hf.memM hu), h.lt, by have := hf.len; have := h.ll; omega⟩
  · rw [hv t ht]; have := h.top t ht; have := hf.tak t; omega
  · exact (h.chg.add (chg_tak fun s hs => h.ends s (hf.memG hs))).of hv
end Go.Proofs.Ytapojmniokdjfaa.Bk
/- Layer 11: reservations had again. -/
namespace Go.Proofs.Ytapojmniokdjfaa.Bk
open Go.RowKit Go.Shelf
open Stp (inW blw al dr drN kp)
open Ft (wp_region_R wpAnyR_leadI wpLeadI wpLeadI_read wpLeadI_skip wpAnyR_one wpAnyR_tail)
set_option linter.unusedVariables false
set_option maxRecDepth 100000

set_option maxHeartbeats 1600000 in
theorem put_any (L M0 G : List SlotD) (hL : RiseI 0 L) (hll : L.length ≤ 1000) (hwf : ∀ s ∈ L, (Lit.int .i64 s.id).wf = true) (hF : FreeI L M0 G) (B : Option Addr) (d : Nat) (w : World) (g m : Nat) (N : Int) (F : List StepD) (h : BookM w g m N F M0) (hS : Slt w B d G) :
    Calls Try.prog 38 #[.pointer (some ⟨g, 0, none⟩), .slice B G.length d] w fun e w' => e = .returned (.tuple #[]) ∧ BookM w' g m N F L ∧ Wr (GB g m) w w' := by
  obtain ⟨n, hn⟩ : ∃ n, G.length = n := ⟨_, rfl⟩
  rw [hn]
  have hnb : n ≤ 1000 := by have := hF.len; omega
  have HL := Lib.hid hL; have HLL := Lib.hid hll; have HWF := Lib.hid hwf; have HN := Lib.hid hn; have HS := Lib.hid hS; have HH := Lib.hid h
  have HF := Lib.hid hF
  clear hL hll hwf hn hS h hF
  go_enter Try.func38, Try.ntmps38
  go_wp2_with fail
  go_loopw [8] (fun vi wr => ∃ (i : Nat) (M : List SlotD), i ≤ n ∧ vi = .int .i64 i ∧ Hid (FreeI L M (G.drop i)) ∧ Hid (BookM wr g m N F M) ∧ Hid (Wr (GB g m) w wr)) (fun vi _ => n - (intOf vi).toNat)
  case atStart => exact ⟨0, M0, Nat.zero_le _, rfl, by rw [List.drop_zero]; exact HF, HH, Lib.hid (Wr.refl _ _)⟩
  case round =>
    obtain ⟨i, M, hi, rfl, HFi, HM, HW⟩ := hrel
    by_cases hlt : i < n
    · obtain ⟨b, off, s, eA, hs, hc4⟩ := (HS.out.wr HH.out HW.out).lt (k := i) (by rw [HN.out]; exact hlt)
      subst eA
      have hd : G.drop i = s :: G.drop (i + 1) := by
        rw [List.drop_eq_getElem_cons (List.getElem?_eq_some_iff.1 hs).1, (List.getElem?_eq_some_iff.1 hs).2]
      have hf := HFi.out
      rw [hd] at hf
      obtain ⟨hno, hf2⟩ := hf.back HL.out
      have hsL := hf.memG (s := s) (by simp)
      have HNO := Lib.hid hno; have HF2 := Lib.hid hf2; have HSW := Lib.hid (HWF.out s hsL); have HS0 := Lib.hid (HL.out.gt s hsL)
      have HML : Hid (M.length ≤ 1000000) := Lib.hid (by have := hf.len; have := HLL.out; omega)
      have HRI := Lib.hid hf.rise
      obtain ⟨c0, c1, c2, c3⟩ := hc4
      have HX := Lib.hid (al wr (.cells #[.int .i64 s.id, .int .i64 s.fm, .int .i64 s.to, .int .i64 s.nd] 32))
      have HC := Lib.hid (C4.new wr s 32)
      clear hs hd hf hno hf2 hsL
      go_wp2_with fail
      have HM1 := Lib.hid (HM.out.below HX.out)
      have HW1 := Lib.hid (HW.out.trans (Wr.of_below (S := GB g m) HX.out))
      clear HX
      generalize wr.alloc (.cells #[.int .i64 s.id, .int .i64 s.fm, .int .i64 s.to, .int .i64 s.nd] 32) = w1 at HC HM1 HW1 ⊢
      generalize wr.heap.size = tb at HC ⊢
      have HCF := Lib.hid fun (W : World) (hW : Below w1.heap.size w1 W) => HC.out.below hW
      have HGF := Lib.hid fun (W : World) (hW : Below w1.heap.size w1 W) => (HM1.out.below hW).cells
      refine wp_region_R (Below w1.heap.size w1) 7 (by kernel_rfl) ?_
      refine wpAnyR_leadI (by kernel_rfl) ?hQ ?hS0 [0, 1, 2, 3, 4, 5, 6] 1 _ _ (by kernel_rfl) ?_
      case hQ => intro c a d v w h; cases d <;> exact h
      case hS0 => exact dr w1
      iterate 7 (refine wpLeadI_read (v := ?_) _ rfl rfl (by rfl) ?_ ?_; rotate_left; (intro W hW; obtain ⟨hB0, hB1, hB2, hB3⟩ := HCF.out W hW; obtain ⟨A, c, hG, hG0, hG1, hG2, hG3⟩ := HGF.out W hW; go_simp; (try with_reducible rfl)); try simp only [Act.put, List.setIfInBounds_toArray, List.set_cons_succ, List.set_cons_zero])
      simp only [wpLeadI]
      refine wpAnyR_tail rfl (by kernel_rfl) ?_
      have HM2 := Lib.hid (HM1.out.below (dr w1))
      refine wpList_mput rfl (.tmp 15) (.tmp 17) (.tmp 18) rfl m M s rfl HM2.out.map HRI.out HML.out rfl rfl HS0.out HSW.out ?_
      intro w9 hm9 hg9
      obtain ⟨hM9, hW9⟩ := HM2.out.mapped hg9 hm9
      rw [rem_no HNO.out] at hM9
      have HM9 := Lib.hid hM9
      have HW9 := Lib.hid ((HW1.out.trans (Wr.of_below (S := GB g m) (dr w1))).trans hW9)
      clear hM9 hW9 hm9 hg9
      go_wp2
      refine ⟨⟨i + 1, insS s M, by omega, by go_num, HF2, HM9, HW9⟩, ?_⟩
      simp [intOf]; omega
    · obtain rfl : i = n := by omega
      have hf := HFi.out
      rw [List.drop_eq_nil_of_le (by rw [HN.out]; exact Nat.le_refl _)] at hf
      have hM := HM.out
      rw [hf.done HL.out] at hM
      have HMM := Lib.hid hM
      clear hM hf
      go_wp2
      go_end0
      exact ⟨rfl, HMM.out, HW.out⟩
end Go.Proofs.Ytapojmniokdjfaa.Bk
/- Regions that draw their order, where one operation changes what is read: S holds up to that one. No program. -/
namespace Go.Proofs.Ytapojmniokdjfaa.Bk
open Go.RowKit Go.Shelf
open Ft (wpLeadI)
set_option linter.unusedVariables false
section
variable {P : Program} {ops : Array Oper} {Q : Exit → Act → World → Prop} {md : Region.Mode} {S : World → Prop} {l : Nat}

/-- whatever order is picked from here on; S holds until number l has come up -/
def wpAnyX (P : Program) (md : Region.Mode) (ops : Array Oper) (Q : Exit → Act → World → Prop) (S : World → Prop) (l : Nat) : Nat → Array Bool → Act → World → Prop
  | 0, listed, a, w => Region.ready md ops listed = [] ∧ Q .normal a w
  | fuel + 1, listed, a, w =>
    (Region.ready md ops listed = [] → Q .normal a w) ∧
    ∀ i ∈ Region.ready md ops listed, wpOp P ops Q i (fun a' w' => ((listed.setIfInBounds i true).getD l true = true ∨ S w') ∧ wpAnyX P md ops Q S l fuel (listed.setIfInBounds i true) a' w') a w

theorem wpAny_of_X : ∀ (fuel : Nat) (listed : Array Bool) (a : Act) (w : World), wpAnyX P md ops Q S l fuel listed a w → wpAny P md ops Q fuel listed a w
  | 0, _, _, _, h => h
  | fuel + 1, _, _, _, h => ⟨h.1, fun i hi => wpOp_mono (fun a' w' h' => wpAny_of_X fuel _ a' w' h'.2) (h.2 i hi)⟩

/-- what yields its value as long as S holds (and number l waits for it), or always -/
theorem wpAnyX_first {i : Nat} {oi : Oper} {v : Value} {S' : World → Prop} (hi : ops[i]? = some oi) (hsel : ∀ (j : Nat) (o : Oper) cs b, ops[j]? = some o → o.op ≠ .select cs b)
    (hQ : ∀ c a w, Q (.panic c) (a.put oi.dst v) w → Q (.panic c) a w)
    (hil : i ≠ l)
    (hl : (∀ w, S' w) ∨ ((∀ w, S w → S' w) ∧ ∃ ol, ops[l]? = some ol ∧ ∃ e ∈ ol.after, Region.binds md e = true ∧ e.on = i)) :
    ∀ (fuel : Nat) (listed : Array Bool) (a : Act) (w : World),
      (∀ j oj, ops[j]? = some oj → j ≠ i → listed.getD j true = false → (∀ e ∈ oj.after, Region.binds md e = true → e.on ≠ i) → oi.apart ops oj = true) →
      i ∈ Region.ready md ops listed → YieldsIf P ops S' oi v a → (listed.getD l true = true ∨ S w) → ((∀ w, S' w) ∨ listed.getD l true = false) →
      wpAnyX P md ops Q S l fuel (listed.setIfInBounds i true) (a.put oi.dst v) w → wpAnyX P md ops Q S l (fuel + 1) listed a w := by
  intro fuel
  have hS' : ∀ (listed : Array Bool) (w : World), (listed.getD l true = true ∨ S w) → ((∀ w, S' w) ∨ listed.getD l true = false) → S' w := fun listed w hS hu => by
    rcases hl with h | ⟨h, _⟩
    · exact h w
    · rcases hu with h2 | h2
      · exact h2 w
      · rcases hS with h3 | h3
        · rw [h2] at h3; cases h3
        · exact h w h3
  have hset : ∀ (listed : Array Bool) (w : World), (listed.getD l true = true ∨ S w) → ((listed.setIfInBounds i true).getD l true = true ∨ S w) := fun listed w hS => by
    rw [getD_set_ne true hil]; exact hS
  induction fuel with
  | zero =>
    intro listed a w _ hr hy hS hu H
    refine ⟨fun h => (by rw [h] at hr; cases hr), fun j hj => ?_⟩
    by_cases hji : j = i
    · subst hji; exact hy.wpOp hi (hS' listed w hS hu) ⟨hset listed w hS, H⟩
    · have := ready_mono hj hji
      rw [H.1] at this
      cases this
  | succ fuel ih =>
    intro listed a w hfree hr hy hS hu H
    refine ⟨fun h => (by rw [h] at hr; cases hr), fun j hj => ?_⟩
    by_cases hji : j = i
    · subst hji; exact hy.wpOp hi (hS' listed w hS hu) ⟨hset listed w hS, H⟩
    · have h1 := H.2 j (ready_mono hj hji)
      obtain ⟨hjun, oj, hoj, hall⟩ := mem_ready.1 hj
      have hnot : ∀ e ∈ oj.after, Region.binds md e = true → e.on ≠ i := fun e he hb heq => by
        have h1 := hall e he hb
        have h0 := (mem_ready.1 hr).1
        rw [heq] at h1
        rcases Nat.lt_or_ge i listed.size with h' | h'
        · simp [h'] at h0 h1; rw [h0] at h1; cases h1
        · simp [Array.getElem?_eq_none h'] at h1
      have h2 := wpOp_putIf hoj (hfree j oj hoj hji hjun hnot) (fun cs b => hsel i oi cs b hi) (fun cs b => hsel j oj cs b hoj) hQ hy h1
      have hfree' : ∀ k ok, ops[k]? = some ok → k ≠ i → (listed.setIfInBounds j true).getD k true = false →
          (∀ e ∈ ok.after, Region.binds md e = true → e.on ≠ i) → oi.apart ops ok = true := fun k ok hk hki hun hno => by
        refine hfree k ok hk hki ?_ hno
        by_cases hjk : j = k
        · subst hjk; exact hjun
        · rw [getD_set_ne true hjk] at hun; exact hun
      refine wpOp_mono (fun a' w' h3 => ?_) h2
      have hS2 : (listed.setIfInBounds j true).getD l true = true ∨ S w' := by
        rcases h3.2.1 with h | h
        · rw [Array.setIfInBounds_comm _ _ (Ne.symm hji), getD_set_ne true hil] at h; exact Or.inl h
        · exact Or.inr h
      have hu2 : (∀ w, S' w) ∨ (listed.setIfInBounds j true).getD l true = false := by
        rcases hl with h | ⟨_, ol, hol, e, he, hb, hon⟩
        · exact Or.inl h
        · rcases hu with h | h
          · exact Or.inl h
          · have hjl : j ≠ l := by
              intro q
              subst q
              rw [hoj] at hol
              injection hol with hol
              subst hol
              exact hnot e he hb hon
            rw [getD_set_ne true hjl]; exact Or.inr h
      refine ⟨hS2, ih (listed.setIfInBounds j true) a' w' hfree' (ready_mono hr (Ne.symm hji)) h3.1 hS2 hu2 ?_⟩
      rw [Array.setIfInBounds_comm _ _ hji]
      exact h3.2.2
theorem wp_region_X {id : Nat} {a : Act} {w : World} (S : World → Prop) (l : Nat) (hm : P.follows .mixedOrders = true) (h : wpAnyX P .any ops Q S l ops.size (Array.replicate ops.size false) a w.drew) : (Code.region id ops true).wp P Q a w :=
  wp_region_any hm (wpAny_of_X _ _ _ _ h)
def leadX (md : Region.Mode) (ops : Array Oper) (l : Nat) : List Nat → Array Bool → Bool
  | [], _ => true
  | i :: is, listed => decide (i ≠ l) && ((Region.ready md ops listed).contains i && (Region.free md ops listed i && (Region.waitsFor md ops l i && (!listed.getD l true && leadX md ops l is (listed.setIfInBounds i true)))))
def leadP (md : Region.Mode) (ops : Array Oper) (l : Nat) : List Nat → Array Bool → Bool
  | [], _ => true
  | i :: is, listed => decide (i ≠ l) && ((Region.ready md ops listed).contains i && (Region.free md ops listed i && leadP md ops l is (listed.setIfInBounds i true)))
theorem wpAnyX_leadI (hs : Region.noSelect ops = true) (hQ : ∀ c a d v w, Q (.panic c) (Act.put a d v) w → Q (.panic c) a w) {w : World} (hS : S w) : ∀ (is : List Nat) (g : Nat) (listed : Array Bool) (a : Act),
    leadX md ops l is listed = true → wpLeadI P ops S (fun a' => wpAnyX P md ops Q S l g (Ft.setI is listed) a' w) is a → wpAnyX P md ops Q S l (is.length + g) listed a w
  | [], g, listed, a, _, h => by simpa [wpLeadI, Ft.setI] using h
  | i :: is, g, listed, a, hB, h => by
    simp only [leadX, Bool.and_eq_true, decide_eq_true_eq, Bool.not_eq_true'] at hB
    obtain ⟨b0, b1, b2, b3, b4, b5⟩ := hB
    obtain ⟨o, v, h0, hy, h⟩ := h
    rw [List.length_cons, show is.length + 1 + g = (is.length + g) + 1 from by omega]
    exact wpAnyX_first (S' := S) h0 (Region.noSelect_spec hs) (fun c a w => hQ c a _ _ w) b0 (Or.inr ⟨fun w h => h, Region.waitsFor_spec b3⟩) _ listed a w (Region.free_spec h0 b2) (by simpa using b1) hy (Or.inr hS) (Or.inr b4) (wpAnyX_leadI hs hQ hS is g _ _ b5 h)
theorem wpAnyX_pureI (hs : Region.noSelect ops = true) (hQ : ∀ c a d v w, Q (.panic c) (Act.put a d v) w → Q (.panic c) a w) {w : World} (hS : S w) : ∀ (is : List Nat) (g : Nat) (listed : Array Bool) (a : Act),
    leadP md ops l is listed = true → wpLeadI P ops (fun _ => True) (fun a' => wpAnyX P md ops Q S l g (Ft.setI is listed) a' w) is a → wpAnyX P md ops Q S l (is.length + g) listed a w
  | [], g, listed, a, _, h => by simpa [wpLeadI, Ft.setI] using h
  | i :: is, g, listed, a, hB, h => by
    simp only [leadP, Bool.and_eq_true, decide_eq_true_eq] at hB
    obtain ⟨b0, b1, b2, b5⟩ := hB
    obtain ⟨o, v, h0, hy, h⟩ := h
    rw [List.length_cons, show is.length + 1 + g = (is.length + g) + 1 from by omega]
    exact wpAnyX_first (S' := fun _ => True) h0 (Region.noSelect_spec hs) (fun c a w => hQ c a _ _ w) b0 (Or.inl fun _ => trivial) _ listed a w (Region.free_spec h0 b2) (by simpa using b1) hy (Or.inr hS) (Or.inl fun _ => trivial) (wpAnyX_pureI hs hQ hS is g _ _ b5 h)
/-- the only one that may come up -/
theorem wpAnyX_one {i : Nat} {oi : Oper} {fuel : Nat} {listed : Array Bool} {a : Act} {w : World} (hi : ops[i]? = some oi) (hr : Region.ready md ops listed = [i])
    (h : ∀ K : Act → World → Prop, Shut (∀ a' w', S w' → wpAnyX P md ops Q S l fuel (listed.setIfInBounds i true) a' w' → K a' w') → if Region.wanted oi (yielded ops a.tmps) = true then Oper.wp P oi a w K Q else K (a.put oi.dst undef) w) :
    wpAnyX P md ops Q S l (fuel + 1) listed a w := by
  refine ⟨fun h1 => (by rw [hr] at h1; cases h1), fun j hj => ?_⟩
  rw [hr] at hj
  have hji : j = i := by simpa using hj
  subst hji
  exact wpOp_step hi fun K' hK => h K' (fun a' w' hS hW => hK a' w' ⟨Or.inr hS, hW⟩)
/-- number l, the last -/
theorem wpAnyX_last {o : Oper} {listed : Array Bool} {a : Act} {w : World} (h0 : ops[l]? = some o) (hr : Region.ready md ops listed = [l]) (hr2 : Region.ready md ops (listed.setIfInBounds l true) = []) (hl2 : (listed.setIfInBounds l true).getD l true = true)
    (h : wpList P ops Q [o] a w) : wpAnyX P md ops Q S l 1 listed a w := by
  refine ⟨fun h1 => (by rw [hr] at h1; cases h1), fun i hi => ?_⟩
  rw [hr] at hi
  have hik : i = l := by simpa using hi
  subst hik
  have hw : wpOp P ops Q i (wpList P ops Q []) a w := by unfold wpOp; simp only [h0]; exact h
  exact wpOp_mono (fun a' w' h' => ⟨Or.inl hl2, hr2, h'⟩) hw
end
end Go.Proofs.Ytapojmniokdjfaa.Bk
/- Layer 11: Free. -/
namespace Go.Proofs.Ytapojmniokdjfaa.Bk
open Go.RowKit Go.Shelf
open Stp (inW blw al dr drN kp Stp OwnS RetP RetS tidyA_any sum_any sumE sumL sumR sum_of new_any newL newE okS ok_val)
open Ft (wp_region_R wpAnyR_leadI wpLeadI wpLeadI_read wpLeadI_skip wpAnyR_one wpAnyR_tail)
set_option linter.unusedVariables false
set_option maxRecDepth 100000

/-- two profiles that come to no more than all -/
theorem sum_two {l m : List StepD} (hl : Prof l) (hm : Prof m) (hn : l.length + m.length ≤ 20000) (hb : ∀ t, 0 ≤ t → valF 0 l t + valF 0 m t ≤ 10000) : sumE l m = 0 ∧ Prof (sumL l m) ∧ ∀ t, 0 ≤ t → valF 0 (sumL l m) t = valF 0 l t + valF 0 m t := by
  have hS : Stp.SumR l m (sumR l m) := sum_of hl hm.rise (fun s hs => by have := hm.ok s hs; omega)
  have hd : ∀ t, 0 ≤ t → valF 0 l t + valF 0 m t ≠ DD := fun t ht => by have := hb t ht; unfold DD; omega
  have hok : okS (sumR l m) = true := (ok_val hS.norm.rise hS.val hd).2 fun t ht => nodeOK_iff.2 (by have := hb t ht; have := hl.bd ht; have := hm.bd ht; omega)
  have he : sumE l m = 0 := by unfold sumE; rw [if_pos ⟨chkD_prof.2 hl, chkD_prof.2 hm⟩, if_pos hok]
  have hp := hS.prof hn hok hd
  refine ⟨he, ?_, fun t ht => ?_⟩
  · unfold sumL; rw [if_pos he]; exact hp
  · unfold sumL; rw [if_pos he, hp.val ht 0 DD]; exact hS.val t ht
theorem Wr.mono {S S' : Nat → Prop} {w w' : World} (h : Wr S w w') (hs : ∀ b, S b → S' b) : Wr S' w w' := ⟨h.os, h.tape, h.output, h.size, fun k hk hn => h.block k hk fun q => hn (hs k q)⟩
theorem Wr.then_below {S : Nat → Prop} {w w1 w2 : World} (h : Wr S w w1) (hb : Below w.heap.size w1 w2) : Wr S w w2 := ⟨hb.os.trans h.os, hb.tape.trans h.tape, hb.output.trans h.output, Nat.le_trans h.size hb.size, fun k hk hn => (hb.block k hk).trans (h.block k hk hn)⟩
/-- the map alone has changed -/
theorem BookM.of_m {w w' : World} {g m : Nat} {N : Int} {F : List StepD} {L M : List SlotD} (h : BookM w g m N F L) (hw : Wr (fun b => b = m) w w') (hm : MapS w' m M) : BookM w' g m N F M := by
  obtain ⟨A, c, h1, h2⟩ := h.blk
  exact ⟨⟨A, c, by rw [hw.block g (Dag.blk_lt h1) h.ne]; exact h1, h2.wr h (hw.mono fun b e => Or.inr e)⟩, hm⟩
/-- what Free leaves -/
def FreeO (F : List StepD) (L : List SlotD) (ids : List Int) (e0 : Int) (F' : List StepD) (M : List SlotD) : Prop :=
  (freeR ids L = none ∧ e0 = 4 ∧ F' = F ∧ M = L) ∨ (∃ G, freeR ids L = some M ∧ e0 = 0 ∧ FreeI L M G ∧ Prof F' ∧ ∀ t, 0 ≤ t → valF 0 F' t = valF 0 F t + takV G t)
def RetF (g m : Nat) (N : Int) (F : List StepD) (L : List SlotD) (ids : List Int) (w : World) (e : Ending) (w' : World) : Prop :=
  ∃ e0 F' M, e = .returned (.int .i64 e0) ∧ FreeO F L ids e0 F' M ∧ BookM w' g m N F' M ∧ Wr (GB g m) w w'
set_option maxHeartbeats 3200000 in
theorem free_any (ids : List Int) (w : World) (g m : Nat) (N : Int) (F : List StepD) (L : List SlotD) (T : List Int) (k : Nat) (hI : BkI N F L T k) (hk : k ≤ 100) (hwf : ∀ s ∈ L, (Lit.int .i64 s.id).wf = true) (hwi : ∀ id ∈ ids, (Lit.int .i64 id).wf = true) (hids : ids.length ≤ 1000)
    (A : Option Addr) (c : Nat) (hA : ∀ i x, ids[i]? = some x → ∃ b off, A = some ⟨b, off, none⟩ ∧ w.cell? ⟨b, off + i, none⟩ = some (.int .i64 x) ∧ ¬ GB g m b) (h : BookM w g m N F L) :
    Calls Try.prog 22 #[.pointer (some ⟨g, 0, none⟩), .slice A ids.length c] w (RetF g m N F L ids w) := by
  obtain ⟨n, hn⟩ : ∃ n, ids.length = n := ⟨_, rfl⟩
  rw [hn]
  rw [hn] at hids
  have HN := Lib.hid hn; have HI := Lib.hid hI; have HWF := Lib.hid hwf; have HWI := Lib.hid hwi; have HA := Lib.hid hA; have HH := Lib.hid h
  have HLL := Lib.hid hI.ll; have HFL := Lib.hid hI.len; have HOK := Lib.hid hI.ok
  have HGM := Lib.hid h.lt
  have HPB := Lib.hid fun (M0 G : List SlotD) (hF : FreeI L M0 G) (B : Option Addr) (d : Nat) (W : World) (hb : BookM W g m N F M0) (hs : Slt W B d G) => put_any L M0 G hI.rise (by have := hI.ll; omega) hwf hF B d W g m N F hb hs
  clear hn hI hwf hwi hA h
  go_enter Try.func22, Try.ntmps22
  go_wp2_with fail
  go_loopw [5, 16] (fun v5 vi wr => ∃ (i : Nat) (M G : List SlotD) (A1 : Option Addr) (c1 : Nat), i ≤ n ∧ v5 = .slice A1 G.length c1 ∧ vi = .int .i64 i ∧ Hid (freeR (ids.take i) L = some M) ∧ Hid (FreeI L M G) ∧ Hid (OwnL wr w.heap.size (.slice A1 G.length c1) G) ∧ Hid (MapS wr m M) ∧ Hid (Wr (fun b => b = m) w wr)) (fun _ vi _ => n - (intOf vi).toNat)
  case atStart => exact ⟨0, L, [], none, 0, Nat.zero_le _, rfl, rfl, Lib.hid rfl, Lib.hid (FreeI.mk0 HI.out.rise), Lib.hid (OwnL.nil _ _), Lib.hid HH.out.map, Lib.hid (Wr.refl _ _)⟩
  case round =>
    obtain ⟨i, M, G, A1, c1, hi, rfl, rfl, HFR, HF, HO, HM, HW⟩ := hrel
    have HB := Lib.hid (HH.out.of_m HW.out HM.out)
    by_cases hlt : i < n
    · obtain ⟨id, hid⟩ : ∃ id, ids[i]? = some id := ⟨_, List.getElem?_eq_getElem (by rw [HN.out]; exact hlt)⟩
      obtain ⟨b, off, eA, hc, hnb⟩ := HA.out i id hid
      subst eA
      have hc1 := HW.out.cell (fun e => hnb (Or.inr e)) hc
      have hlook := HM.out.look (HWI.out id (List.mem_of_getElem? hid))
      have hsn := freeR_snoc (ids.take i) id L M HFR.out
      have htk : ids.take (i + 1) = ids.take i ++ [id] := by rw [List.take_add_one, hid, Option.toList_some]
      rw [← htk] at hsn
      have HWD := Lib.hid (HWI.out id (List.mem_of_getElem? hid))
      obtain ⟨A9, c9, _, k0, k1, k2, kf⟩ := HB.out.cells
      cases hf : fndS id M with
      | none =>
        have hl := hlook.2 hf
        rw [hf] at hsn
        have HSN := Lib.hid hsn
        clear hlook hc hnb htk hsn hid
        have HX := Lib.hid (al wr (.cells #[.int .i64 0, .int .i64 0, .int .i64 0, .int .i64 0] 32))
        go_wp2_with fail
        have HO1 := HO.out.below HX.out
        have HPP := Lib.hid (HPB.out M G HF.out A1 c1 _ (HB.out.below HX.out) HO1.slt.2)
        clear HO1
        refine HPP.out.mono ?_
        rintro e w2 ⟨rfl, hB2, hW2⟩
        have HB2 := Lib.hid hB2
        have HW2 := Lib.hid (((HW.out.mono (S' := GB g m) fun b e => Or.inr e).trans (Wr.of_below HX.out)).trans hW2)
        clear hB2 hW2
        go_wp2
        go_ret
        refine ⟨4, F, L, rfl, Or.inl ⟨?_, rfl, rfl, rfl⟩, HB2.out, HW2.out⟩
        have := freeR_none _ (ids.drop (i + 1)) L HSN.out
        rwa [List.take_append_drop] at this
      | some s =>
        have hl := hlook.1 s hf
        rw [hf] at hsn
        have HSN := Lib.hid hsn
        have HFN := Lib.hid hf
        have HRI := Lib.hid HF.out.rise
        have HX := Lib.hid (al wr (.cells #[.int .i64 s.id, .int .i64 s.fm, .int .i64 s.to, .int .i64 s.nd] 32))
        have HC := Lib.hid (C4.new wr s 32)
        have k1' := kp HX.out k1
        have HM1 := Lib.hid (HM.out.below HX.out)
        have HO1 := Lib.hid (HO.out.below HX.out)
        have HW1 := Lib.hid (HW.out.trans (Wr.of_below (S := fun b => b = m) HX.out))
        have HSZ : Hid (w.heap.size ≤ wr.heap.size) := Lib.hid HW.out.size
        have HGL : Hid (G.length ≤ 1000000) := Lib.hid (by have := HF.out.len; have := HLL.out; omega)
        clear hlook hc hnb htk hsn hid hf k0 k2 kf
        go_wp2_with (first | (at_delete; refine wpList_mdel rfl (.tmp 37) (.tmp 38) rfl m M id rfl HM1.out HRI.out rfl HWD.out ?_; intro w2 hm2 hg2; have HM2 := Lib.hid hm2; have HG2 := Lib.hid hg2; have HW2 := Lib.hid (HW1.out.trans (Wr.of_grown (S := fun b => b = m) hg2 fun b e => by injection e with e; exact e.symm)); have HC2 : Hid (C4 w2 wr.heap.size 0 s) := Lib.hid (by have hne : some m ≠ some wr.heap.size := (fun q => by injection q with q; have h1 := HGM.out.2; have h2 := HSZ.out; omega); exact ⟨gcell hg2 hne HC.out.id, gcell hg2 hne HC.out.fm, gcell hg2 hne HC.out.to, gcell hg2 hne HC.out.nd⟩); have HO2 := Lib.hid (HO1.out.kept hg2 (fun b e => by injection e with e; have h1 := HGM.out.2; omega)); obtain ⟨x0, x1, x2, x3⟩ := HC2.out; clear hm2 hg2; have HY := Lib.hid (al w2 (.cells #[.int .i64 s.id, .int .i64 s.fm, .int .i64 s.to, .int .i64 s.nd] 32)); have HO3 := Lib.hid (HO2.out.below HY.out); have HC3 := Lib.hid (C4.new w2 s 32); have HZ3 : Hid (w.heap.size ≤ (w2.alloc (.cells #[.int .i64 s.id, .int .i64 s.fm, .int .i64 s.to, .int .i64 s.nd] 32)).heap.size) := Lib.hid (by have h1 := HW2.out.size; have h2 := HY.out.size; omega)) | (at_builtin; refine wpList_app4 rfl (.tmp 39) (.tmp 41) rfl w.heap.size (.slice A1 G.length c1) G rfl HO3.out w2.heap.size 1 s rfl HC3.out HGL.out HZ3.out ?_; intro A8 c8 w8 ho8 hg8 hb8))
        have hm8 := (HM2.out.below HY.out).kept hg8 (fun e => by have h1 := (HO3.out.blk e.symm).1; have h2 := HGM.out.2; omega)
        have hw8 := (HW2.out.trans (Wr.of_below HY.out)).then_below hb8
        refine ⟨⟨i + 1, remS id M, G ++ [s], A8, c8, by omega, by simp, by go_num, HSN, Lib.hid (HF.out.step HFN.out), Lib.hid ho8, Lib.hid hm8, Lib.hid hw8⟩, ?_⟩
        simp [intOf]; omega
    · obtain rfl : i = n := by omega
      have hfr := HFR.out
      rw [List.take_of_length_le (by rw [HN.out]; exact Nat.le_refl _)] at hfr
      have HFR2 := Lib.hid hfr
      have HNW := Lib.hid fun (W : World) => new_any 0 W
      unfold RetS newL newE at HNW
      rw [show nodeOK 0 = true from by decide, if_pos rfl, if_pos rfl] at HNW
      clear hfr
      go_wp2_with fail
      refine (HNW.out _).mono ?_
      rintro e w1 ⟨A2, c2, rfl, hs2, hb2⟩
      have HB1 := Lib.hid (HB.out.below hb2)
      have HW1 := Lib.hid ((HW.out.mono (S' := GB g m) fun b e => Or.inr e).trans (Wr.of_below hb2))
      have HSG := Lib.hid (HO.out.slt.2.below hb2)
      have HS2 := Lib.hid hs2
      obtain ⟨A0, c0, hs0, k0, k1, k2, kf⟩ := HB1.out.cells
      have HS0 := Lib.hid hs0
      have HK2 := Lib.hid fun (W : World) (hW : Below w1.heap.size w1 W) => kp hW k2
      have HGL : Hid (G.length ≤ 100) := Lib.hid (by have := HF.out.len; have := HLL.out; omega)
      have hp0 : Prof [⟨0, 0⟩] := by
        refine ⟨by simp, ⟨_, [], rfl, rfl⟩, ⟨by show (-1 : Int) < 0; decide, by show (0 : Int) ≠ DD; decide, trivial⟩, fun s hs => ?_⟩
        simp at hs; subst hs; exact ⟨⟨Int.le_refl _, by show (0 : Int) ≤ 1099511627775; decide⟩, by show (0 : Int) ≤ 0 ∧ (0 : Int) ≤ 10000; omega⟩
      have HP0 := Lib.hid hp0
      have HV0 : Hid (∀ t, 0 ≤ t → 0 ≤ valF 0 [⟨0, 0⟩] t + takK 1 G t ∧ valF 0 [⟨0, 0⟩] t + takK 1 G t ≤ 10000) := Lib.hid fun t ht => by
        rw [tak_one, show valF 0 [⟨0, 0⟩] t = 0 from by rw [val_cons (by exact ht)]; rfl]
        have h1 := HI.out.top t ht; have h2 := HF.out.tak t; have h3 := tak_nn (N := N) (L := M) (fun u hu => HOK.out u (HF.out.memM hu)) t; have h4 := HI.out.n
        have h5 := tak_nn (N := N) (L := G) (fun u hu => HOK.out u (HF.out.memG hu)) t
        have h6 := HI.out.prof.bd ht
        omega
      have HP := Lib.hid fun (W : World) (hW : Below w1.heap.size w1 W) => plus_any [⟨0, 0⟩] G 1 (Or.inl rfl) A2 A1 c2 c1 W (by decide) (by decide) (by have := HGL.out; omega) (fun s hs => by simp at hs; subst hs; exact ⟨by decide, by decide⟩) (fun s hs => by have := HOK.out s (HF.out.memG hs); have h1 := this.fm; have h2 := this.lt; have h3 := this.nd; have h4 := HI.out.n; omega) hp0.rise (HS2.out.below hW) (HSG.out.below hW)
      clear hs2 hb2 hs0 k0 k1 k2 kf hp0
      go_wp2_with fail
      refine wp_region_X (Below w1.heap.size w1) 15 (by kernel_rfl) ?_
      refine wpAnyX_leadI (by kernel_rfl) ?hQ ?hS0 [0, 1, 2, 3, 4, 5, 6] 9 _ _ (by kernel_rfl) ?_
      case hQ => intro c a d v w h; cases d <;> exact h
      case hS0 => exact (dr w1)
      iterate 7 (refine wpLeadI_read (v := ?_) _ rfl rfl (by rfl) ?_ ?_; rotate_left; (intro W hW; have k2 := HK2.out W hW; go_simp; (try with_reducible rfl)); try simp only [Act.put, List.setIfInBounds_toArray, List.set_cons_succ, List.set_cons_zero])
      simp only [wpLeadI]
      refine wpAnyX_one (i := 7) rfl (by kernel_rfl) ?_
      intro K1 hK1
      go_simp
      refine (HP.out _ (dr w1)).mono ?_
      rintro e w2 ⟨R1, hR1, A5, c5, rfl, ho5, hb5⟩
      have HR1 := Lib.hid hR1
      have HL1 : Hid (R1.length ≤ 201) := Lib.hid (by have h1 := hR1.len; have h2 := HGL.out; simp only [List.length_cons, List.length_nil] at h1; omega)
      have HB2 := Lib.hid (blw (dr w1) hb5)
      have HTD := Lib.hid (tidyA_any R1 A5 R1.length c5 rfl (by have := HL1.out; omega) w2 ho5.stp.2)
      clear hR1 ho5 hb5
      refine hK1.out _ _ HB2.out ?_
      clear hK1 K1
      try simp only [Act.put, List.setIfInBounds_toArray, List.set_cons_succ, List.set_cons_zero]
      refine wpAnyX_one (i := 8) rfl (by kernel_rfl) ?_
      intro K2 hK2
      go_simp
      refine HTD.out.mono ?_
      rintro e w3 ⟨Q, hQn, hTQ, A6, c6, rfl, ho6, hb6⟩
      have HB3 := Lib.hid (blw HB2.out hb6)
      have hok := plus_ok HR1.out fun t ht => by have := HV0.out t ht; omega
      have hQP := plus_prof HP0.out HR1.out (hTQ (-1) DD (fun u hu => (hok u hu).1) (fun u hu => (hok u hu).2)) (fun s hs => by have := HOK.out s (HF.out.memG hs); exact ⟨this.fm.2, this.to.2⟩) HV0.out (by have := HL1.out; omega)
      have HQ := Lib.hid hQP
      have HQL : Hid (Q.length ≤ 201) := Lib.hid (by have := HL1.out; omega)
      have hsu := sum_two HI.out.prof hQP.1 (by have := HQL.out; have := HFL.out; omega) (fun t ht => by
        rw [hQP.2 t ht, tak_one, show valF 0 [⟨0, 0⟩] t = 0 from by rw [val_cons (by exact ht)]; rfl]
        have h1 := HI.out.top t ht; have h2 := HF.out.tak t; have h3 := tak_nn (N := N) (L := M) (fun u hu => HOK.out u (HF.out.memM hu)) t; have h4 := HI.out.n
        omega)
      have HSU := Lib.hid hsu
      have HSM := Lib.hid (sum_any F Q A0 A6 F.length Q.length c0 c6 rfl rfl (by have := HQL.out; have := HFL.out; omega) w3 (HS0.out.below HB3.out) ho6.stp.2)
      unfold RetS at HSM
      rw [hsu.1] at HSM
      clear hQn hTQ ho6 hb6 hok hQP hsu
      refine hK2.out _ _ HB3.out ?_
      clear hK2 K2
      try simp only [Act.put, List.setIfInBounds_toArray, List.set_cons_succ, List.set_cons_zero]
      refine wpAnyX_one (i := 9) rfl (by kernel_rfl) ?_
      intro K3 hK3
      go_simp
      refine HSM.out.mono ?_
      rintro e w4 ⟨A7, c7, rfl, hs7, hb7⟩
      have HB4 := Lib.hid (blw HB3.out hb7)
      have HS7 := Lib.hid hs7
      clear hs7 hb7
      refine hK3.out _ _ HB4.out ?_
      clear hK3 K3
      try simp only [Act.put, List.setIfInBounds_toArray, List.set_cons_succ, List.set_cons_zero]
      refine wpAnyX_pureI (by kernel_rfl) ?hQ ?hS0 [10, 11, 12, 13, 14] 1 _ _ (by kernel_rfl) ?_
      case hQ => intro c a d v w h; cases d <;> exact h
      case hS0 => exact HB4.out
      iterate 5 (refine wpLeadI_read (v := ?_) _ rfl rfl (by rfl) ?_ ?_; rotate_left; (intro W hW; clear hW; go_simp; (try with_reducible rfl)); try simp only [Act.put, List.setIfInBounds_toArray, List.set_cons_succ, List.set_cons_zero])
      simp only [wpLeadI]
      refine wpAnyX_last rfl (by kernel_rfl) (by kernel_rfl) (by kernel_rfl) ?_
      have HB14 := Lib.hid (HB1.out.below HB4.out)
      obtain ⟨_, _, _, k0, k1, k2, kf⟩ := HB14.out.cells
      clear k0 k1
      go_wp2
      go_ret
      obtain ⟨hMF, hWF⟩ := HB14.out.store (F' := sumL F Q) rfl HS7.out
      refine ⟨0, sumL F Q, M, rfl, Or.inr ⟨G, HFR2.out, rfl, HF.out, HSU.out.2.1, fun t ht => ?_⟩, hMF, (HW1.out.trans (Wr.of_below HB4.out)).trans hWF⟩
      rw [HSU.out.2.2 t ht, HQ.out.2 t ht, tak_one, show valF 0 [⟨0, 0⟩] t = 0 from by rw [val_cons (by exact ht)]; rfl]
      omega
end Go.Proofs.Ytapojmniokdjfaa.Bk

