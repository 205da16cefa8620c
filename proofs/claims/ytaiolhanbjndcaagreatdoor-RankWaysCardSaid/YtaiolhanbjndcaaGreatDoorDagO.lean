/- Layer Dag over: of the document's: Order, of what has one. -/
import Derived.Test.YtaiolhanbjndcaaGreatDoorMSum
namespace Go.Proofs.YtaiolhanbjndcaaGreatDoor.Dag
open Go.RowKit
set_option linter.unusedVariables false
set_option maxRecDepth 100000

theorem mem_num {l : List Nat} {v : Nat} : (v : Int) ∈ num l ↔ v ∈ l := by
  unfold num
  rw [List.mem_map]
  constructor
  · rintro ⟨a, h, e⟩
    have e' : (a : Int) = (v : Int) := e
    have : a = v := by omega
    subst this; exact h
  · intro h; exact ⟨v, h, rfl⟩
theorem may_row {E : List (List Int)} (hE : Valid E) (o : List Nat) (v : Nat) : may E o v = (!decide ((v : Int) ∈ num o) && (row E v).all fun x => decide (x ∈ num o)) := by
  rw [Bool.eq_iff_iff, may_iff, Bool.and_eq_true, List.all_eq_true]
  simp only [Bool.not_eq_true', decide_eq_false_iff_not, decide_eq_true_eq]
  constructor
  · rintro ⟨h1, h2⟩
    refine ⟨fun h => h1 (mem_num.1 h), fun x hx => ?_⟩
    obtain ⟨u, rfl, hu, _⟩ := hE.at_ hx
    exact mem_num.2 (h2 u (bef_mem.2 ⟨hu, arc_iff.2 hx⟩))
  · rintro ⟨h1, h2⟩
    exact ⟨fun h => h1 (mem_num.2 h), fun u hu => mem_num.1 (h2 _ (arc_iff.1 (bef_mem.1 hu).2))⟩
def mayK (E : List (List Int)) (o : List Nat) (v i : Nat) : Bool := !decide ((v : Int) ∈ num o) && ((row E v).take i).all fun x => decide (x ∈ num o)
theorem mayK_succ {E : List (List Int)} {o : List Nat} {v i : Nat} {x : Int} (h : (row E v)[i]? = some x) : mayK E o v (i + 1) = (mayK E o v i && decide (x ∈ num o)) := by
  unfold mayK
  rw [List.take_add_one, h, Option.toList_some, List.all_append, Bool.and_assoc]
  simp
/-- on the way to the order -/
structure Way (E : List (List Int)) (o : List Nat) : Prop where
  ord : Ord E o
  eq : order E = ordF E (E.length - o.length) o
theorem Way.start (E : List (List Int)) : Way E [] := ⟨Ord.nil E, rfl⟩
theorem Way.next {E : List (List Int)} {o : List Nat} (h : Way E o) (hf : (order E).length = E.length) (hl : o.length < E.length) : ∃ v, nextV E o = some v := by
  cases hn : nextV E o with
  | some v => exact ⟨v, rfl⟩
  | none =>
    obtain ⟨m, hm⟩ : ∃ m, E.length - o.length = m + 1 := ⟨E.length - o.length - 1, by omega⟩
    have := h.eq
    rw [hm] at this
    unfold ordF at this
    rw [hn] at this
    have h2 : order E = o := this
    rw [h2] at hf
    omega
theorem Way.snoc {E : List (List Int)} {o : List Nat} (h : Way E o) (hl : o.length < E.length) {v : Nat} (hn : nextV E o = some v) : Way E (o ++ [v]) := by
  refine ⟨h.ord.snoc hn, ?_⟩
  obtain ⟨m, hm⟩ : ∃ m, E.length - o.length = m + 1 := ⟨E.length - o.length - 1, by omega⟩
  have := h.eq
  rw [hm] at this
  unfold ordF at this
  rw [hn] at this
  rw [show E.length - (o ++ [v]).length = m by rw [List.length_append]; show E.length - (o.length + 1) = m; omega]
  exact this
theorem Way.done {E : List (List Int)} {o : List Nat} (h : Way E o) (hl : o.length = E.length) : order E = o := by
  have := h.eq
  rw [hl, Nat.sub_self] at this
  exact this
theorem next_of {E : List (List Int)} {o : List Nat} {k : Nat} (hk : k < E.length) (h : may E o k = true) (hb : ∀ u, u < k → may E o u = false) : nextV E o = some k := by
  unfold nextV
  rw [List.find?_range_eq_some]
  exact ⟨h, by simpa using hk, fun u hu => by simp [hb u hu]⟩
def slN : Value → Nat
  | .slice _ n _ => n
  | _ => 0

set_option maxHeartbeats 3200000 in
theorem rorder_any (E : List (List Int)) (hf : (order E).length = E.length) (w : World) (A : Option Addr) (c : Nat) (h : IRows w A c E) (hn : E.length ≤ 30) (hE : Valid E) :
    Calls Tryz.prog 48 #[.slice A E.length c] w (RetL w (num (order E))) := by
  have H := Lib.hid h; have HE := Lib.hid hE; have HF := Lib.hid hf
  clear h hE hf
  go_enter Tryz.func48, Tryz.ntmps48
  go_wp2
  go_loopw [3] (fun out wr => ∃ (o : List Nat) (Ao : Option Addr) (co : Nat), o.length ≤ E.length ∧ out = .slice Ao o.length co ∧ Hid (Way E o) ∧ Hid (Own1 wr w.heap.size 3 (.slice Ao o.length co) (ints (num o))) ∧ Hid (Below w.heap.size w wr)) (fun out _ => E.length - slN out)
  case atStart => exact ⟨[], none, 0, Nat.zero_le _, rfl, Lib.hid (Way.start E), Lib.hid (Own1.nil _ _ _), Lib.hid (Below.refl _ _)⟩
  case round =>
    obtain ⟨o, Ao, co, hol, rfl, HW, HO, HB⟩ := hrel
    have HI := Lib.hid (OwnI.ints' HO.out).2
    by_cases hlt : o.length < E.length
    · have HX := Lib.hid (HW.out.next HF.out hlt)
      go_wp2
      go_loop [3, 4] (fun out v => ∃ k : Nat, k ≤ E.length ∧ out = .slice Ao o.length co ∧ v = .int .i64 k ∧ Hid (∀ u, u < k → may E o u = false)) (fun _ v => E.length - (intOf v).toNat)
      case atStart => exact ⟨0, Nat.zero_le _, rfl, rfl, Lib.hid fun u hu => absurd hu (Nat.not_lt_zero u)⟩
      case round =>
        obtain ⟨k, hk, rfl, rfl, HN⟩ := hrel
        by_cases hkl : k < E.length
        · obtain ⟨b, off, A', c', rfl, hc0, hi⟩ := H.out.cells k _ (row_get hkl)
          have hc := (HB.out.cell (p := ⟨b, off + k, none⟩) (World.block_lt_of_cell? w _ hc0)).trans hc0
          have HR := Lib.hid (hi.below HB.out)
          clear hc0 hi
          obtain ⟨r0, hr0⟩ : ∃ r0, decide ((k : Int) ∈ num o) = r0 := ⟨_, rfl⟩
          have HM0 : Hid (mayK E o k 0 = !r0) := Lib.hid (by unfold mayK; rw [hr0]; simp)
          have HR0 := Lib.hid hr0
          have hrl : (row E k).length ≤ 9223372036854775807 := Nat.le_trans HR.out.len (by have := Sl.top HR.out; simpa [maxLen] using this)
          obtain ⟨n, hn'⟩ : ∃ n, (row E k).length = n := ⟨_, rfl⟩
          rw [hn'] at hc hrl
          have HNL := Lib.hid hn'
          clear hr0 hn'
          go_wp2_with fail
          refine (hasI_any (num o) _ (num_len o) (k : Int) _ _ _ HI.out r0 HR0.out).mono ?_
          rintro e w1 ⟨rfl, rfl⟩
          go_wp2
          go_loop [5, 6] (fun m i => ∃ (j : Nat) (x : Bool), j ≤ n ∧ i = .int .i64 j ∧ m = .bool x ∧ Hid (mayK E o k j = x)) (fun _ i => n - (intOf i).toNat)
          case atStart => exact ⟨0, !r0, Nat.zero_le _, rfl, rfl, HM0⟩
          case round =>
            clear HM0
            obtain ⟨j, x, hj, rfl, rfl, HM⟩ := hrel
            by_cases hjl : j < n
            · obtain ⟨y, hy⟩ : ∃ y, (row E k)[j]? = some y := ⟨_, List.getElem?_eq_getElem (by rw [HNL.out]; exact hjl)⟩
              obtain ⟨b2, o2, rfl, cy⟩ := HR.out.cells j (.int .i64 y) (by unfold ints; rw [List.getElem?_map, hy]; rfl)
              obtain ⟨r, hr⟩ : ∃ r, decide (y ∈ num o) = r := ⟨_, rfl⟩
              have HS : Hid (mayK E o k (j + 1) = (x && r)) := Lib.hid (by rw [mayK_succ hy, HM.out, hr])
              have HRR := Lib.hid hr
              clear hy hr
              cases x with
              | false =>
                go_wp2
                go_round
                case rel => exact ⟨j + 1, false, by omega, by go_num, rfl, HS⟩
                case measure => simp [intOf]; omega
              | true =>
                go_wp2_with fail
                refine (hasI_any (num o) _ (num_len o) y _ _ _ HI.out r HRR.out).mono ?_
                rintro e w1 ⟨rfl, rfl⟩
                go_wp2
                go_round
                case rel => exact ⟨j + 1, r, by omega, by go_num, by simp, Lib.hid (by rw [HS.out]; simp)⟩
                case measure => simp [intOf]; omega
            · obtain rfl : j = n := by omega
              have HMY : Hid (may E o k = x) := Lib.hid (by rw [may_row HE.out, ← HM.out]; unfold mayK; rw [← HNL.out, List.take_length])
              clear HM
              cases x with
              | false =>
                go_wp2
                go_round
                case rel => exact ⟨k + 1, by omega, rfl, by go_num, Lib.hid fun u hu => by
                  rcases Nat.lt_or_ge u k with a | a
                  · exact HN.out u a
                  · obtain rfl : u = k := by omega
                    exact HMY.out⟩
                case measure => simp [intOf]; omega
              | true =>
                have HWN := Lib.hid (HW.out.snoc hlt (next_of hkl HMY.out HN.out))
                have hsz := HB.out.size
                go_wp2_with (at_builtin; refine wpList_appg rfl _ _ 27 3 (.int .i64 0) 8 Tryz.underlying27 info_int rfl (by decide) rfl w.heap.size (.slice Ao o.length co) (ints (num o)) rfl (Own1.below HO.out ((Below.refl _ _).alloc (Nat.le_refl _) _)) (some ⟨wr.heap.size, 0, none⟩) 1 1 [.int .i64 (k : Int)] rfl rfl (Sl.one rfl) (by simp [Value.oneCell']) (by rw [ints_len, num_len]; simp; omega) (by simp; omega) ?_; intro l9 A9 c9 w9 el ho9 _ _ hbl9; have HO9 := Lib.hid ho9; have HBL := Lib.hid ((HB.out.alloc hsz _).trans hbl9); have EL := Lib.hid el; clear ho9 hbl9 el)
                have HNW : Hid (l9 = ints (num (o ++ [k]))) := Lib.hid (by rw [EL.out]; simp [ints, num])
                have HNN : Hid (l9.length = (o ++ [k]).length) := Lib.hid (by rw [HNW.out, ints_len, num_len])
                go_roundw
                case rel => exact ⟨o ++ [k], A9, c9, by rw [List.length_append]; show o.length + 1 ≤ _; omega, by rw [HNN.out], HWN, Lib.hid (by have := HO9.out; rw [HNN.out, HNW.out] at this; exact this), HBL⟩
                case measure => show E.length - l9.length < E.length - o.length; rw [HNN.out, List.length_append]; show E.length - (o.length + 1) < _; omega
        · exfalso
          obtain rfl : k = E.length := by omega
          obtain ⟨v, hv⟩ := HX.out
          obtain ⟨h1, h2, h3⟩ := next_some hv
          have h4 := HN.out v h1
          rw [may_iff.2 ⟨h2, h3⟩] at h4
          cases h4
    · have HD := Lib.hid (HW.out.done (by omega))
      go_wp2
      go_ret
      refine ⟨Ao, co, by rw [HD.out, num_len]; rfl, by rw [HD.out]; exact HI.out, HB.out, fun a ha => ?_⟩
      subst ha
      exact (Own1.lt HO.out rfl).1
end Go.Proofs.YtaiolhanbjndcaaGreatDoor.Dag

