/- Layer 11 in plain words: a reservation made, moved to where it was, cut, gone. -/
import Derived.Test.YtapojmniokdjfaaBkDone
import Derived.Test.YtapojmniokdjfaaBkGet
namespace Go.Proofs.Ytapojmniokdjfaa.Bk
open Stp (inW add_yes prof_uniq addE addL)
set_option linter.unusedVariables false
theorem ins_rem {s : SlotD} {L : List SlotD} (hr : RiseI 0 L) (hf : fndS s.id L = some s) : insS s (remS s.id L) = L := by
  obtain ⟨hm, _⟩ := fnd_some hf
  have h0 := hr.gt s hm
  refine rise_uniq (rise_ins (rise_rem hr) h0 (by rw [fnd_rem hr, if_pos rfl])) hr fun u => ?_
  rw [mem_ins, mem_rem]
  constructor
  · rintro (rfl | ⟨h, _⟩)
    · exact hm
    · exact h
  · intro h
    by_cases e : u.id = s.id
    · exact Or.inl (rise_inj hr h hm e)
    · exact Or.inr ⟨h, e⟩
theorem rem_ins {s : SlotD} {L : List SlotD} {id : Int} (hid : s.id = id) (hr : RiseI 0 L) (h0 : 0 < s.id) (hn : fndS id L = none) : remS id (insS s L) = L := by
  subst hid
  refine rise_uniq (rise_rem (rise_ins hr h0 hn)) hr fun u => ?_
  rw [mem_rem, mem_ins]
  constructor
  · rintro ⟨rfl | h, e⟩
    · exact absurd rfl e
    · exact h
  · intro h
    exact ⟨Or.inr h, fnd_none.1 hn u h⟩
theorem move_back {N : Int} {F F' : List StepD} {L L' : List SlotD} {T : List Int} {k : Nat} {s : SlotD} {e0 : Int} (hI : BkI N F L T k) (hf : fndS s.id L = some s) (h : MoveO F L s.id s.fm e0 F' L') : e0 = 0 ∧ F' = F ∧ L' = L := by
  have ho := hI.ok s (fnd_some hf).1
  have hadd : s.fm + (s.to - s.fm) = s.to := by omega
  rcases h with ⟨q, _⟩ | ⟨u, q, q1, _⟩ | ⟨u, q, q1, q2, _, q3, _⟩ | ⟨u, q, q1, q2, q3, hP, hv, hL⟩
  · rw [hf] at q; cases q
  · rw [hf] at q; injection q with q; subst q
    rcases q1 with q1 | q1
    · rw [Clk.isT_yes ho.fm.1 ho.fm.2] at q1; cases q1
    · have := ho.to; omega
  · rw [hf] at q; injection q with q; subst q
    refine absurd (fun t ht => ?_) q3
    rw [hadd, inW_neg]
    have := hI.prof.bd ht
    omega
  · rw [hf] at q; injection q with q; subst q
    rw [hadd] at hv hL
    refine ⟨q3, prof_uniq hP hI.prof fun t ht => by rw [hv t ht, inW_neg]; omega, ?_⟩
    rw [hL]; exact ins_rem hI.rise hf
theorem free_none {F F' : List StepD} {L M : List SlotD} {id e0 : Int} (hn : fndS id L = none) (h : FreeO F L [id] e0 F' M) : e0 = 4 ∧ F' = F ∧ M = L := by
  have hr : freeR [id] L = none := by simp only [freeR, hn]
  rcases h with ⟨_, a, b, c⟩ | ⟨G, a, _⟩
  · exact ⟨a, b, c⟩
  · rw [hr] at a; cases a
theorem free_back {N : Int} {F F1 F' : List StepD} {L L1 M : List SlotD} {T : List Int} {k : Nat} {s : SlotD} {id e0 : Int} (hI : BkI N F1 L1 T k) (hf : fndS id L1 = some s) (hrem : remS id L1 = L) (hP : Prof F) (hval : ∀ t, 0 ≤ t → valF 0 F1 t + inW s.fm s.to s.nd t = valF 0 F t) (h : FreeO F1 L1 [id] e0 F' M) : e0 = 0 ∧ F' = F ∧ M = L := by
  have hr : freeR [id] L1 = some L := by simp only [freeR, hf, hrem]
  rcases h with ⟨a, _⟩ | ⟨G, a, b, hF, hP', hv⟩
  · rw [hr] at a; cases a
  · rw [hr] at a; injection a with a; subst a
    refine ⟨b, prof_uniq hP' hP fun t ht => ?_, rfl⟩
    have z1 := hF.tak t
    have z2 := tak_rem t hI.rise hf
    rw [hrem] at z2
    rw [hv t ht, ← hval t ht]; omega
/-- the cut, and what Get and Free find then -/
def BackO (N : Int) (F : List StepD) (L : List SlotD) (id : Int) (e0 : Int) (k : Nat) (F1 F' : List StepD) (L' : List SlotD) : Prop :=
  (e0 = 0 ∧ F' = F ∧ L' = L) ∨ ((e0 = 2 ∧ F' = F1 ∨ e0 = 0) ∧ ∃ T' s', BkI N F' L' T' (k + 1) ∧ (∀ u ∈ L', (Lit.int .i64 u.id).wf = true) ∧ fndS id L' = some s' ∧ ∀ e F'' M, FreeO F' L' [id] e F'' M → e = 0 ∧ F'' = F ∧ M = L)
theorem cut_back {N : Int} {F F1 F' : List StepD} {L L' : List SlotD} {T T1 : List Int} {k : Nat} {s : SlotD} {to e0 : Int} (hI0 : BkI N F L T k) (hI : BkI N F1 (insS s L) T1 (k + 1)) (hwf : ∀ u ∈ insS s L, (Lit.int .i64 u.id).wf = true) (hn : fndS s.id L = none) (hs0 : 0 < s.id) (hv1 : ∀ t, 0 ≤ t → valF 0 F1 t = valF 0 F t + inW s.fm s.to (-s.nd) t)
    (h : CutO F1 (insS s L) s.id to e0 F' L') : BackO N F L s.id e0 (k + 1) F1 F' L' := by
  have hf : fndS s.id (insS s L) = some s := by rw [fnd_ins hI0.rise hs0 hn, if_pos rfl]
  have hrem : remS s.id (insS s L) = L := rem_ins rfl hI0.rise hs0 hn
  rcases h with ⟨q, _⟩ | ⟨u, q, _, q2, rfl, rfl⟩ | ⟨u, q, _, _, q1, q2, hP, hv, hL⟩ | ⟨u, q, _, q1, q2, q3, hP, hv, hL⟩
  · rw [hf] at q; cases q
  · refine Or.inr ⟨Or.inl ⟨q2, rfl⟩, T1, s, hI.up, hwf, hf, fun e F'' M hfo => free_back hI hf hrem hI0.prof (fun t ht => ?_) hfo⟩
    rw [hv1 t ht, inW_neg]; omega
  · rw [hf] at q; injection q with q; subst q
    rw [hrem] at hL
    exact Or.inl ⟨q2, prof_uniq hP hI0.prof fun t ht => by rw [hv t ht, hv1 t ht, inW_neg]; omega, hL⟩
  · rw [hf] at q; injection q with q; subst q
    have hIc := hI.cut hf q2 q1 hP hv
    rw [← hL] at hIc
    rw [hrem] at hL
    have hfs : fndS s.id L' = some ⟨s.id, s.fm, to, s.nd⟩ := by
      rw [hL, fnd_ins (s := ⟨s.id, s.fm, to, s.nd⟩) hI0.rise hs0 hn, if_pos rfl]
    refine Or.inr ⟨Or.inr q3, _, _, hIc, ?_, hfs, fun e F'' M hfo => free_back hIc hfs (by rw [hL]; exact rem_ins (s := ⟨s.id, s.fm, to, s.nd⟩) rfl hI0.rise hs0 hn) hI0.prof (fun t ht => ?_) hfo⟩
    · rw [hL]
      intro u hu
      rcases mem_ins.1 hu with rfl | hu
      · exact hwf s (mem_ins.2 (Or.inl rfl))
      · exact hwf u (mem_ins.2 (Or.inr hu))
    · rw [hv t ht, hv1 t ht, inW_neg]
      show valF 0 F t + -inW s.fm s.to s.nd t + inW to s.to s.nd t + inW s.fm to s.nd t = valF 0 F t
      unfold inW
      by_cases c1 : to ≤ t ∧ t < s.to
      · rw [if_pos c1, if_pos (by omega), if_neg (by omega)]; omega
      · rw [if_neg c1]
        by_cases c2 : s.fm ≤ t ∧ t < to
        · rw [if_pos c2, if_pos (by omega)]; omega
        · rw [if_neg c2, if_neg (by omega)]; omega
end Go.Proofs.Ytapojmniokdjfaa.Bk

