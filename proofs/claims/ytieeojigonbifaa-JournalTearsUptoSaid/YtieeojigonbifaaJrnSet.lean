/- One byte of a row that the call made is another one. -/
import Derived.Test.YtieeojigonbifaaJrnOpen
namespace Go.Proofs.Ytieeojigonbifaa
open Go.RowKit
set_option linter.unusedVariables false

theorem xor_bd {a b : Int} (ha : 0 ≤ a ∧ a ≤ 255) (hb : 0 ≤ b ∧ b ≤ 255) : 0 ≤ bits .xor .u8 a b ∧ bits .xor .u8 a b ≤ 255 := by
  rw [u8_xor a b ha.1 (by omega) hb.1 (by omega)]
  have := Nat.xor_lt_two_pow (n := 8) (x := a.toNat) (y := b.toNat) (by omega) (by omega)
  omega
theorem xor_ne {a b : Int} (ha : 0 ≤ a ∧ a ≤ 255) (hb : 0 ≤ b ∧ b ≤ 255) (h0 : b ≠ 0) : bits .xor .u8 a b ≠ a := by
  rw [u8_xor a b ha.1 (by omega) hb.1 (by omega)]
  intro e
  have e1 : a.toNat ^^^ b.toNat = a.toNat := by omega
  have e2 : a.toNat ^^^ (a.toNat ^^^ b.toNat) = b.toNat := by rw [← Nat.xor_assoc, Nat.xor_self, Nat.zero_xor]
  rw [e1, Nat.xor_self] at e2
  omega

theorem own_at {w : World} {base n c k : Nat} {A : Option Addr} {xs : List Int} {x : Int} (h : OwnB w base (.slice A n c) xs) (hk : xs[k]? = some x) :
    ∃ g off, A = some ⟨g, off, none⟩ ∧ base ≤ g ∧ g < w.heap.size ∧ n = xs.length ∧ w.cell? ⟨g, off + k, none⟩ = some (.int .u8 x) ∧ w.frozen? ⟨g, off + k, none⟩ = false ∧ 0 ≤ x ∧ x ≤ 255 ∧
      (∀ y, 0 ≤ y ∧ y ≤ 255 → OwnB (w.setCell ⟨g, off + k, none⟩ (.int .u8 y)) base (.slice A n c) (xs.set k y)) := by
  obtain ⟨A9, c9, e9, hB⟩ := h.byts
  have hk' := hk
  have hw := h
  rcases h.1.2 with ⟨hv, hn⟩ | ⟨g, cap, cur, hv, hbg, hh, hnc, hcm, hcs, htake⟩
  · have : xs = [] := List.eq_nil_of_length_eq_zero hn
    subst this
    simp at hk
  · injection hv with ea eb ec
    subst ea eb ec
    injection e9 with ea eb ec
    subst ea ec
    obtain ⟨b, off, e, _, hc, h1, h2⟩ := hB.cells k x hk
    injection e with e
    injection e with e1 e2
    subst e1 e2
    refine ⟨g, 0, rfl, hbg, blk_lt hh, rfl, hc, ?_, h1, h2, fun y hy => ?_⟩
    · rw [Nat.zero_add]; exact hw.1.frozenAt k
    · rw [Nat.zero_add]
      have hs := (hw.1.stored k (.int .u8 y)).1
      refine ⟨?_, fun z hz => ?_⟩
      · rw [List.length_set, List.map_set]; exact hs
      · rcases List.mem_or_eq_of_mem_set hz with hz | rfl
        · exact hw.2 z hz
        · exact hy
theorem getElem_some {α : Type} {l : List α} {k : Nat} (h : k < l.length) : ∃ x, l[k]? = some x := ⟨l[k], List.getElem?_eq_getElem h⟩
theorem emod_nat {a : Int} {n : Nat} (hn : 0 < n) : ∃ k : Nat, a % (n : Int) = (k : Int) ∧ k < n := by
  have h0 := Int.emod_nonneg a (b := (n : Int)) (by omega)
  have h1 := Int.emod_lt_of_pos a (b := (n : Int)) (by omega)
  exact ⟨(a % (n : Int)).toNat, by omega, by omega⟩
theorem recs_of {ls : List (List Int)} (hb : ∀ xs ∈ ls, Bts xs) (h : sz ls ≤ 65536) : Recs ls := by
  intro x hx
  refine ⟨hb x hx, ?_⟩
  induction ls with
  | nil => cases hx
  | cons y l ih =>
    simp only [sz] at h
    rcases List.mem_cons.1 hx with rfl | hx
    · omega
    · exact ih (fun z hz => hb z (by simp [hz])) (by omega) hx

end Go.Proofs.Ytieeojigonbifaa
