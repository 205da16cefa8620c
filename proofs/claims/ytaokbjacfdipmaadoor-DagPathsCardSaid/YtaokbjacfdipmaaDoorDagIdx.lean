/- slices.IndexFunc with Path's closure. -/
import Derived.Test.YtaokbjacfdipmaaDoorDagDist
namespace Go.Proofs.YtaokbjacfdipmaaDoor
open Go.RowKit
set_option linter.unusedVariables false

set_option maxHeartbeats 1600000 in
theorem clos_any (F : List Int) (n : Nat) (hF : F.length = n) (hn : n ≤ 30) (u v : Nat) (a b : Int) (hu : F[u]? = some a) (hv : F[v]? = some b) (hb : -1 ≤ b ∧ b ≤ 30) (w : World) (Af : Option Addr) (cf : Nat) (hI : Ints w Af cf F) (b7 b4 : Nat)
    (h7 : w.cell? ⟨b7, 0, none⟩ = some (.slice Af n cf)) (h4 : w.cell? ⟨b4, 0, none⟩ = some (.int .i64 (v : Int))) (r : Bool) (hr : (a == b - 1) = r) :
    Calls Tryd.prog 44 #[.int .i64 (u : Int), .pointer (some ⟨b7, 0, none⟩), .pointer (some ⟨b4, 0, none⟩)] w fun e w' => e = .returned (.bool r) ∧ ∃ q, w' = w.drewN q := by
  have hul : u < F.length := (List.getElem?_eq_some_iff.1 hu).1
  have hvl : v < F.length := (List.getElem?_eq_some_iff.1 hv).1
  obtain ⟨bf, off, x, rfl, hx, hcu⟩ := hI.at_ hul
  rw [hu] at hx; injection hx with hx; subst hx
  obtain ⟨bf', off', y, e, hy, hcv⟩ := hI.at_ hvl
  injection e with e; injection e with e1 e2; subst e1 e2
  rw [hv] at hy; injection hy with hy; subst hy
  have hw1 : IntKind.i64.wrap (b - 1) = b - 1 := by rw [IntKind.wrap_i64]; omega
  have hun : (u : Int) < (n : Int) := by omega
  have hvn : (v : Int) < (n : Int) := by omega
  clear hI hu hv
  go_enter Tryd.func44, Tryd.ntmps44
  go_wp2
  go_quiet (fail)
  go_wp2
  go_ret
  exact ⟨rfl, _, rfl⟩

set_option maxHeartbeats 1600000 in
theorem idx_any (F : List Int) (n : Nat) (hF : F.length = n) (hn : n ≤ 30) (v : Nat) (b : Int) (hv : F[v]? = some b) (hb : -1 ≤ b ∧ b ≤ 30) (L : List Nat) (hL : ∀ u ∈ L, u < n) (k x : Nat) (hk : L[k]? = some x)
    (hx : F[x]? = some (b - 1)) (hlt : ∀ j u, j < k → L[j]? = some u → F[u]? ≠ some (b - 1))
    (w : World) (Af : Option Addr) (cf : Nat) (hI : Ints w Af cf F) (Ar : Option Addr) (m cr : Nat) (hm : L.length = m) (hR : Ints w Ar cr (num L)) (b7 b4 : Nat) (h7 : w.cell? ⟨b7, 0, none⟩ = some (.slice Af n cf)) (h4 : w.cell? ⟨b4, 0, none⟩ = some (.int .i64 (v : Int))) :
    Calls Tryd.prog 43 #[.slice Ar m cr, .func (.func 44) #[] #[.pointer (some ⟨b7, 0, none⟩), .pointer (some ⟨b4, 0, none⟩)]] w fun e w' => e = .returned (.int .i64 (k : Int)) ∧ ∃ q, w' = w.drewN q := by
  subst hm
  have hkl : k < L.length := (List.getElem?_eq_some_iff.1 hk).1
  have hlm : L.length ≤ 9223372036854775807 := by
    have := hR.len
    rw [num_len] at this
    exact Nat.le_trans this (by have := Sl.top hR; simpa [maxLen] using this)
  have HI := Lib.hid hI; have HR := Lib.hid hR
  have C := Lib.hid (fun (q u : Nat) (a : Int) (hu : F[u]? = some a) (r : Bool) (hr : (a == b - 1) = r) => clos_any F n hF hn u v a b hu hv hb (w.drewN q) Af cf (hI.below (below_drew w q)) b7 b4 (((below_drew w q).cell (World.block_lt_of_cell? w _ h7)).trans h7) (((below_drew w q).cell (World.block_lt_of_cell? w _ h4)).trans h4) r hr)
  have HL := Lib.hid hL; have HK := Lib.hid hk; have HX := Lib.hid hx; have HLT := Lib.hid hlt
  have HFL := Lib.hid hF
  clear hI hR hL hk hx hlt h7 h4 hv hF
  go_enter Tryd.func43, Tryd.ntmps43
  go_wp2
  go_loopw [8] (fun i wr => ∃ j : Nat, j ≤ k ∧ i = .int .i64 j ∧ ∃ q, wr = w.drewN q) (fun i _ => L.length - (intOf i).toNat)
  case atStart => exact ⟨0, Nat.zero_le _, rfl, 0, rfl⟩
  case round =>
    obtain ⟨j, hj, rfl, q, rfl⟩ := hrel
    obtain ⟨u, hu⟩ : ∃ u, L[j]? = some u := ⟨_, List.getElem?_eq_getElem (by omega)⟩
    have hul := HL.out u (List.mem_of_getElem? hu)
    obtain ⟨a, ha⟩ : ∃ a, F[u]? = some a := ⟨_, List.getElem?_eq_getElem (by rw [HFL.out]; exact hul)⟩
    obtain ⟨b3, off3, y, rfl, hy, hc0⟩ := HR.out.at_ (k := j) (by rw [num_len]; omega)
    have hc := ((below_drew w q).cell (p := ⟨b3, off3 + j, none⟩) (World.block_lt_of_cell? w _ hc0)).trans hc0
    rw [num_get, hu] at hy
    injection hy with hy
    subst hy
    by_cases hjk : j = k
    · subst hjk
      have hux : u = x := by have := HK.out; rw [hu] at this; injection this
      subst hux
      have hab : (a == b - 1) = true := by
        have := HX.out; rw [ha] at this; injection this with this; rw [this]; simp
      have c1 := C.out q u a ha true hab
      have C1 := Lib.hid c1
      clear hu ha hab c1 hc0
      go_wp2_with fail
      refine C1.out.mono ?_
      rintro e w2 ⟨rfl, q2, rfl⟩
      go_wp2
      go_ret
      exact ⟨rfl, _, rfl⟩
    · have hab : (a == b - 1) = false := by
        rw [beq_eq_false_iff_ne]
        intro e
        subst e
        exact HLT.out j u (by omega) hu ha
      have c1 := C.out q u a ha false hab
      have C1 := Lib.hid c1
      clear hu ha hab c1 hc0
      go_wp2_with fail
      refine C1.out.mono ?_
      rintro e w2 ⟨rfl, q2, rfl⟩
      go_wp2
      go_roundw
      case rel => exact ⟨j + 1, by omega, by go_num, _, rfl⟩
      case measure => simp [intOf]; omega

end Go.Proofs.YtaokbjacfdipmaaDoor
