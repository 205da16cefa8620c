/- Rows turned round: reverse. -/
import Derived.Test.YtaokbjacfdipmaaDoorDagRev
import Derived.Test.YtaokbjacfdipmaaDoorDagOrd
namespace Go.Proofs.YtaokbjacfdipmaaDoor
open Go.RowKit
set_option linter.unusedVariables false

def rowsV (n : Nat) (f : Nat → List Nat) : List (List Value) := (List.range n).map fun w => ints (num (f w))
theorem rowsV_get {n w : Nat} (f : Nat → List Nat) (h : w < n) : (rowsV n f)[w]? = some (ints (num (f w))) := range_map_get _ h
theorem rowsV_set {n w : Nat} {f g : Nat → List Nat} (hw : w < n) (h : ∀ i, i < n → i ≠ w → g i = f i) : (rowsV n f).set w (ints (num (g w))) = rowsV n g :=
  range_map_set hw rfl fun i hi hne => by rw [h i hi hne]
theorem rowsV_congr {n : Nat} {f g : Nat → List Nat} (h : ∀ i, i < n → f i = g i) : rowsV n f = rowsV n g :=
  List.map_congr_left fun i hi => by rw [h i (by simpa using hi)]
def revA (E : List (List Int)) (k w : Nat) : List Nat := (List.range k).filter fun v => arc E v w
def revM (E : List (List Int)) (k j w : Nat) : List Nat := revA E k w ++ if (w : Int) ∈ (row E k).take j then [k] else []
theorem revA_lt {E : List (List Int)} {k w v : Nat} (h : v ∈ revA E k w) : v < k := filter_range_lt h
theorem revM_zero (E : List (List Int)) (k : Nat) : revM E k 0 = revA E k := by funext w; simp [revM]
theorem revM_end (E : List (List Int)) (k : Nat) : revM E k (row E k).length = revA E (k + 1) := by
  funext w
  unfold revM revA
  rw [List.take_length, List.range_succ, List.filter_append]
  congr 1
  by_cases h : (w : Int) ∈ row E k
  · have : arc E k w = true := arc_iff.2 h
    simp [h, this]
  · have : arc E k w = false := by rw [Bool.eq_false_iff]; intro e; exact h (arc_iff.1 e)
    simp [h, this]
theorem revA_end (E : List (List Int)) (n : Nat) (hn : n = E.length) : revA E n = behL E := by subst hn; rfl
theorem revM_in {E : List (List Int)} {k j u : Nat} (hx : (row E k)[j]? = some (u : Int)) (hu : (u : Int) ∈ (row E k).take j) : revM E k (j + 1) = revM E k j := by
  funext w
  unfold revM
  rw [take_succ_some hx]
  by_cases e : w = u
  · subst e; simp [hu]
  · have : ¬ ((w : Int) = (u : Int)) := by omega
    simp [this]
theorem revM_out {E : List (List Int)} {k j u : Nat} (hx : (row E k)[j]? = some (u : Int)) (hu : (u : Int) ∉ (row E k).take j) : revM E k (j + 1) u = revM E k j u ++ [k] ∧ ∀ i, i ≠ u → revM E k (j + 1) i = revM E k j i := by
  constructor
  · unfold revM
    rw [take_succ_some hx]
    simp [hu]
  · intro i hi
    unfold revM
    rw [take_succ_some hx]
    have : ¬ ((i : Int) = (u : Int)) := by omega
    simp [this]

theorem ints_get1 (x : Int) : ints [x] = [.int .i64 x] := rfl
theorem num_one (k : Nat) : num [k] = [(k : Int)] := rfl
def RetT (w : World) (n : Nat) (rows : List (List Value)) (e : Ending) (w' : World) : Prop := ∃ A c vs, e = .returned (.slice A n c) ∧ Tbl w' w.heap.size 30 3 (.slice A n c) vs rows ∧ Below w.heap.size w w'

set_option maxRecDepth 100000 in
set_option maxHeartbeats 3200000 in
theorem reverse_any (E : List (List Int)) (w : World) (A : Option Addr) (c : Nat) (h : IRows w A c E) (hn : E.length ≤ 30) (hE : Valid E) (hlen : ∀ l ∈ E, l.length ≤ 1000) :
    Calls Tryd.prog 31 #[.slice A E.length c] w (RetT w E.length (rowsV E.length (behL E))) := by
  have H := Lib.hid h; clear h
  have HE := Lib.hid hE; clear hE
  have HL := Lib.hid hlen; clear hlen
  have hmk := fun W : World => run_mk W 22 30 _ 24 Tryd.underlying22 info_is rfl (by decide) E.length (by omega) _ _ rfl rfl
  go_enter Tryd.func31, Tryd.ntmps31
  go_wp2
  have hbm : Below w.heap.size w (w.alloc (.cells (Array.replicate E.length (.slice none 0 0)) 30)) := (Below.refl _ _).alloc (Nat.le_refl _) _
  have htm := Tbl.make (w := w) (base := w.heap.size) (t := 30) (e := 3) (Nat.le_refl _) E.length (by omega) rfl
  have h0 : List.replicate E.length ([] : List Value) = rowsV E.length (revA E 0) := by
    unfold rowsV
    apply List.ext_getElem?
    intro i
    rcases Nat.lt_or_ge i E.length with hi | hi
    · rw [range_map_get _ hi, List.getElem?_replicate, if_pos hi]; rfl
    · rw [List.getElem?_eq_none (by simpa using hi), List.getElem?_eq_none (by simpa using hi)]
  rw [h0] at htm
  have HBM := Lib.hid hbm
  have HTM := Lib.hid htm
  clear hbm htm h0 hmk
  generalize w.alloc (.cells (Array.replicate E.length (.slice none 0 0)) 30) = W0 at HBM HTM ⊢
  generalize eg : w.heap.size = g at HTM ⊢
  have HG := Lib.hid eg
  clear eg
  go_loopw [14] (fun i wr => ∃ (k : Nat) (vs : List Value), k ≤ E.length ∧ i = .int .i64 k ∧ Hid (Tbl wr g 30 3 (.slice (some ⟨g, 0, none⟩) E.length E.length) vs (rowsV E.length (revA E k))) ∧ Hid (Below w.heap.size w wr)) (fun i _ => E.length - (intOf i).toNat)
  case atStart => exact ⟨0, _, Nat.zero_le _, rfl, HTM, HBM⟩
  case round =>
    obtain ⟨k, vs, hk, rfl, HT, HB⟩ := hrel
    by_cases hlt : k < E.length
    · obtain ⟨b, off, A', c', xs, rfl, hx, hc0, hi⟩ := H.out.at_ hlt
      have hc := (HB.out.cell (p := ⟨b, off + k, none⟩) (World.block_lt_of_cell? w _ hc0)).trans hc0
      have hxr := row_some hx
      have hxl := HL.out xs (List.mem_of_getElem? hx)
      subst hxr
      have HI := Lib.hid hi
      clear hx hi hc0
      go_wp2
      go_loopw [21] (fun i wq => ∃ (j : Nat) (vs : List Value), j ≤ (row E k).length ∧ i = .int .i64 j ∧ Hid (Tbl wq g 30 3 (.slice (some ⟨g, 0, none⟩) E.length E.length) vs (rowsV E.length (revM E k j))) ∧ Hid (Below w.heap.size w wq)) (fun i _ => (row E k).length - (intOf i).toNat)
      case atStart => exact ⟨0, vs, Nat.zero_le _, rfl, by rw [revM_zero]; exact HT, HB⟩
      case round =>
        obtain ⟨j, vs2, hj, rfl, HT2, HB2⟩ := hrel
        by_cases hjl : j < (row E k).length
        · obtain ⟨b2, off2, y, rfl, hy, hcy0⟩ := HI.out.at_ hjl
          have hcy := (HB2.out.cell (p := ⟨b2, off2 + j, none⟩) (World.block_lt_of_cell? w _ hcy0)).trans hcy0
          obtain ⟨u, rfl, hul, _⟩ := HE.out.at_ (List.mem_of_getElem? hy)
          obtain ⟨g', A2, c2, eg, _, hglt, hvu, hcu, hfu, hou⟩ := HT2.out.row (rowsV_get _ hul)
          injection eg with eg
          injection eg with eg
          subst eg
          obtain ⟨R, hR⟩ : ∃ R, revM E k j u = R := ⟨_, rfl⟩
          rw [hR] at hou hcu hvu
          rw [ints_len, num_len] at hcu hvu hou
          have HY := Lib.hid hy
          have HVU := Lib.hid hvu
          have HOU := Lib.hid hou
          have hRl : R.length ≤ 31 := by
            rw [← hR]
            unfold revM revA
            have h1 := List.length_filter_le (fun v => arc E v u) (List.range k)
            rw [List.length_append]
            simp only [List.length_range] at h1
            split <;> simp <;> omega
          clear hy hcy0 hvu hou
          by_cases hin : (u : Int) ∈ (row E k).take j
          · have e1 : R = revA E k u ++ [k] := by rw [← hR]; simp [revM, hin]
            obtain ⟨q, hq⟩ : ∃ q, (revA E k u).length = q := ⟨_, rfl⟩
            have e2 : R.length = q + 1 := by rw [e1]; simp [hq]
            have e3 : (ints (num R))[q]? = some (.int .i64 (k : Int)) := by
              rw [e1, num_app]
              refine ints_get ?_
              rw [List.getElem?_append_right (by rw [num_len]; omega), num_len, hq]
              simp [num]
            obtain ⟨g3, eg3, _, _, hcl, _⟩ := Own1.at_ HOU.out e3
            subst eg3
            rw [e2] at hcu
            have hIN := Lib.hid hin
            have HR3 := Lib.hid hR
            have HQ := Lib.hid e2
            have hqb : q ≤ 30 := by omega
            clear e1 e2 e3 hq hin hR
            have hqz : ((q : Int) + 1 == 0) = false := by rw [beq_eq_false_iff_ne]; omega
            go_wp2
            go_roundw
            case rel => exact ⟨j + 1, vs2, by omega, by go_num, by rw [revM_in HY.out hIN.out]; exact HT2, HB2⟩
            case measure => simp [intOf]; omega
          · obtain ⟨er1, er2⟩ := revM_out HY.out hin
            rw [hR] at er1
            have ER1 := Lib.hid er1
            have ER2 := Lib.hid er2
            have e1 : R = revA E k u := by rw [← hR]; simp [revM, hin]
            have E1 := Lib.hid e1
            have HR3 := Lib.hid hR
            clear er1 er2 e1 hin hR
            by_cases hR0 : R.length = 0
            · have hR0' : (R.length : Int) = 0 := by omega
              have HR0 := Lib.hid hR0
              have HVU0 : Hid (vs2[u]? = some (.slice A2 0 c2)) := Lib.hid (by rw [← HR0.out]; exact HVU.out)
              rw [hR0] at hcu
              clear hR0 hR0'
              go_wp2_with (at_builtin; refine wpList_appg rfl _ _ 30 3 (.int .i64 0) 8 Tryd.underlying30 info_int rfl (by decide) rfl g (.slice A2 0 c2) (ints (num R)) rfl (by have h9 := HOU.out; rw [HR0.out] at h9; exact h9.below ((Below.refl _ _).alloc (Nat.le_refl _) _)) (some ⟨wr.heap.size, 0, none⟩) 1 1 [.int .i64 (k : Int)] rfl rfl (Sl.one rfl) (by simp [Value.oneCell']) (by rw [ints_len, num_len]; simp; omega) (by simp; omega) ?_; intro l A9 c9 w9 el ho9 hg9 hb9 _; obtain ⟨htb, hcg, hfg, hbw⟩ := Tbl.appended HT2.out (by decide) HVU0.out hg9 ho9 hb9 (by omega); have HTB := Lib.hid htb; have HBW := Lib.hid hbw; have EL := Lib.hid el; clear htb hbw ho9 hg9 hb9 el)
              go_roundw
              case rel =>
                refine ⟨j + 1, vs2.set u (.slice A9 l.length c9), by omega, by go_num, Lib.hid ?_, Lib.hid (HB2.out.trans (by rw [HG.out]; exact HBW.out))⟩
                have e2 : (rowsV E.length (revM E k j)).set u l = rowsV E.length (revM E k (j + 1)) := by
                  rw [EL.out, ← ints_get1, ← num_one, ← ints_app, ← num_app, ← ER1.out]
                  exact rowsV_set hul fun i _ hi => ER2.out i hi
                rw [← e2]
                exact HTB.out
              case measure => simp [intOf]; omega
            · obtain ⟨q, hq⟩ : ∃ q, R.length = q + 1 := ⟨R.length - 1, by omega⟩
              obtain ⟨y, hy⟩ : ∃ y, R[q]? = some y := ⟨_, List.getElem?_eq_getElem (by omega)⟩
              have hyk : y < k := by rw [E1.out] at hy; exact revA_lt (List.mem_of_getElem? hy)
              have e3 : (ints (num R))[q]? = some (.int .i64 (y : Int)) := ints_get (by rw [num_get, hy]; rfl)
              obtain ⟨g3, eg3, _, _, hcl, _⟩ := Own1.at_ HOU.out e3
              subst eg3
              have hyz : ((y : Int) == (k : Int)) = false := by rw [beq_eq_false_iff_ne]; omega
              have hqz : ((q : Int) + 1 == 0) = false := by rw [beq_eq_false_iff_ne]; omega
              have hqb : q ≤ 30 := by omega
              have HQ := Lib.hid hq
              have HVU0 : Hid (vs2[u]? = some (.slice (some ⟨g3, 0, none⟩) (q + 1) c2)) := Lib.hid (by rw [← HQ.out]; exact HVU.out)
              rw [hq] at hcu
              clear hq hy e3 hR0
              go_wp2_with (at_builtin; refine wpList_appg rfl _ _ 30 3 (.int .i64 0) 8 Tryd.underlying30 info_int rfl (by decide) rfl g (.slice (some ⟨g3, 0, none⟩) (q + 1) c2) (ints (num R)) rfl (by have h9 := HOU.out; rw [HQ.out] at h9; exact h9.below ((Below.refl _ _).alloc (Nat.le_refl _) _)) (some ⟨wr.heap.size, 0, none⟩) 1 1 [.int .i64 (k : Int)] rfl rfl (Sl.one rfl) (by simp [Value.oneCell']) (by rw [ints_len, num_len]; simp; omega) (by simp; omega) ?_; intro l A9 c9 w9 el ho9 hg9 hb9 _; obtain ⟨htb, hcg, hfg, hbw⟩ := Tbl.appended HT2.out (by decide) HVU0.out hg9 ho9 hb9 (by omega); have HTB := Lib.hid htb; have HBW := Lib.hid hbw; have EL := Lib.hid el; clear htb hbw ho9 hg9 hb9 el)
              go_roundw
              case rel =>
                refine ⟨j + 1, vs2.set u (.slice A9 l.length c9), by omega, by go_num, Lib.hid ?_, Lib.hid (HB2.out.trans (by rw [HG.out]; exact HBW.out))⟩
                have e2 : (rowsV E.length (revM E k j)).set u l = rowsV E.length (revM E k (j + 1)) := by
                  rw [EL.out, ← ints_get1, ← num_one, ← ints_app, ← num_app, ← ER1.out]
                  exact rowsV_set hul fun i _ hi => ER2.out i hi
                rw [← e2]
                exact HTB.out
              case measure => simp [intOf]; omega
        · obtain rfl : j = (row E k).length := by omega
          go_wp2
          go_roundw
          case rel => exact ⟨k + 1, vs2, by omega, by go_num, by rw [← revM_end]; exact HT2, HB2⟩
          case measure => simp [intOf]; omega
    · obtain rfl : k = E.length := by omega
      go_wp2
      go_ret
      refine ⟨_, _, vs, rfl, ?_, HB.out⟩
      rw [HG.out]
      have := HT.out
      rw [revA_end E _ rfl] at this
      exact this

end Go.Proofs.YtaokbjacfdipmaaDoor
