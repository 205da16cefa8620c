/- Of the document's: Far. -/
import Derived.Test.YtaokbjacfdipmaaDoorDagRReach
import Derived.Test.YtaokbjacfdipmaaDoorDagRef2
namespace Go.Proofs.YtaokbjacfdipmaaDoor
open Go.RowKit
set_option linter.unusedVariables false

/-- does it count for u that v is among them -/
def hit (n : Nat) (R : Nat → Nat → Bool) (ab : Bool) (u : Nat) (v : Int) : Bool := decide (0 ≤ v ∧ v < (n : Int)) && (if ab then R v.toNat u else R u v.toNat)
def hits (n : Nat) (R : Nat → Nat → Bool) (ab : Bool) (l : List Int) (u : Nat) : Bool := l.any (hit n R ab u)
theorem any_snoc (l : List Int) (p : Int → Bool) (x : Int) : (l ++ [x]).any p = (l.any p || p x) := by simp
def FarB (E : List (List Int)) (l : List Int) (ab : Bool) (u : Nat) : Prop := ∃ s : Nat, s < E.length ∧ (s : Int) ∈ l ∧ (if ab then Plus (arc E) s u else Plus (arc E) u s)
theorem hits_iff {E : List (List Int)} {R : Nat → Nat → Bool} (hR : ∀ v u, v < E.length → u < E.length → (R v u = true ↔ Plus (arc E) v u)) (l : List Int) (ab : Bool) {u : Nat} (hu : u < E.length) : hits E.length R ab l u = true ↔ FarB E l ab u := by
  unfold hits FarB hit
  rw [List.any_eq_true]
  constructor
  · rintro ⟨x, hx, h⟩
    rw [Bool.and_eq_true, decide_eq_true_eq] at h
    obtain ⟨⟨h1, h2⟩, h3⟩ := h
    have e : ((x.toNat : Nat) : Int) = x := by omega
    refine ⟨x.toNat, by omega, by rw [e]; exact hx, ?_⟩
    cases ab with
    | true => exact (hR _ _ (by omega) hu).1 h3
    | false => exact (hR _ _ hu (by omega)).1 h3
  · rintro ⟨s, h1, h2, h3⟩
    refine ⟨(s : Int), h2, ?_⟩
    rw [Bool.and_eq_true, decide_eq_true_eq, Int.toNat_natCast]
    refine ⟨by omega, ?_⟩
    cases ab with
    | true => exact (hR _ _ h1 hu).2 h3
    | false => exact (hR _ _ hu h1).2 h3

set_option maxRecDepth 100000 in
set_option maxHeartbeats 4000000 in
theorem rfar_any (E : List (List Int)) (l : List Int) (nl : Nat) (hel : l.length = nl) (ab : Bool) (w : World) (A Al : Option Addr) (c cl : Nat) (h : IRows w A c E) (h2 : Ints w Al cl l) (hn : E.length ≤ 30) (hE : Valid E) :
    Calls Tryd.prog 18 #[.slice A E.length c, .slice Al nl cl, .bool ab] w (RetP w E.length (FarB E l ab)) := by
  subst hel
  have hlm : l.length ≤ 9223372036854775807 := Nat.le_trans h2.len (by have := Sl.top h2; simpa [maxLen] using this)
  have H := Lib.hid h; have H2 := Lib.hid h2; have HE := Lib.hid hE
  clear h h2 hE
  go_enter Tryd.func18, Tryd.ntmps18
  go_wp2_with fail
  refine (rreach_any E _ _ _ H.out hn HE.out).mono ?_
  rintro e w1 ⟨R, Ar, cr, vs, rfl, ht, hR, hb1⟩
  have HT := Lib.hid ht; have HR := Lib.hid hR; have HB1 := Lib.hid hb1
  clear ht hR hb1
  have hw1 := HB1.out.size
  go_wp2_with fail
  go_loopw [8, 9] (fun o i wr => ∃ (u : Nat) (Ao : Option Addr) (co : Nat), u ≤ E.length ∧ i = .int .i64 u ∧ o = .slice Ao (num ((List.range u).filter (hits E.length R ab l))).length co ∧ Hid (OwnI wr w1.heap.size o (num ((List.range u).filter (hits E.length R ab l)))) ∧ Hid (Below w1.heap.size w1 wr)) (fun _ i _ => E.length - (intOf i).toNat)
  case atStart => exact ⟨0, none, 0, Nat.zero_le _, rfl, rfl, Lib.hid (Own1.nil _ _ _), Lib.hid (Below.refl _ _)⟩
  case round =>
    obtain ⟨u, Ao, co, hu, rfl, rfl, HO, HB⟩ := hrel
    obtain ⟨L, hL⟩ : ∃ L, num ((List.range u).filter (hits E.length R ab l)) = L := ⟨_, rfl⟩
    have hLl : L.length ≤ 30 := by rw [← hL]; exact Nat.le_trans (filter_len _ u) (by omega)
    have hls := filter_succ (hits E.length R ab l) u
    rw [hL] at hls
    rw [hL] at HO
    have HL := Lib.hid hL
    have HLS := Lib.hid hls
    rw [hL]
    clear hL hls
    by_cases hul : u < E.length
    · go_wp2_with fail
      go_loop [10, 11] (fun s i => ∃ (j : Nat), j ≤ l.length ∧ i = .int .i64 j ∧ s = .bool ((l.take j).any (hit E.length R ab u))) (fun _ i => l.length - (intOf i).toNat)
      case atStart => exact ⟨0, Nat.zero_le _, rfl, by simp⟩
      case round =>
        obtain ⟨j, hj, rfl, rfl⟩ := hrel
        obtain ⟨s, hs⟩ : ∃ s, (l.take j).any (hit E.length R ab u) = s := ⟨_, rfl⟩
        have HS := Lib.hid hs
        rw [hs]
        clear hs
        by_cases hjl : j < l.length
        · obtain ⟨b, off, x, rfl, hx, hc0⟩ := H2.out.at_ hjl
          have hc := ((blw HB1.out HB.out).cell (p := ⟨b, off + j, none⟩) (World.block_lt_of_cell? w _ hc0)).trans hc0
          have HX : Hid ((l.take (j + 1)).any (hit E.length R ab u) = (s || hit E.length R ab u x)) := Lib.hid (by rw [take_succ_some hx, any_snoc, HS.out])
          clear hx hc0
          by_cases hv : 0 ≤ x ∧ x < (E.length : Int)
          · obtain ⟨v, rfl⟩ : ∃ v : Nat, x = (v : Int) := ⟨x.toNat, by omega⟩
            have hvl : v < E.length := by omega
            have ht := HT.out.below HB.out
            obtain ⟨g, Av, cv, eA, _, _, hvv, cvv, _, hov⟩ := ht.row (rowsB_get R hvl)
            subst eA
            rw [rowB_len] at cvv hvv hov
            obtain ⟨gv, eAv, _, _, cvu, _⟩ := Own1.at_ hov (rowB_get _ hul)
            subst eAv
            obtain ⟨g2, Au, cu, eA2, _, _, huu, cuu, _, hou⟩ := ht.row (rowsB_get R hul)
            injection eA2 with eA2
            injection eA2 with eA2
            subst eA2
            rw [rowB_len] at cuu huu hou
            obtain ⟨gu, eAu, _, _, cuv, _⟩ := Own1.at_ hou (rowB_get _ hvl)
            subst eAu
            have HH : Hid (hit E.length R ab u (v : Int) = if ab then R v u else R u v) := Lib.hid (by unfold hit; rw [decide_eq_true hv, Bool.true_and, Int.toNat_natCast])
            clear hv ht hvv hov huu hou
            cases ab with
            | true =>
              obtain ⟨r, hr⟩ : ∃ r, R v u = r := ⟨_, rfl⟩
              rw [hr] at cvu
              have HR1 : Hid (hit E.length R true u (v : Int) = r) := Lib.hid (by rw [HH.out]; exact hr)
              clear hr HH cuv
              cases s with
              | true =>
                go_wp2_with fail
                go_round
                case rel => exact ⟨j + 1, by omega, by go_num, by rw [HX.out]; rfl⟩
                case measure => simp [intOf]; omega
              | false =>
                cases r with
                | true =>
                  go_wp2_with fail
                  go_round
                  case rel => exact ⟨j + 1, by omega, by go_num, by rw [HX.out, HR1.out]; rfl⟩
                  case measure => simp [intOf]; omega
                | false =>
                  go_wp2_with fail
                  go_round
                  case rel => exact ⟨j + 1, by omega, by go_num, by rw [HX.out, HR1.out]; rfl⟩
                  case measure => simp [intOf]; omega
            | false =>
              obtain ⟨r, hr⟩ : ∃ r, R u v = r := ⟨_, rfl⟩
              rw [hr] at cuv
              have HR1 : Hid (hit E.length R false u (v : Int) = r) := Lib.hid (by rw [HH.out]; exact hr)
              clear hr HH cvu
              cases s with
              | true =>
                go_wp2_with fail
                go_round
                case rel => exact ⟨j + 1, by omega, by go_num, by rw [HX.out]; rfl⟩
                case measure => simp [intOf]; omega
              | false =>
                cases r with
                | true =>
                  go_wp2_with fail
                  go_round
                  case rel => exact ⟨j + 1, by omega, by go_num, by rw [HX.out, HR1.out]; rfl⟩
                  case measure => simp [intOf]; omega
                | false =>
                  go_wp2_with fail
                  go_round
                  case rel => exact ⟨j + 1, by omega, by go_num, by rw [HX.out, HR1.out]; rfl⟩
                  case measure => simp [intOf]; omega
          · have HH : Hid (hit E.length R ab u x = false) := Lib.hid (by unfold hit; rw [decide_eq_false hv]; rfl)
            by_cases h0 : x < 0
            · clear hv
              go_wp2_with fail
              go_round
              case rel => exact ⟨j + 1, by omega, by go_num, by rw [HX.out, HH.out, Bool.or_false]⟩
              case measure => simp [intOf]; omega
            · have h1 : (E.length : Int) ≤ x := by omega
              have h0' : 0 ≤ x := by omega
              have hd : decide (x < (E.length : Int)) = false := decide_eq_false (by omega)
              clear hv h0
              go_wp2_with fail
              go_round
              case rel => exact ⟨j + 1, by omega, by go_num, by rw [HX.out, HH.out, Bool.or_false]⟩
              case measure => simp [intOf]; omega
        · obtain rfl : j = l.length := by omega
          have HP : Hid (hits E.length R ab l u = s) := Lib.hid (by have := HS.out; rw [List.take_length] at this; exact this)
          rw [HP.out] at HLS
          have hsz := HB.out.size
          cases s with
          | true =>
            go_wp2_with (at_builtin; refine wpList_appg rfl _ _ 30 3 (.int .i64 0) 8 Tryd.underlying30 info_int rfl (by decide) rfl w1.heap.size (.slice Ao L.length co) (ints L) rfl (Own1.below HO.out ((Below.refl _ _).alloc (Nat.le_refl _) _)) (some ⟨wr.heap.size, 0, none⟩) 1 1 [.int .i64 (u : Int)] rfl rfl (Sl.one rfl) (by simp [Value.oneCell']) (by rw [ints_len]; simp; omega) (by simp; omega) ?_; intro l9 A9 c9 w9 el ho9 _ _ hbl9; have HO9 := Lib.hid ho9; have HBL := Lib.hid ((HB.out.alloc hsz _).trans hbl9); have EL := Lib.hid el; clear ho9 hbl9 el)
            go_roundw
            case rel =>
              have el : l9 = ints (L ++ [(u : Int)]) := by rw [EL.out, ints_app]; rfl
              have hl9 : l9.length = (num ((List.range (u + 1)).filter (hits E.length R ab l))).length := by rw [HLS.out, el, ints_len]; simp
              refine ⟨u + 1, A9, c9, by omega, by go_num, by rw [hl9], Lib.hid ?_, HBL⟩
              rw [HLS.out]
              simp only [if_true]
              have := HO9.out
              rw [el] at this ⊢
              exact this
            case measure => simp [intOf]; omega
          | false =>
            go_wp2_with fail
            go_roundw
            case rel =>
              have hl9 : num ((List.range (u + 1)).filter (hits E.length R ab l)) = L := by rw [HLS.out]; simp
              exact ⟨u + 1, Ao, co, by omega, by go_num, by rw [hl9], Lib.hid (by rw [hl9]; exact HO.out), HB⟩
            case measure => simp [intOf]; omega
    · obtain rfl : u = E.length := by omega
      go_wp2
      go_ret
      refine ⟨hits E.length R ab l, Ao, co, fun u hu => hits_iff HR.out l ab hu, ?_, ?_, blw HB1.out HB.out⟩
      · rw [HL.out]; rfl
      · have := (OwnI.ints' HO.out).2
        rw [← HL.out] at this
        exact this

end Go.Proofs.YtaokbjacfdipmaaDoor
