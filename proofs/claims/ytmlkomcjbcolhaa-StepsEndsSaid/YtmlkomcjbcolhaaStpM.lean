/- Layer 9: the document's: what is free; the times. -/
import Derived.Test.YtmlkomcjbcolhaaStpC
import Derived.Test.YtmlkomcjbcolhaaStpLed
namespace Go.Proofs.Ytmlkomcjbcolhaa.Stp
open Go.RowKit Go.Shelf
open Dag (Ints Own1 OwnI Sl ints ints_len ints_app ints_get ints_get' ints_one)
set_option linter.unusedVariables false
set_option maxRecDepth 100000

def foldV : Int → List StepD → Int → Int
  | n, [], _ => n
  | n, s :: l, t => foldV (if s.at_ ≤ t then s.fr else n) l t
set_option maxHeartbeats 800000 in
theorem free_any (l : List StepD) (t : Int) (A : Option Addr) (n c : Nat) (hn : l.length = n) (w : World) (h : Stp w A c l) :
    Calls Try.prog 35 #[.slice A n c, .int .i64 t] w fun e w' => e = .returned (.int .i64 (foldV 0 l t)) ∧ Below w.heap.size w w' := by
  have hnl : n ≤ 9223372036854775807 := by rw [← hn]; exact h.lenI
  obtain ⟨r, hr⟩ : ∃ r, foldV 0 l t = r := ⟨_, rfl⟩
  rw [hr]
  have H := Lib.hid h; have HN := Lib.hid hn; have HR := Lib.hid hr
  clear h hn hr
  go_enter Try.func35, Try.ntmps35
  go_wp2
  go_loopw [5, 6] (fun vn vi wr => ∃ (k : Nat) (x : Int), k ≤ n ∧ vi = .int .i64 k ∧ vn = .int .i64 x ∧ Hid (foldV x (l.drop k) t = r) ∧ Hid (Below w.heap.size w wr)) (fun _ vi _ => n - (intOf vi).toNat)
  case atStart => exact ⟨0, 0, Nat.zero_le _, rfl, rfl, HR, Lib.hid (Below.refl _ _)⟩
  case round =>
    obtain ⟨k, x, hk, rfl, rfl, HF, HX⟩ := hrel
    by_cases hlt : k < n
    · obtain ⟨b, off, s, eA, hs, c0, c1⟩ := (H.out.below HX.out).lt (k := k) (by rw [HN.out]; exact hlt)
      subst eA
      have hd : l.drop k = s :: l.drop (k + 1) := by
        rw [List.drop_eq_getElem_cons (by rw [HN.out]; exact hlt), (List.getElem?_eq_some_iff.1 hs).2]
      have hf := HF.out
      rw [hd] at hf
      unfold foldV at hf
      by_cases hle : s.at_ ≤ t
      · rw [if_pos hle] at hf
        have HF2 := Lib.hid hf
        clear hd hs hf HF
        go_wp2
        go_roundw
        case rel => exact ⟨k + 1, s.fr, by omega, by go_num, rfl, HF2, HX⟩
        case measure => simp [intOf]; omega
      · rw [if_neg hle] at hf
        have HF2 := Lib.hid hf
        clear hd hs hf HF
        go_wp2
        go_roundw
        case rel => exact ⟨k + 1, x, by omega, by go_num, rfl, HF2, HX⟩
        case measure => simp [intOf]; omega
    · obtain rfl : k = n := by omega
      have hf := HF.out
      rw [show l.drop k = [] from List.drop_eq_nil_of_le (by rw [HN.out]; exact Nat.le_refl _)] at hf
      obtain rfl : x = r := hf
      go_wp2
      go_ret
      exact ⟨rfl, HX.out⟩

def lenI : Value → Nat
  | .slice _ n _ => n
  | _ => 0
def atsL (l : List StepD) : List Int := l.map StepD.at_
def minI : Int → List Int → Int
  | x, [] => x
  | x, y :: r => minI (if y < x then y else x) r
def timF : Nat → List Int → List Int → List Int
  | 0, _, out => out
  | _ + 1, [], out => out
  | g + 1, x :: r, out => timF g ((x :: r).filter fun y => y != minI x (x :: r)) (out ++ [minI x (x :: r)])
def timesL (l m : List StepD) (a b : Int) : List Int := timF (2 + l.length + m.length) ([a, b] ++ atsL l ++ atsL m) []
theorem int1 {W : World} {g : Nat} {x : Int} {t : TypeId} (h : W.heap[g]? = some (.cells #[.int .i64 x] t (0, 0))) : Sl W (some ⟨g, 0, none⟩) 1 [.int .i64 x] := by
  refine ⟨fun k u hk => ?_, by simp, by decide, fun e => by cases e⟩
  match k, hk with
  | 0, hk => injection hk with hk; subst hk; exact ⟨_, 0, rfl, Dag.blk_cell h 0⟩
  | k + 1, hk => simp at hk
/-- append of one number onto numbers of one's own -/
theorem wpList_int1 {w : World} {ops : Array Oper} {rest : List Oper} {o : Oper} {a : Act} {Q : Exit → Act → World → Prop} (hgd : o.guard = none) (s x : Operand)
    (ho : o.op = .call { callee := .builtin .append, args := #[s, x], argTypes := #[54, 54] })
    (base : Nat) (v : Value) (l : List Int) (hs : a.eval s = v) (hown : OwnI w base v l) (g : Nat) (u : Int) (hx : a.eval x = .slice (some ⟨g, 0, none⟩) 1 1)
    (h0 : w.heap[g]? = some (.cells #[.int .i64 u] 3 (0, 0))) (hlen : l.length ≤ 1000000) (hbase : base ≤ w.heap.size)
    (h : ∀ (A' : Option Addr) (c' : Nat) (w' : World), OwnI w' base (.slice A' (l ++ [u]).length c') (l ++ [u]) → w.grownBy w' v.ownBlock → ((Value.slice A' (l ++ [u]).length c').ownBlock = v.ownBlock ∨ (Value.slice A' (l ++ [u]).length c').ownBlock = some w.heap.size) → Below base w w' →
      wpList Try.prog ops Q rest (a.put o.dst (.slice A' (l ++ [u]).length c')) w') :
    wpList Try.prog ops Q (o :: rest) a w := by
  refine Dag.wpList_appg hgd s x 54 3 (.int .i64 0) 8 Try.underlying54 Dag.info_int rfl (by decide) ho base v (ints l) hs hown (some ⟨g, 0, none⟩) 1 1 [.int .i64 u] rfl hx (int1 h0) (by intro y hy; simp at hy; subst hy; rfl) (by rw [ints_len]; simp; omega) hbase ?_
  intro l' A' c' w' el ho' hg hb hw
  subst el
  have e : ints l ++ [.int .i64 u] = ints (l ++ [u]) := by rw [ints_app]; rfl
  rw [e] at ho' hb ⊢
  rw [ints_len] at ho' hb ⊢
  exact h A' c' w' ho' hg hb hw
theorem minI_mem : ∀ (r : List Int) (x : Int), minI x r = x ∨ minI x r ∈ r
  | [], x => Or.inl rfl
  | y :: r, x => by
    unfold minI
    by_cases h : y < x
    · rw [if_pos h]
      rcases minI_mem r y with e | e
      · rw [e]; exact Or.inr (by simp)
      · exact Or.inr (by simp [e])
    · rw [if_neg h]
      rcases minI_mem r x with e | e
      · exact Or.inl e
      · exact Or.inr (by simp [e])
theorem filt_lt (x : Int) (r : List Int) : ((x :: r).filter fun y => y != minI x (x :: r)).length < (x :: r).length := by
  rcases Nat.lt_or_ge ((x :: r).filter fun y => y != minI x (x :: r)).length (x :: r).length with h | h
  · exact h
  · exfalso
    have h1 := List.length_filter_le (fun y => y != minI x (x :: r)) (x :: r)
    have h2 := List.filter_eq_self.1 (List.Sublist.eq_of_length (List.filter_sublist (p := fun y => y != minI x (x :: r)) (l := x :: r)) (by omega))
    have h3 : minI x (x :: r) ∈ x :: r := by
      rcases minI_mem (x :: r) x with e | e
      · rw [e]; exact List.mem_cons_self
      · exact e
    have := h2 _ h3
    simp at this
theorem Own1.apart {w w' : World} {base : Nat} {e : TypeId} {v : Value} {us : List Value} {row : Option Nat} (h : Own1 w base e v us) (hg : w.grownBy w' row) (hne : v.ownBlock = none ∨ v.ownBlock ≠ row) : Own1 w' base e v us := World.ownsRow.kept h hg hne
set_option maxHeartbeats 6400000 in
theorem times_any (l m : List StepD) (a b : Int) (A B : Option Addr) (n k c d : Nat) (hn : l.length = n) (hk : m.length = k) (hb : n + k ≤ 10000) (w : World) (h : Stp w A c l) (h' : Stp w B d m) :
    Calls Try.prog 34 #[.slice A n c, .slice B k d, .int .i64 a, .int .i64 b] w fun e w' => ∃ Ao co, e = .returned (.slice Ao (timesL l m a b).length co) ∧ Ints w' Ao co (timesL l m a b) ∧ Below w.heap.size w w' := by
  obtain ⟨R, hR⟩ : ∃ R, timesL l m a b = R := ⟨_, rfl⟩
  rw [hR]
  have H1 := Lib.hid h; have H2 := Lib.hid h'; have HN := Lib.hid hn; have HK := Lib.hid hk; have HR := Lib.hid hR
  have hnl : n ≤ 9223372036854775807 := by omega
  have hkl : k ≤ 9223372036854775807 := by omega
  clear h h' hn hk hR
  go_enter Try.func34, Try.ntmps34
  go_wp2
  have hO0 : OwnI (w.alloc (.cells #[.int .i64 a, .int .i64 b] 3)) w.heap.size (.slice (some ⟨w.heap.size, 0, none⟩) 2 2) [a, b] := Own1.litm w w.heap.size 3 (Nat.le_refl _) (ints [a, b]) rfl rfl (by decide)
  have hB0 : Below w.heap.size w (w.alloc (.cells #[.int .i64 a, .int .i64 b] 3)) := al _ _
  generalize w.alloc (.cells #[.int .i64 a, .int .i64 b] 3) = w0 at hO0 hB0 ⊢
  have HO0 := Lib.hid hO0; have HB0 := Lib.hid hB0
  clear hO0 hB0
  go_loopw [9, 10] (fun va vi wr => ∃ (i : Nat) (xs : List Int) (O : Option Addr) (co : Nat), i ≤ n ∧ xs.length = 2 + i ∧ vi = .int .i64 i ∧ va = .slice O xs.length co ∧ Hid (xs = [a, b] ++ (atsL l).take i) ∧ Hid (OwnI wr w.heap.size (.slice O xs.length co) xs) ∧ Hid (Below w.heap.size w wr)) (fun _ vi _ => n - (intOf vi).toNat)
  case atStart => exact ⟨0, [a, b], _, _, Nat.zero_le _, rfl, rfl, rfl, Lib.hid rfl, HO0, HB0⟩
  case round =>
    clear HO0 HB0
    obtain ⟨i, xs, O, co, hi, hq, rfl, rfl, HXS, HO, HX⟩ := hrel
    by_cases hlt : i < n
    · obtain ⟨b1, o1, s, eA, hs, c0, c1⟩ := (H1.out.below HX.out).lt (k := i) (by rw [HN.out]; exact hlt)
      subst eA
      have HTK : Hid (xs ++ [s.at_] = [a, b] ++ (atsL l).take (i + 1)) := Lib.hid (by
        rw [HXS.out, List.append_assoc]; congr 1
        rw [List.take_add_one]; unfold atsL; rw [List.getElem?_map, hs]; rfl)
      have hlen : xs.length ≤ 1000000 := by omega
      have hxl := hq
      have HXA := Lib.hid (HX.out.trans ((al wr (.cells #[.int .i64 s.at_] 3)).mono HX.out.size))
      have HOA := Lib.hid (Dag.Own1.below HO.out (al wr (.cells #[.int .i64 s.at_] 3)))
      have HNW := Lib.hid (heap_alloc_new wr (.cells #[.int .i64 s.at_] 3))
      have HQ := Lib.hid hq
      clear hs hq hxl
      go_wp2_with (at_builtin; refine wpList_int1 rfl _ _ rfl w.heap.size _ xs rfl HOA.out wr.heap.size s.at_ rfl HNW.out hlen HXA.out.size ?_; intro A' c' w' ho' hg' hob' hb'; have HO2 := Lib.hid ho'; have HB2 := Lib.hid (HXA.out.trans hb'); clear ho' hg' hob' hb')
      refine ⟨⟨i + 1, xs ++ [s.at_], A', c', by omega, by rw [List.length_append, HQ.out]; simp; omega, by go_num, by simp, HTK, HO2, HB2⟩, ?_⟩
      simp [intOf]; omega
    · obtain rfl : i = n := by omega
      have HXS1 : Hid (xs = [a, b] ++ atsL l) := Lib.hid (by rw [HXS.out]; congr 1; rw [List.take_of_length_le]; unfold atsL; rw [List.length_map, HN.out]; exact Nat.le_refl _)
      have HQ1 := Lib.hid hq
      clear HXS hq
      go_wp2
      go_loopw [9, 11] (fun va vi wr => ∃ (j : Nat) (xs : List Int) (O : Option Addr) (co : Nat), j ≤ k ∧ xs.length = 2 + i + j ∧ vi = .int .i64 j ∧ va = .slice O xs.length co ∧ Hid (xs = [a, b] ++ atsL l ++ (atsL m).take j) ∧ Hid (OwnI wr w.heap.size (.slice O xs.length co) xs) ∧ Hid (Below w.heap.size w wr)) (fun _ vi _ => k - (intOf vi).toNat)
      case atStart => exact ⟨0, xs, _, _, Nat.zero_le _, HQ1.out, rfl, rfl, Lib.hid (by rw [HXS1.out, List.take_zero, List.append_nil]), HO, HX⟩
      case round =>
        clear HO HX HXS1 HQ1
        obtain ⟨j, xs, O, co, hj, hq, rfl, rfl, HXS, HO, HX⟩ := hrel
        by_cases hlt2 : j < k
        · obtain ⟨b1, o1, s, eA, hs, c0, c1⟩ := (H2.out.below HX.out).lt (k := j) (by rw [HK.out]; exact hlt2)
          subst eA
          have HTK : Hid (xs ++ [s.at_] = [a, b] ++ atsL l ++ (atsL m).take (j + 1)) := Lib.hid (by
            rw [HXS.out, List.append_assoc]; congr 1
            rw [List.take_add_one]; unfold atsL; rw [List.getElem?_map, hs]; rfl)
          have hlen : xs.length ≤ 1000000 := by omega
          have HXA := Lib.hid (HX.out.trans ((al wr (.cells #[.int .i64 s.at_] 3)).mono HX.out.size))
          have HOA := Lib.hid (Dag.Own1.below HO.out (al wr (.cells #[.int .i64 s.at_] 3)))
          have HNW := Lib.hid (heap_alloc_new wr (.cells #[.int .i64 s.at_] 3))
          have HQ := Lib.hid hq
          clear hs hq
          go_wp2_with (at_builtin; refine wpList_int1 rfl _ _ rfl w.heap.size _ xs rfl HOA.out wr.heap.size s.at_ rfl HNW.out hlen HXA.out.size ?_; intro A' c' w' ho' hg' hob' hb'; have HO2 := Lib.hid ho'; have HB2 := Lib.hid (HXA.out.trans hb'); clear ho' hg' hob' hb')
          refine ⟨⟨j + 1, xs ++ [s.at_], A', c', by omega, by rw [List.length_append, HQ.out]; simp; omega, by go_num, by simp, HTK, HO2, HB2⟩, ?_⟩
          simp [intOf]; omega
        · obtain rfl : j = k := by omega
          have HT0 : Hid (∃ g, xs.length ≤ g ∧ timF g xs [] = R) := Lib.hid ⟨2 + l.length + m.length, by rw [hq, HN.out, HK.out]; exact Nat.le_refl _, by
            rw [← HR.out, HXS.out]; unfold timesL; congr 1; congr 1
            rw [List.take_of_length_le]; unfold atsL; rw [List.length_map, HK.out]; exact Nat.le_refl _⟩
          have hxs : xs.length ≤ 20000 := by omega
          clear HXS hq hlt hlt2
          go_wp2
          go_loopw [9, 12] (fun va vo wr => ∃ (xs ys : List Int) (O P : Option Addr) (co cp : Nat), xs.length + ys.length ≤ 20000 ∧ va = .slice O xs.length co ∧ vo = .slice P ys.length cp ∧ Hid (OwnI wr w.heap.size (.slice O xs.length co) xs) ∧ Hid (OwnI wr w.heap.size (.slice P ys.length cp) ys) ∧ Hid ((Value.slice O xs.length co).ownBlock = none ∨ (Value.slice O xs.length co).ownBlock ≠ (Value.slice P ys.length cp).ownBlock) ∧ Hid (Below w.heap.size w wr) ∧ Hid (∃ g, xs.length ≤ g ∧ timF g xs ys = R)) (fun va _ _ => lenI va)
          case atStart => exact ⟨xs, [], O, none, co, 0, by simpa using hxs, rfl, rfl, HO, Lib.hid (Own1.nil _ _ _), Lib.hid (by
            cases O with
            | none => exact Or.inl rfl
            | some q => exact Or.inr (by simp [Value.ownBlock])), HX, HT0⟩
          case round =>
            clear HO HX HT0 hxs
            obtain ⟨wA, rfl⟩ : ∃ x, x = wr := ⟨wr, rfl⟩
            obtain ⟨xs, ys, O, P, co, cp, hsum, rfl, rfl, HO, HP, HSP, HX, HT⟩ := hrel
            obtain ⟨p, hp⟩ : ∃ p, xs.length = p := ⟨_, rfl⟩
            obtain ⟨q, hq⟩ : ∃ q, ys.length = q := ⟨_, rfl⟩
            rw [hp] at HO HSP hsum ⊢
            rw [hq] at HP HSP hsum ⊢
            have HPL := Lib.hid hp; have HQL := Lib.hid hq
            clear hp hq
            by_cases hp0 : p = 0
            · have hxs : xs = [] := List.eq_nil_of_length_eq_zero (by rw [HPL.out]; exact hp0)
              have hr : ys = R := by obtain ⟨g, _, hr⟩ := HT.out; rw [← hr, hxs]; cases g <;> rfl
              have HRY := Lib.hid hr
              subst hp0
              clear hxs hr
              go_wp2
              go_ret
              exact ⟨P, cp, by rw [← HRY.out, HQL.out]; rfl, by rw [← HRY.out]; exact (OwnI.ints' HP.out).2, HX.out⟩
            · have hp1 : 0 < p := by omega
              have HI : Hid (Ints wA O co xs) := Lib.hid (OwnI.ints' HO.out).2
              obtain ⟨b1, o1, x0, eO, hx0, c0⟩ := HI.out.at_ (k := 0) (by rw [HPL.out]; exact hp1)
              subst eO
              obtain ⟨r, hxr⟩ : ∃ r, xs = x0 :: r := by
                cases xs with
                | nil => simp at hx0
                | cons y r => simp at hx0; exact ⟨r, by rw [hx0]⟩
              obtain ⟨T, hT⟩ : ∃ T, minI x0 xs = T := ⟨_, rfl⟩
              have HTT := Lib.hid hT
              have HG : Hid (∃ g, (xs.filter fun y => y != T).length ≤ g ∧ timF g (xs.filter fun y => y != T) (ys ++ [T]) = R) := Lib.hid (by
                obtain ⟨g, hg, hr⟩ := HT.out
                have hfl := filt_lt x0 r
                subst hxr
                rw [hT] at hfl
                obtain ⟨g, rfl⟩ : ∃ g', g = g' + 1 := ⟨g - 1, by simp at hg; omega⟩
                refine ⟨g, by omega, ?_⟩
                rw [← hr]
                show _ = timF g ((x0 :: r).filter fun y => y != minI x0 (x0 :: r)) (ys ++ [minI x0 (x0 :: r)])
                rw [hT])
              have HFL : Hid ((xs.filter fun y => y != T).length < p) := Lib.hid (by
                have hfl := filt_lt x0 r
                subst hxr
                rw [hT] at hfl
                rw [← HPL.out]; exact hfl)
              rw [Nat.add_zero] at c0
              clear hx0 hxr hT HT
              go_wp2
              go_loopw [13, 14] (fun vt vj wr => ∃ (j : Nat) (y : Int), j ≤ p ∧ vj = .int .i64 j ∧ vt = .int .i64 y ∧ wr = wA ∧ Hid (minI y (xs.drop j) = T)) (fun _ vj _ => p - (intOf vj).toNat)
              case atStart => exact ⟨0, x0, Nat.zero_le _, rfl, rfl, rfl, HTT⟩
              case round =>
                clear c0 HTT
                obtain ⟨j, y, hj, rfl, rfl, rfl, HM⟩ := hrel
                by_cases hlt3 : j < p
                · obtain ⟨b2, o2, z, eO, hz, c1⟩ := HI.out.at_ (k := j) (by rw [HPL.out]; exact hlt3)
                  injection eO with eO; injection eO with e1 e2; subst e1 e2
                  have HM2 : Hid (minI (if z < y then z else y) (xs.drop (j + 1)) = T) := Lib.hid (by
                    have := HM.out
                    rw [List.drop_eq_getElem_cons (by rw [HPL.out]; exact hlt3), (List.getElem?_eq_some_iff.1 hz).2] at this
                    exact this)
                  clear hz HM
                  go_wp2
                  refine ⟨⟨j + 1, _, by omega, by go_num, rfl, by first | rfl | trivial, HM2⟩, ?_⟩
                  simp [intOf]; omega
                · obtain rfl : j = p := by omega
                  obtain rfl : y = T := by
                    have := HM.out
                    rw [show xs.drop j = [] from List.drop_eq_nil_of_le (by rw [HPL.out]; exact Nat.le_refl _)] at this
                    exact this
                  clear HM hlt3
                  go_wp2
                  obtain ⟨wB, rfl⟩ : ∃ x, x = wr := ⟨wr, rfl⟩
                  go_loopw [15, 16] (fun vz vi wr2 => ∃ (i : Nat) (zs : List Int) (Z : Option Addr) (cz : Nat), i ≤ j ∧ zs.length ≤ i ∧ vi = .int .i64 i ∧ vz = .slice Z zs.length cz ∧ Hid (zs = (xs.take i).filter fun v => v != y) ∧ Hid (OwnI wr2 wB.heap.size (.slice Z zs.length cz) zs) ∧ Hid (Below wB.heap.size wB wr2)) (fun _ vi _ => j - (intOf vi).toNat)
                  case atStart => exact ⟨0, [], none, 0, Nat.zero_le _, Nat.le_refl _, rfl, rfl, Lib.hid rfl, Lib.hid (Own1.nil _ _ _), Lib.hid (Below.refl _ _)⟩
                  case round =>
                    obtain ⟨i2, zs, Z, cz, hi2, hzl, rfl, rfl, HZ, HOZ, HXZ⟩ := hrel
                    by_cases hlt4 : i2 < j
                    · obtain ⟨b2, o2, z, eO, hz, c1⟩ := (Ints.below HI.out HXZ.out).at_ (k := i2) (by rw [HPL.out]; exact hlt4)
                      injection eO with eO; injection eO with e1 e2; subst e1 e2
                      have htk : xs.take (i2 + 1) = xs.take i2 ++ [z] := by rw [List.take_add_one, hz]; rfl
                      by_cases hzt : z = y
                      · subst hzt
                        have HZ2 : Hid (zs = (xs.take (i2 + 1)).filter fun v => v != z) := Lib.hid (by rw [htk, List.filter_append, HZ.out]; simp)
                        have hzb : (z != z) = false := by simp
                        clear hz htk HZ
                        go_wp2
                        refine ⟨⟨i2 + 1, zs, Z, cz, by omega, by omega, by go_num, rfl, HZ2, HOZ, HXZ⟩, ?_⟩
                        simp [intOf]; omega
                      · have HZ2 : Hid (zs ++ [z] = (xs.take (i2 + 1)).filter fun v => v != y) := Lib.hid (by rw [htk, List.filter_append, HZ.out]; simp [hzt])
                        have hzb : (z != y) = true := by rw [bne_iff_ne]; exact hzt
                        have hlen : zs.length ≤ 1000000 := by omega
                        have HXA := Lib.hid (HXZ.out.trans ((al wr (.cells #[.int .i64 z] 3)).mono HXZ.out.size))
                        have HOA := Lib.hid (Dag.Own1.below HOZ.out (al wr (.cells #[.int .i64 z] 3)))
                        have HNW := Lib.hid (heap_alloc_new wr (.cells #[.int .i64 z] 3))
                        clear hz htk HZ hzt
                        go_wp2_with (at_builtin; refine wpList_int1 rfl _ _ rfl wB.heap.size _ zs rfl HOA.out wr.heap.size z rfl HNW.out hlen HXA.out.size ?_; intro A' c' w' ho' hg' hob' hb'; have HO2 := Lib.hid ho'; have HB2 := Lib.hid (HXA.out.trans hb'); clear ho' hg' hob' hb')
                        refine ⟨⟨i2 + 1, zs ++ [z], A', c', by omega, by simp; omega, by go_num, by simp, HZ2, HO2, HB2⟩, ?_⟩
                        simp [intOf]; omega
                    · obtain rfl : i2 = j := by omega
                      have HZ2 : Hid (zs = xs.filter fun v => v != y) := Lib.hid (by rw [HZ.out, List.take_of_length_le (by rw [HPL.out]; exact Nat.le_refl _)])
                      have HPA := Lib.hid (Dag.Own1.below (Dag.Own1.below HP.out HXZ.out) (al wr (.cells #[.int .i64 y] 3)))
                      have HXA := Lib.hid (HX.out.trans ((HXZ.out.trans ((al wr (.cells #[.int .i64 y] 3)).mono HXZ.out.size)).mono HX.out.size))
                      have HZA := Lib.hid (Dag.Own1.below HOZ.out (al wr (.cells #[.int .i64 y] 3)))
                      have HNW := Lib.hid (heap_alloc_new wr (.cells #[.int .i64 y] 3))
                      have HAP : Hid ((Value.slice Z zs.length cz).ownBlock = none ∨ (Value.slice Z zs.length cz).ownBlock ≠ (Value.slice P q cp).ownBlock) := Lib.hid (by
                        cases hz : (Value.slice Z zs.length cz).ownBlock with
                        | none => exact Or.inl rfl
                        | some g =>
                          refine Or.inr fun e => ?_
                          have h1 := (Own1.lt HOZ.out hz).1
                          have h2 := (Own1.lt HP.out e.symm).2
                          omega)
                      have HLT : Hid (∀ g, (Value.slice Z zs.length cz).ownBlock = some g → g < wr.heap.size) := Lib.hid fun g hg => (Own1.lt HOZ.out hg).2
                      have hlen : ys.length ≤ 1000000 := by rw [HQL.out]; omega
                      have hfl := HFL.out
                      have hzn : zs.length < i2 := by rw [HZ2.out]; exact hfl
                      clear HZ hfl hlt4
                      go_wp2_with (at_builtin; refine wpList_int1 rfl _ _ rfl w.heap.size _ ys rfl HPA.out wr.heap.size y rfl HNW.out hlen HXA.out.size ?_; intro A' c' w' ho' hg' hob' hb'; have HO2 := Lib.hid ho'; have HB2 := Lib.hid (HXA.out.trans hb'); have HZO := Lib.hid (Own1.apart HZA.out hg' HAP.out); have HOB := Lib.hid hob'; clear ho' hg' hob' hb')
                      refine ⟨⟨zs, ys ++ [y], Z, A', cz, c', by rw [List.length_append, HQL.out]; simp; omega, rfl, by simp, Lib.hid (Own1.rebase HZO.out HX.out.size), HO2, Lib.hid ?_, HB2, Lib.hid (by rw [HZ2.out]; exact HG.out)⟩, ?_⟩
                      · cases hz : (Value.slice Z zs.length cz).ownBlock with
                        | none => exact Or.inl rfl
                        | some g =>
                          refine Or.inr fun e => ?_
                          have h1 := HLT.out g hz
                          rcases HOB.out with h2 | h2
                          · rw [h2] at e
                            rcases HAP.out with h3 | h3
                            · rw [hz] at h3; cases h3
                            · exact h3 (hz.trans e)
                          · rw [h2] at e
                            injection e with e
                            simp at e; omega
                      · simp [lenI]; omega
end Go.Proofs.Ytmlkomcjbcolhaa.Stp

