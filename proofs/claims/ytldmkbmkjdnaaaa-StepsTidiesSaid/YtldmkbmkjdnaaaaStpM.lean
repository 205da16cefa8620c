/- Layer 9: the document's: what is free; the times. -/
import Derived.Test.YtldmkbmkjdnaaaaStpC
import Derived.Test.YtldmkbmkjdnaaaaStpLed
namespace Go.Proofs.Ytldmkbmkjdnaaaa.Stp
open Go.RowKit Go.Shelf
open Dag (Ints Own1 OwnI Sl ints ints_len ints_app ints_get ints_get' ints_one)
set_option linter.unusedVariables false
set_option maxRecDepth 100000

def foldV : Int → List StepD → Int → Int
  | n, [], _ => n
  | n, s :: l, t => foldV (if s.at_ ≤ t then s.fr else n) l t
set_option maxHeartbeats 800000 in
theorem free_any (l : List StepD) (t : Int) (A : Option Addr) (n c : Nat) (hn : l.length = n) (w : World) (h : Stp w A c l) :
    Calls Try.prog 62 #[.slice A n c, .int .i64 t] w fun e w' => e = .returned (.int .i64 (foldV 0 l t)) ∧ Below w.heap.size w w' := by
  have hnl : n ≤ 9223372036854775807 := by rw [← hn]; exact h.lenI
  obtain ⟨r, hr⟩ : ∃ r, foldV 0 l t = r := ⟨_, rfl⟩
  rw [hr]
  have H := Lib.hid h; have HN := Lib.hid hn; have HR := Lib.hid hr
  clear h hn hr
  go_enter Try.func62, Try.ntmps62
  go_wp2
  go_loopw [5, 6] (fun vn vi wr => ∃ (k : Nat) (x : Int), k ≤ n ∧ vi = .int .i64 k ∧ vn = .int .i64 x ∧ Hid (foldV x (l.drop k) t = r) ∧ Hid (Below w.heap.size w wr)) (fun _ vi _ => n - (intOf vi).toNat)
  case atStart => exact ⟨0, 0, Nat.zero_le _, rfl, rfl, HR, Lib.hid (Below.refl _ _)⟩
  case round =>
    obtain ⟨k, x, hk, rfl, rfl, HF, HX⟩ := hrel
    by_cases hlt : k < n
    · obtain ⟨b, off, s, eA, hs, c0, c1⟩ := (H.out.below HX.out).lt (k := k) (by rw [HN.out]; exact hlt)
      subst eA
      have hd : l.drop k = s :: l.drop (k + 1) := by
        rw [List.drop_eq_getElem_cons (by rw [HN.out]; exact hlt), (List.getElem?_eq_some_iff.1 hs).2]
      have hf := HF.out
      rw [hd] at hf
      unfold foldV at hf
      by_cases hle : s.at_ ≤ t
      · rw [if_pos hle] at hf
        have HF2 := Lib.hid hf
        clear hd hs hf HF
        go_wp2
        go_roundw
        case rel => exact ⟨k + 1, s.fr, by omega, by go_num, rfl, HF2, HX⟩
        case measure => simp [intOf]; omega
      · rw [if_neg hle] at hf
        have HF2 := Lib.hid hf
        clear hd hs hf HF
        go_wp2
        go_roundw
        case rel => exact ⟨k + 1, x, by omega, by go_num, rfl, HF2, HX⟩
        case measure => simp [intOf]; omega
    · obtain rfl : k = n := by omega
      have hf := HF.out
      rw [show l.drop k = [] from List.drop_eq_nil_of_le (by rw [HN.out]; exact Nat.le_refl _)] at hf
      obtain rfl : x = r := hf
      go_wp2
      go_ret
      exact ⟨rfl, HX.out⟩

def lenI : Value → Nat
  | .slice _ n _ => n
  | _ => 0
def atsL (l : List StepD) : List Int := l.map StepD.at_
def minI : Int → List Int → Int
  | x, [] => x
  | x, y :: r => minI (if y < x then y else x) r
def timF : Nat → List Int → List Int → List Int
  | 0, _, out => out
  | _ + 1, [], out => out
  | g + 1, x :: r, out => timF g ((x :: r).filter fun y => y != minI x (x :: r)) (out ++ [minI x (x :: r)])
def timesL (l m : List StepD) (a b : Int) : List Int := timF (2 + l.length + m.length) ([a, b] ++ atsL l ++ atsL m) []
theorem int1 {W : World} {g : Nat} {x : Int} {t : TypeId} (h : W.heap[g]? = some (.cells #[.int .i64 x] t (0, 0))) : Sl W (some ⟨g, 0, none⟩) 1 [.int .i64 x] := by
  refine ⟨fun k u hk => ?_, by simp, by decide, fun e => by cases e⟩
  match k, hk with
  | 0, hk => injection hk with hk; subst hk; exact ⟨_, 0, rfl, Dag.blk_cell h 0⟩
  | k + 1, hk => simp at hk
/-- append of one number onto numbers of one's own -/
theorem wpList_int1 {w : World} {ops : Array Oper} {rest : List Oper} {o : Oper} {a : Act} {Q : Exit → Act → World → Prop} (hgd : o.guard = none) (s x : Operand)
    (ho : o.op = .call { callee := .builtin .append, args := #[s, x], argTypes := #[57, 57] })
    (base : Nat) (v : Value) (l : List Int) (hs : a.eval s = v) (hown : OwnI w base v l) (g : Nat) (u : Int) (hx : a.eval x = .slice (some ⟨g, 0, none⟩) 1 1)
    (h0 : w.heap[g]? = some (.cells #[.int .i64 u] 3 (0, 0))) (hlen : l.length ≤ 1000000) (hbase : base ≤ w.heap.size)
    (h : ∀ (A' : Option Addr) (c' : Nat) (w' : World), OwnI w' base (.slice A' (l ++ [u]).length c') (l ++ [u]) → w.grownBy w' v.ownBlock → ((Value.slice A' (l ++ [u]).length c').ownBlock = v.ownBlock ∨ (Value.slice A' (l ++ [u]).length c').ownBlock = some w.heap.size) → Below base w w' →
      wpList Try.prog ops Q rest (a.put o.dst (.slice A' (l ++ [u]).length c')) w') :
    wpList Try.prog ops Q (o :: rest) a w := by
  refine Dag.wpList_appg hgd s x 57 3 (.int .i64 0) 8 Try.underlying57 Dag.info_int rfl (by decide) ho base v (ints l) hs hown (some ⟨g, 0, none⟩) 1 1 [.int .i64 u] rfl hx (int1 h0) (by intro y hy; simp at hy; subst hy; rfl) (by rw [ints_len]; simp; omega) hbase ?_
  intro l' A' c' w' el ho' hg hb hw
  subst el
  have e : ints l ++ [.int .i64 u] = ints (l ++ [u]) := by rw [ints_app]; rfl
  rw [e] at ho' hb ⊢
  rw [ints_len] at ho' hb ⊢
  exact h A' c' w' ho' hg hb hw
theorem minI_mem : ∀ (r : List Int) (x : Int), minI x r = x ∨ minI x r ∈ r
  | [], x => Or.inl rfl
  | y :: r, x => by
    unfold minI
    by_cases h : y < x
    · rw [if_pos h]
      rcases minI_mem r y with e | e
      · rw [e]; exact Or.inr (by simp)
      · exact Or.inr (by simp [e])
    · rw [if_neg h]
      rcases minI_mem r x with e | e
      · exact Or.inl e
      · exact Or.inr (by simp [e])
theorem filt_lt (x : Int) (r : List Int) : ((x :: r).filter fun y => y != minI x (x :: r)).length < (x :: r).length := by
  rcases Nat.lt_or_ge ((x :: r).filter fun y => y != minI x (x :: r)).length (x :: r).length with h | h
  · exact h
  · exfalso
    have h1 := List.length_filter_le (fun y => y != minI x (x :: r)) (x :: r)
    have h2 := List.filter_eq_self.1 (List.Sublist.eq_of_length (List.filter_sublist (p := fun y => y != minI x (x :: r)) (l := x :: r)) (by omega))
    have h3 : minI x (x :: r) ∈ x :: r := by
      rcases minI_mem (x :: r) x with e | e
      · rw [e]; exact List.mem_cons_self
      · exact e
    have := h2 _ h3
    simp at this
theorem Own1.apart {w w' : World} {base : Nat} {e : TypeId} {v : Value} {us : List Value} {row : Option Nat} (h : Own1 w base e v us) (hg : w.grownBy w' row) (hne : v.ownBlock = none ∨ v.ownBlock ≠ row) : Own1 w' base e v us := World.ownsRow.kept h hg hne
end Go.Proofs.Ytldmkbmkjdnaaaa.Stp

