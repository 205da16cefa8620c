/- append onto a slice of int that the call itself made, the source nil, empty or not; and the calls of clock at lists that are named. -/
import Derived.Test.YtaabalffcpaojaaClkLaw
import Derived.Laws.AppendOwn
import Derived.Laws.AppendOwnNone
import Derived.Laws.OwnMore
import Derived.OwnWalk
namespace Go.Proofs.Ytaabalffcpaojaa
open Go.RowKit
set_option linter.unusedVariables false

theorem info_int : (Try.prog.info? 3).map (fun i => (i.zero, i.size, i.bytes)) = some (some (.int .i64 0), 1, 8) := by kernel_rfl

def OwnInts (w : World) (base : Nat) (v : Value) (xs : List Int) : Prop := w.ownsRow base 3 1 v xs.length (xs.map (Value.int .i64))

theorem OwnInts.nil (w : World) (base : Nat) : OwnInts w base (.slice none 0 0) [] := World.ownsRow_nil w base _ 1
theorem OwnInts.lit (w : World) (base : Nat) (hb : base ≤ w.heap.size) (xs : List Int) (hl : xs.length ≤ maxLen) :
    OwnInts (w.alloc (.cells (xs.map (Value.int .i64)).toArray 3)) base (.slice (some ⟨w.heap.size, 0, none⟩) xs.length xs.length) xs := by
  have := World.ownsRow_lit (base := base) (e := 3) (size := 1) w (xs.map (Value.int .i64)).toArray xs.length hb hl (by simp)
  simpa [OwnInts] using this
theorem OwnInts.alloc {w : World} {base : Nat} {v : Value} {xs : List Int} (h : OwnInts w base v xs) (o : Obj) : OwnInts (w.alloc o) base v xs := World.ownsRow.alloc h o
theorem OwnInts.ints {w : World} {base : Nat} {v : Value} {xs : List Int} (h : OwnInts w base v xs) : ∃ A c, v = .slice A xs.length c ∧ Ints w A xs := by
  rcases h.2 with ⟨hv, hn⟩ | ⟨g, cap, cur, hv, hbg, hh, hnc, hcm, hcs, htake⟩
  · have hx : xs = [] := List.eq_nil_of_length_eq_zero hn
    subst hx
    exact ⟨none, 0, hv, Ints.none_⟩
  · refine ⟨_, cap, hv, ?_⟩
    intro k x hx
    have hlt : g < w.heap.size := by
      rcases Nat.lt_or_ge g w.heap.size with a | a
      · exact a
      · rw [Array.getElem?_eq_none a] at hh; cases hh
    refine ⟨g, 0, rfl, hlt, ?_⟩
    rw [Nat.zero_add, cell_of_row w g k cur _ (0, 0) hh]
    have hk : k < xs.length := (List.getElem?_eq_some_iff.1 hx).1
    have e : (cur.toList.take (xs.length * 1))[k]? = some (.int .i64 x) := by rw [htake, List.getElem?_map, hx]; rfl
    rw [List.getElem?_take, if_pos (by omega)] at e
    rw [← e, Array.getElem?_toList]

theorem wpList_app {w : World} {ops : Array Oper} {rest : List Oper} {o : Oper} {a : Act} {Q : Exit → Act → World → Prop} (hgd : o.guard = none) (s x : Operand)
    (ho : o.op = .call { callee := .builtin .append, args := #[s, x], argTypes := #[22, 22] })
    (base : Nat) (v : Value) (xs : List Int) (hs : a.eval s = v) (hown : OwnInts w base v xs) (A : Option Addr) (c m : Nat) (zs : List Int) (hm : zs.length = m) (hx : a.eval x = .slice A m c)
    (hr : Ints w A zs) (hn : A = none → c = 0) (hlen : xs.length + zs.length ≤ 1000000) (hbase : base ≤ w.heap.size)
    (h : ∀ (l : List Int) (A' : Option Addr) (c' : Nat) (w' : World), l = xs ++ zs → Ints w' A' l → OwnInts w' base (.slice A' l.length c') l → Below base w w' → wpList Try.prog ops Q rest (a.put o.dst (.slice A' l.length c')) w') :
    wpList Try.prog ops Q (o :: rest) a w := by
  subst hm
  obtain ⟨i0, hi0, hz0, hz1, hz2⟩ := info_parts info_int
  have fin : ∀ (v' : Value) (w' : World) (n : Nat), n = xs.length + zs.length → w'.ownsRow base 3 1 v' n (xs.map (Value.int .i64) ++ zs.map (Value.int .i64)) → Below base w w' → wpList Try.prog ops Q rest (a.put o.dst v') w' := by
    intro v' w' n hnn hown' hb
    have ho' : OwnInts w' base v' (xs ++ zs) := by
      unfold OwnInts
      rw [List.map_append, List.length_append, ← hnn]
      exact hown'
    obtain ⟨A', c', hv', hI⟩ := ho'.ints
    subst hv'
    exact h _ A' c' w' rfl hI ho' hb
  rcases A with _ | ad
  · have hz : zs = [] := by
      rcases zs with _ | ⟨y, r⟩
      · rfl
      · obtain ⟨b, off, e, _⟩ := hr 0 y rfl
        cases e
    subst hz
    obtain rfl := hn rfl
    refine wpList_append_own_none hgd s x _ ho base _ i0 1 Try.underlying22 hi0 v xs.length _ hs hown hx ?_
    exact fin v w xs.length (by simp) (by simpa [OwnInts] using hown) (Below.refl _ _)
  · refine wpList_append_own w hgd s x _ ho base _ i0 (.int .i64 0) 1 8 Try.underlying22 hi0 hz0 hz1 hz2 rfl (by decide) v xs.length _ hs hown ad zs.length c (zs.map (Value.int .i64)) hx (by simp) ?_ ?_ (by simp only [maxLen]; omega) (by omega) hbase ?_
    · intro j u hu
      rw [List.getElem?_map] at hu
      cases hz : zs[j]? with
      | none => rw [hz] at hu; cases hu
      | some y =>
        rw [hz] at hu
        obtain ⟨b, off, e, _, hc⟩ := hr j y hz
        injection e with e
        subst e
        rw [Go.WideShapes.add_plain, hc]
        exact hu
    · intro u hu
      obtain ⟨y, _, rfl⟩ := List.mem_map.1 hu
      rfl
    · intro v' w' hown' hg _
      exact fin v' w' _ rfl hown' ((Below.refl _ _).grown hg hbase fun k hk => (hown.lt k hk).1)

theorem addL_at (t : Int) (A : Option Addr) (c : Nat) (zs : List Int) (w : World) (h : Ints w A zs) (hl : zs.length ≤ maxLen) (v e0 : Int) (hv : addV (t :: zs) = v) (he : addE (t :: zs) = e0) :
    Calls Try.prog 12 #[.int .i64 t, .slice A zs.length c] w fun e w' => e = .returned (.tuple #[.int .i64 v, .int .i64 e0]) ∧ w = w' := by
  have := add_any t A c zs w h hl
  rw [hv, he] at this
  exact this
theorem raddL_at (A : Option Addr) (c : Nat) (zs : List Int) (w : World) (h : Ints w A zs) (hl : zs.length ≤ maxLen) (v e0 : Int) (hv : addV zs = v) (he : addE zs = e0) :
    Calls Try.prog 13 #[.slice A zs.length c] w fun e w' => e = .returned (.tuple #[.int .i64 v, .int .i64 e0]) ∧ w = w' := by
  have := radd_any A c zs w h hl
  rw [hv, he] at this
  exact this
theorem clipL_at (t : Int) (A : Option Addr) (c : Nat) (zs : List Int) (w : World) (h : Ints w A zs) (hl : zs.length ≤ maxLen) (v : Int) (hv : clipA (t :: zs) = v) :
    Calls Try.prog 14 #[.int .i64 t, .slice A zs.length c] w fun e w' => e = .returned (.int .i64 v) ∧ w = w' := by
  have := clip_any t A c zs w h hl
  rw [hv] at this
  exact this
theorem rclipL_at (A : Option Addr) (c : Nat) (zs : List Int) (w : World) (h : Ints w A zs) (hl : zs.length ≤ maxLen) (v : Int) (hv : clipA zs = v) :
    Calls Try.prog 15 #[.slice A zs.length c] w fun e w' => e = .returned (.int .i64 v) ∧ w = w' := by
  have := rclip_any A c zs w h hl
  rw [hv] at this
  exact this

end Go.Proofs.Ytaabalffcpaojaa
