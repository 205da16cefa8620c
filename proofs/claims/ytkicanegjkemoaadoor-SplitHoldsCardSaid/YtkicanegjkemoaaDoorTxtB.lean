/- Layer Txt over, for a seat that needs several layers: TxtMem, TxtSmall, TxtSame, TxtName. -/
import Derived.Test.YtkicanegjkemoaaDoorTxtPure
import Derived.Test.YtkicanegjkemoaaDoorTxtLay
import Derived.WalkKit
import Derived.ProofKit
import Derived.Lib.Hide
import Derived.OpenShut
import Derived.Laws.AppendOwn
import Derived.Laws.AppendOwnNone
import Derived.Laws.OwnMore
import Derived.OwnWalk
import Derived.Lib.OthersKept
import Derived.WalkLawsBesides
import Derived.WalkSpells
import Derived.Laws.RangeAny
import Derived.Deep.RegionWith
import Derived.Outline
import Derived.Deep.QuietTactic
import Derived.BigQuiet
namespace Go.Proofs.YtkicanegjkemoaaDoor.Txt
set_option maxRecDepth 100000
/-! A slice of strings that holds a list; append onto one that the call made; the library's tables. -/
open Go.RowKit Go.Shelf Go.Lib
set_option linter.unusedVariables false

abbrev lst (s : ByteArray) : List UInt8 := s.data.toList
def bs (l : List UInt8) : ByteArray := ⟨l.toArray⟩
theorem lst_bs (l : List UInt8) : lst (bs l) = l := by simp [bs, lst]
theorem bs_lst (s : ByteArray) : bs (lst s) = s := by simp [bs, lst]
theorem lst_inj {a b : ByteArray} (h : lst a = lst b) : a = b := by rw [← bs_lst a, ← bs_lst b, h]
theorem lst_len (s : ByteArray) : (lst s).length = s.size := rfl
theorem lsts_inj : ∀ {a b : List ByteArray}, a.map lst = b.map lst → a = b
  | [], [], _ => rfl
  | [], _ :: _, h => by simp at h
  | _ :: _, [], h => by simp at h
  | x :: a, y :: b, h => by
    simp only [List.map_cons, List.cons.injEq] at h
    rw [lst_inj h.1, lsts_inj h.2]

def Strs (w : World) (A : Option Addr) (zs : List ByteArray) : Prop :=
  ∀ k x, zs[k]? = some x → ∃ b off, A = some ⟨b, off, none⟩ ∧ b < w.heap.size ∧ w.cell? ⟨b, off + k, none⟩ = some (.string x)
theorem Strs.at_ {w : World} {A : Option Addr} {zs : List ByteArray} (h : Strs w A zs) {k : Nat} (hk : k < zs.length) :
    ∃ b off x, A = some ⟨b, off, none⟩ ∧ zs[k]? = some x ∧ w.cell? ⟨b, off + k, none⟩ = some (.string x) := by
  have hx : zs[k]? = some zs[k] := List.getElem?_eq_getElem hk
  obtain ⟨b, off, e, _, hc⟩ := h k _ hx
  exact ⟨b, off, _, e, hx, hc⟩
theorem Strs.none_ {w : World} {A : Option Addr} : Strs w A [] := fun k x h => by simp at h
theorem Strs.below {w w' : World} {A : Option Addr} {zs : List ByteArray} (h : Strs w A zs) (hb : Below w.heap.size w w') : Strs w' A zs := by
  intro k x hx
  obtain ⟨b, off, e, hlt, hc⟩ := h k x hx
  exact ⟨b, off, e, Nat.lt_of_lt_of_le hlt hb.size, (hb.cell (p := ⟨b, off + k, none⟩) hlt).trans hc⟩

def Ints (w : World) (A : Option Addr) (zs : List Int) : Prop :=
  ∀ k x, zs[k]? = some x → ∃ b off, A = some ⟨b, off, none⟩ ∧ b < w.heap.size ∧ w.cell? ⟨b, off + k, none⟩ = some (.int .i64 x)
theorem Ints.at_ {w : World} {A : Option Addr} {zs : List Int} (h : Ints w A zs) {k : Nat} (hk : k < zs.length) :
    ∃ b off x, A = some ⟨b, off, none⟩ ∧ zs[k]? = some x ∧ w.cell? ⟨b, off + k, none⟩ = some (.int .i64 x) := by
  have hx : zs[k]? = some zs[k] := List.getElem?_eq_getElem hk
  obtain ⟨b, off, e, _, hc⟩ := h k _ hx
  exact ⟨b, off, _, e, hx, hc⟩
theorem Ints.below {w w' : World} {A : Option Addr} {zs : List Int} (h : Ints w A zs) (hb : Below w.heap.size w w') : Ints w' A zs := by
  intro k x hx
  obtain ⟨b, off, e, hlt, hc⟩ := h k x hx
  exact ⟨b, off, e, Nat.lt_of_lt_of_le hlt hb.size, (hb.cell (p := ⟨b, off + k, none⟩) hlt).trans hc⟩

theorem info_str : (Tryd.prog.info? 9).map (fun i => (i.zero, i.size, i.bytes)) = some (some (.string ⟨#[]⟩), 1, 16) := by kernel_rfl
theorem info_int : (Tryd.prog.info? 3).map (fun i => (i.zero, i.size, i.bytes)) = some (some (.int .i64 0), 1, 8) := by kernel_rfl

def OwnStrs (w : World) (base : Nat) (v : Value) (xs : List ByteArray) : Prop := w.ownsRow base 9 1 v xs.length (xs.map Value.string)
def OwnInts (w : World) (base : Nat) (v : Value) (xs : List Int) : Prop := w.ownsRow base 3 1 v xs.length (xs.map (Value.int .i64))
theorem OwnStrs.nil (w : World) (base : Nat) : OwnStrs w base (.slice none 0 0) [] := World.ownsRow_nil w base _ 1
theorem OwnInts.nil (w : World) (base : Nat) : OwnInts w base (.slice none 0 0) [] := World.ownsRow_nil w base _ 1
theorem ownsRow_iterAt {w : World} {base : Nat} {e : TypeId} {v : Value} {n : Nat} {xs : List Value} (h : w.ownsRow base e 1 v n xs) {k : Nat} (hk : k < base) (s : ByteArray) (pos : Nat) : (w.iterAt k s pos).ownsRow base e 1 v n xs := by
  refine ⟨h.1, ?_⟩
  rcases h.2 with h0 | ⟨g, cap, cur, hv, hbg, hh, hnc, hcm, hcs, htake⟩
  · exact Or.inl h0
  · exact Or.inr ⟨g, cap, cur, hv, hbg, by rw [iterAt_other w k g s pos (by omega)]; exact hh, hnc, hcm, hcs, htake⟩
theorem OwnStrs.iterAt {w : World} {base : Nat} {v : Value} {xs : List ByteArray} (h : OwnStrs w base v xs) {k : Nat} (hk : k < base) (s : ByteArray) (pos : Nat) : OwnStrs (w.iterAt k s pos) base v xs := ownsRow_iterAt h hk s pos
theorem OwnStrs.alloc {w : World} {base : Nat} {v : Value} {xs : List ByteArray} (h : OwnStrs w base v xs) (o : Obj) : OwnStrs (w.alloc o) base v xs := World.ownsRow.alloc h o
theorem OwnInts.alloc {w : World} {base : Nat} {v : Value} {xs : List Int} (h : OwnInts w base v xs) (o : Obj) : OwnInts (w.alloc o) base v xs := World.ownsRow.alloc h o

/-- a slice that is one -/
def Sd (w : World) (A : Option Addr) (c : Nat) : Prop := (∀ k, A = some k → k.block < w.heap.size) ∧ c ≤ maxLen ∧ (A = none → c = 0)
theorem Sd.none_ (w : World) : Sd w none 0 := ⟨(fun k h => by cases h), Nat.zero_le _, fun _ => rfl⟩
theorem OwnStrs.strs {w : World} {base : Nat} {v : Value} {xs : List ByteArray} (h : OwnStrs w base v xs) : ∃ A c, v = .slice A xs.length c ∧ Strs w A xs ∧ xs.length ≤ c ∧ Sd w A c := by
  rcases h.2 with ⟨hv, hn⟩ | ⟨g, cap, cur, hv, hbg, hh, hnc, hcm, hcs, htake⟩
  · have hx : xs = [] := List.eq_nil_of_length_eq_zero hn
    subst hx
    exact ⟨none, 0, hv, Strs.none_, Nat.le_refl _, Sd.none_ w⟩
  · have hlt : g < w.heap.size := by
      rcases Nat.lt_or_ge g w.heap.size with a | a
      · exact a
      · rw [Array.getElem?_eq_none a] at hh; cases hh
    refine ⟨_, cap, hv, ?_, hnc, ⟨fun k h => by cases h; exact hlt, hcm, fun h => by cases h⟩⟩
    intro k x hx
    refine ⟨g, 0, rfl, hlt, ?_⟩
    rw [Nat.zero_add, cell_of_row w g k cur _ (0, 0) hh]
    have hk : k < xs.length := (List.getElem?_eq_some_iff.1 hx).1
    have e : (cur.toList.take (xs.length * 1))[k]? = some (.string x) := by rw [htake, List.getElem?_map, hx]; rfl
    rw [List.getElem?_take, if_pos (by omega)] at e
    rw [← e, Array.getElem?_toList]
theorem OwnInts.ints {w : World} {base : Nat} {v : Value} {xs : List Int} (h : OwnInts w base v xs) : ∃ A c, v = .slice A xs.length c ∧ Ints w A xs := by
  rcases h.2 with ⟨hv, hn⟩ | ⟨g, cap, cur, hv, hbg, hh, hnc, hcm, hcs, htake⟩
  · have hx : xs = [] := List.eq_nil_of_length_eq_zero hn
    subst hx
    exact ⟨none, 0, hv, fun k x h => by simp at h⟩
  · refine ⟨_, cap, hv, ?_⟩
    intro k x hx
    have hlt : g < w.heap.size := by
      rcases Nat.lt_or_ge g w.heap.size with a | a
      · exact a
      · rw [Array.getElem?_eq_none a] at hh; cases hh
    refine ⟨g, 0, rfl, hlt, ?_⟩
    rw [Nat.zero_add, cell_of_row w g k cur _ (0, 0) hh]
    have hk : k < xs.length := (List.getElem?_eq_some_iff.1 hx).1
    have e : (cur.toList.take (xs.length * 1))[k]? = some (.int .i64 x) := by rw [htake, List.getElem?_map, hx]; rfl
    rw [List.getElem?_take, if_pos (by omega)] at e
    rw [← e, Array.getElem?_toList]

theorem wpList_appi {w : World} {ops : Array Oper} {rest : List Oper} {o : Oper} {a : Act} {Q : Exit → Act → World → Prop} (hgd : o.guard = none) (s x : Operand)
    (ho : o.op = .call { callee := .builtin .append, args := #[s, x], argTypes := #[41, 41] })
    (base : Nat) (v : Value) (xs : List Int) (hs : a.eval s = v) (hown : OwnInts w base v xs) (g : Nat) (y : Int) (hx : a.eval x = .slice (some ⟨g, 0, none⟩) 1 1)
    (hc : w.cell? ⟨g, 0, none⟩ = some (.int .i64 y)) (hlen : xs.length ≤ 2000000) (hbase : base ≤ w.heap.size)
    (h : ∀ (v' : Value) (w' : World), OwnInts w' base v' (xs ++ [y]) → Below base w w' → wpList Tryd.prog ops Q rest (a.put o.dst v') w') :
    wpList Tryd.prog ops Q (o :: rest) a w := by
  obtain ⟨i0, hi0, hz0, hz1, hz2⟩ := info_parts info_int
  refine wpList_append_own w hgd s x _ ho base _ i0 (.int .i64 0) 1 8 Tryd.underlying41 hi0 hz0 hz1 hz2 rfl (by decide) v xs.length _ hs hown ⟨g, 0, none⟩ 1 1 [.int .i64 y] hx (by simp) ?_ ?_ (by simp only [maxLen]; omega) (by omega) hbase ?_
  · intro j u hu
    match j, hu with
    | 0, hu => simp at hu; subst hu; exact hc
    | j + 1, hu => simp at hu
  · intro u hu
    simp at hu; subst hu; rfl
  · intro v' w' hown' hg _
    refine h v' w' ?_ ((Below.refl _ _).grown hg hbase fun k hk => (hown.lt k hk).1)
    unfold OwnInts
    rw [List.map_append, List.length_append]
    exact hown'

def Utf8T (w : World) : Prop :=
  True
/-- the library's four tables, as they are laid -/
def Tabs (w : World) : Prop :=
  Utf8T w ∧ Lib.TabIs Tryd.prog w "unicode.properties" .u8 Lib.propertiesTab ∧ RVar (Tryd.laysLetter_ren.g 8) letterT w ∧ RVar (Tryd.laysDigit_ren.g 5) digitT w
theorem Tabs.below {w w' : World} (h : Tabs w) (hb : Below w.heap.size w w') : Tabs w' :=
  ⟨trivial, TabIs_below (g := Tryd.laysLetter_ren.g 7) (by kernel_rfl) h.2.1 hb, RVar_below h.2.2.1 hb, RVar_below h.2.2.2 hb⟩
theorem letter_c (r : Int) (w : World) (hlo : -2147483648 ≤ r) (hhi : r ≤ 2147483647) (hT : Tabs w) :
    Calls Tryd.prog 57 #[.int .i32 r] w fun e w' => e = .returned (.bool (isLetterU r)) ∧ Below w.heap.size w w' :=
  Any.unicode_IsLetter_all Tryd.laysLetter (by kernel_rfl) r w hlo hhi hT.2.1 hT.2.2.1
theorem digit_c (r : Int) (w : World) (hlo : -2147483648 ≤ r) (hhi : r ≤ 2147483647) (hT : Tabs w) :
    Calls Tryd.prog 58 #[.int .i32 r] w fun e w' => e = .returned (.bool (isDigitU r)) ∧ Below w.heap.size w w' :=
  Any.unicode_IsDigit_all Tryd.laysDigit r w hlo hhi hT.2.2.2

theorem blw {w w1 w2 : World} (h : Below w.heap.size w w1) (k : Below w1.heap.size w1 w2) : Below w.heap.size w w2 := h.trans (k.mono h.size)

/-! The small calls of layer 2: lower, small, Same (both), isGap, isInner, hasControl, Runes, SameAll. -/
open Go.RowKit Go.Shelf Go.Lib
set_option linter.unusedVariables false

def lowN (c : Nat) : Nat := if 65 ≤ c ∧ c ≤ 90 then c + 32 else c
theorem lowN_lt {c : Nat} (h : c < 256) : lowN c < 256 := by unfold lowN; split <;> omega
theorem lower_any (c : Nat) (w : World) (hc : c < 256) :
    Calls Tryd.prog 88 #[.int .u8 (c : Int)] w fun e w' => e = .returned (.int .u8 (lowN c : Nat)) ∧ w' = w := by
  unfold lowN
  by_cases h1 : 65 ≤ c
  · by_cases h2 : c ≤ 90
    · rw [if_pos ⟨h1, h2⟩]
      go_enter Tryd.func88, Tryd.ntmps88
      go_wp2
      go_ret
      exact ⟨by first | rfl | (congr 2; omega), rfl⟩
    · rw [if_neg (by omega)]
      go_enter Tryd.func88, Tryd.ntmps88
      go_wp2
      go_ret
      exact ⟨rfl, rfl⟩
  · rw [if_neg (by omega)]
    go_enter Tryd.func88, Tryd.ntmps88
    go_wp2
    go_ret
    exact ⟨rfl, rfl⟩
theorem small_any (c : Nat) (w : World) (hc : c < 256) :
    Calls Tryd.prog 75 #[.int .u8 (c : Int)] w fun e w' => e = .returned (.int .u8 (lowN c : Nat)) ∧ w' = w := by
  unfold lowN
  by_cases h1 : 65 ≤ c
  · by_cases h2 : c ≤ 90
    · rw [if_pos ⟨h1, h2⟩]
      go_enter Tryd.func75, Tryd.ntmps75
      go_wp2
      go_ret
      exact ⟨by first | rfl | (congr 2; omega), rfl⟩
    · rw [if_neg (by omega)]
      go_enter Tryd.func75, Tryd.ntmps75
      go_wp2
      go_ret
      exact ⟨rfl, rfl⟩
  · rw [if_neg (by omega)]
    go_enter Tryd.func75, Tryd.ntmps75
    go_wp2
    go_ret
    exact ⟨rfl, rfl⟩

def gapI (r : Int) : Bool := r == 32 || r == 9
theorem isInner_any (r : Int) (w : World) (hlo : -2147483648 ≤ r) (hhi : r ≤ 2147483647) (hT : Tabs w) :
    Calls Tryd.prog 80 #[.int .i32 r] w fun e w' => e = .returned (.bool (innerR r)) ∧ Below w.heap.size w w' := by
  have c := digit_c r w hlo hhi hT
  clear hT
  unfold innerR
  cases hd : isDigitU r <;> rw [hd] at c
  · by_cases h1 : r = 95
    · subst h1
      go_enter Tryd.func80, Tryd.ntmps80
      go_wp2_with (go_at_call 58; refine c.mono ?_; rintro e w1 ⟨rfl, hb1⟩)
      go_ret
      exact ⟨rfl, hb1⟩
    · have e1 : (r == 95) = false := beq_eq_false_iff_ne.2 h1
      by_cases h2 : r = 45
      · subst h2
        go_enter Tryd.func80, Tryd.ntmps80
        go_wp2_with (go_at_call 58; refine c.mono ?_; rintro e w1 ⟨rfl, hb1⟩)
        go_ret
        exact ⟨rfl, hb1⟩
      · have e2 : (r == 45) = false := beq_eq_false_iff_ne.2 h2
        go_enter Tryd.func80, Tryd.ntmps80
        go_wp2_with (go_at_call 58; refine c.mono ?_; rintro e w1 ⟨rfl, hb1⟩)
        go_ret
        exact ⟨by first | rfl | (rw [e1, e2]; rfl), hb1⟩
  · go_enter Tryd.func80, Tryd.ntmps80
    go_wp2_with (go_at_call 58; refine c.mono ?_; rintro e w1 ⟨rfl, hb1⟩)
    go_ret
    exact ⟨rfl, hb1⟩

theorem iter_below (w : World) (s : ByteArray) (p : Nat) : Below w.heap.size w (w.iter s p) := (Below.refl _ _).alloc (Nat.le_refl _) _
theorem drop_ne {s : ByteArray} {pos : Nat} (h : pos < s.size) : (lst s).drop pos ≠ [] := by
  intro e
  have := congrArg List.length e
  rw [List.length_drop] at this
  have h2 : (lst s).length = s.size := rfl
  simp only [List.length_nil] at this
  omega
theorem drop_end {s : ByteArray} {pos : Nat} (h : ¬ pos < s.size) : (lst s).drop pos = [] := List.drop_eq_nil_of_le (Nat.not_lt.1 h)
theorem dec_at {s : ByteArray} {pos : Nat} (h : pos < s.size) : dec ((lst s).drop pos) = Utf8.decode s pos :: dec ((lst s).drop (pos + (Utf8.decode s pos).2)) := by
  rw [dec_step _ (drop_ne h), decodeL_drop, List.drop_drop]
theorem dec_width {s : ByteArray} {pos : Nat} (h : pos < s.size) : 1 ≤ (Utf8.decode s pos).2 ∧ pos + (Utf8.decode s pos).2 ≤ s.size := by
  have h1 := decodeL_width ((lst s).drop pos)
  have h2 := decodeL_le _ (drop_ne h)
  rw [decodeL_drop] at h1 h2
  rw [List.length_drop] at h2
  have h3 : (lst s).length = s.size := rfl
  omega

/-! Same (the program's and the document's), SameAll, hasControl. -/
open Go.RowKit Go.Shelf Go.Lib
set_option linter.unusedVariables false

def lowL (l : List UInt8) : List Nat := l.map (fun c => lowN c.toNat)
def sameS (a b : List UInt8) : Bool := lowL a == lowL b
theorem byte_at (s : ByteArray) (k : Nat) (h : k < s.size) : (lst s)[k]? = some s[k] := by
  rw [List.getElem?_eq_getElem (by simpa using h)]; rfl
theorem take_byte (s : ByteArray) (k : Nat) (h : k < s.size) : (lst s).take (k + 1) = (lst s).take k ++ [s[k]] := by
  rw [List.take_add_one, byte_at s k h]; rfl
theorem sameS_len {a b : ByteArray} (h : a.size ≠ b.size) : sameS (lst a) (lst b) = false := by
  rw [sameS, beq_eq_false_iff_ne]
  intro e
  have := congrArg List.length e
  simp [lowL] at this
  exact h this
theorem sameS_no {a b : ByteArray} {k : Nat} (ha : k < a.size) (hb : k < b.size) (h : lowN a[k].toNat ≠ lowN b[k].toNat) : sameS (lst a) (lst b) = false := by
  rw [sameS, beq_eq_false_iff_ne]
  intro e
  have := congrArg (fun l => l[k]?) e
  simp only [lowL, List.getElem?_map, byte_at a k ha, byte_at b k hb, Option.map_some, Option.some.injEq] at this
  exact h this
theorem low_take {a b : ByteArray} {k : Nat} (ha : k < a.size) (hb : k < b.size) (h : lowN a[k].toNat = lowN b[k].toNat) (hi : lowL ((lst a).take k) = lowL ((lst b).take k)) : lowL ((lst a).take (k + 1)) = lowL ((lst b).take (k + 1)) := by
  rw [take_byte a k ha, take_byte b k hb]
  simp only [lowL, List.map_append, List.map_cons, List.map_nil] at hi ⊢
  rw [hi, h]
theorem sameS_yes {a b : ByteArray} {k : Nat} (h : a.size = b.size) (hk : ¬ k < a.size) (hi : lowL ((lst a).take k) = lowL ((lst b).take k)) : sameS (lst a) (lst b) = true := by
  rw [List.take_of_length_le (show (lst a).length ≤ k from Nat.not_lt.1 hk), List.take_of_length_le (show (lst b).length ≤ k from by rw [lst_len, ← h]; exact Nat.not_lt.1 hk)] at hi
  rw [sameS, hi]; simp

set_option maxHeartbeats 1600000 in
theorem same_any (a b : ByteArray) (w : World) (ha : a.size ≤ 9000000000000000000) (hb : b.size ≤ 9000000000000000000) :
    Calls Tryd.prog 79 #[.string a, .string b] w fun e w' => e = .returned (.bool (sameS (lst a) (lst b))) ∧ Below w.heap.size w w' := by
  by_cases hl : a.size = b.size
  · have hz : ((a.size : Int) != (b.size : Int)) = false := by rw [hl]; simp
    have HL := Lib.hid hl; clear hl
    go_enter Tryd.func79, Tryd.ntmps79
    go_wp2
    go_loopw [5, 13] (fun x i w' => ∃ k : Nat, k ≤ a.size ∧ i = .int .i64 k ∧ Below w.heap.size w w' ∧ Hid (lowL ((lst a).take k) = lowL ((lst b).take k))) (fun _ i _ => a.size - (intOf i).toNat)
    case atStart => exact ⟨0, Nat.zero_le _, rfl, Below.refl _ _, Lib.hid rfl⟩
    case round =>
      obtain ⟨k, hk, rfl, hbw, hi⟩ := hrel
      by_cases hlt : k < a.size
      · have hlb : k < b.size := by have := HL.out; omega
        by_cases he : lowN a[k].toNat = lowN b[k].toNat
        · have HN := Lib.hid (low_take hlt hlb he hi.out)
          have hne : (((lowN a[k].toNat : Nat) : Int) != ((lowN b[k].toNat : Nat) : Int)) = false := by rw [he]; simp
          clear he
          go_wp2_with fail
          go_quiet ((go_at_call 88; exact Calls.quiet_of_same (lower_any _ _ (UInt8.toNat_lt _))))
          go_wp2
          go_roundw
          case rel => exact ⟨k + 1, by omega, by go_num, below_drewNv hbw _, HN⟩
          case measure => simp [intOf]; omega
        · have HN := Lib.hid (sameS_no hlt hlb he)
          have hne : (((lowN a[k].toNat : Nat) : Int) != ((lowN b[k].toNat : Nat) : Int)) = true := by simp; omega
          clear he
          go_wp2_with fail
          go_quiet ((go_at_call 88; exact Calls.quiet_of_same (lower_any _ _ (UInt8.toNat_lt _))))
          go_wp2
          go_ret
          exact ⟨by rw [HN.out]; rfl, below_drewNv hbw _⟩
      · have HN := Lib.hid (sameS_yes HL.out hlt hi.out)
        go_wp2
        go_ret
        exact ⟨by rw [HN.out]; rfl, hbw⟩
  · have hz : ((a.size : Int) != (b.size : Int)) = true := by simp; omega
    have HN := Lib.hid (sameS_len hl); clear hl
    go_enter Tryd.func79, Tryd.ntmps79
    go_wp2
    go_ret
    exact ⟨by rw [HN.out]; rfl, Below.refl _ _⟩

set_option maxHeartbeats 1600000 in
theorem rsame_any (a b : ByteArray) (w : World) (ha : a.size ≤ 9000000000000000000) (hb : b.size ≤ 9000000000000000000) :
    Calls Tryd.prog 59 #[.string a, .string b] w fun e w' => e = .returned (.bool (sameS (lst a) (lst b))) ∧ Below w.heap.size w w' := by
  by_cases hl : a.size = b.size
  · have hz : ((a.size : Int) != (b.size : Int)) = false := by rw [hl]; simp
    have HL := Lib.hid hl; clear hl
    go_enter Tryd.func59, Tryd.ntmps59
    go_wp2
    go_loopw [5] (fun i w' => ∃ k : Nat, k ≤ a.size ∧ i = .int .i64 k ∧ Below w.heap.size w w' ∧ Hid (lowL ((lst a).take k) = lowL ((lst b).take k))) (fun i _ => a.size - (intOf i).toNat)
    case atStart => exact ⟨0, Nat.zero_le _, rfl, Below.refl _ _, Lib.hid rfl⟩
    case round =>
      obtain ⟨k, hk, rfl, hbw, hi⟩ := hrel
      by_cases hlt : k < a.size
      · have hlb : k < b.size := by have := HL.out; omega
        by_cases he : lowN a[k].toNat = lowN b[k].toNat
        · have HN := Lib.hid (low_take hlt hlb he hi.out)
          have hne : (((lowN a[k].toNat : Nat) : Int) != ((lowN b[k].toNat : Nat) : Int)) = false := by rw [he]; simp
          clear he
          go_wp2_with fail
          go_quiet ((go_at_call 75; exact Calls.quiet_of_same (small_any _ _ (UInt8.toNat_lt _))))
          go_wp2
          go_roundw
          case rel => exact ⟨k + 1, by omega, by go_num, below_drewNv hbw _, HN⟩
          case measure => simp [intOf]; omega
        · have HN := Lib.hid (sameS_no hlt hlb he)
          have hne : (((lowN a[k].toNat : Nat) : Int) != ((lowN b[k].toNat : Nat) : Int)) = true := by simp; omega
          clear he
          go_wp2_with fail
          go_quiet ((go_at_call 75; exact Calls.quiet_of_same (small_any _ _ (UInt8.toNat_lt _))))
          go_wp2
          go_ret
          exact ⟨by rw [HN.out]; rfl, below_drewNv hbw _⟩
      · have HN := Lib.hid (sameS_yes HL.out hlt hi.out)
        go_wp2
        go_ret
        exact ⟨by rw [HN.out]; rfl, hbw⟩
  · have hz : ((a.size : Int) != (b.size : Int)) = true := by simp; omega
    have HN := Lib.hid (sameS_len hl); clear hl
    go_enter Tryd.func59, Tryd.ntmps59
    go_wp2
    go_ret
    exact ⟨by rw [HN.out]; rfl, Below.refl _ _⟩


theorem map_some {zs : List ByteArray} {k : Nat} {x : ByteArray} (h : zs[k]? = some x) : zs.take (k + 1) = zs.take k ++ [x] := by
  rw [List.take_add_one, h]; rfl
/-! hasControl, and text.Name. -/
open Go.RowKit Go.Shelf Go.Lib
set_option linter.unusedVariables false

theorem keep_obj {W w1 : World} (hb : Below W.heap.size W w1) {k : Nat} {o : Obj} (h : W.heap[k]? = some o) : w1.heap[k]? = some o :=
  (hb.block k (Array.getElem?_eq_some_iff.1 h).1).trans h
theorem take_step (l : List UInt8) (pos wd : Nat) : l.take (pos + wd) = l.take pos ++ (l.drop pos).take wd := by
  rw [List.take_add]
theorem head_at {s : ByteArray} {pos : Nat} (h : pos < s.size) : ((lst s).drop pos).getD 0 0 = s[pos] := by
  rw [List.getD_eq_getElem?_getD, List.getElem?_drop, Nat.add_zero, byte_at s pos h]; rfl
theorem high_at {s : ByteArray} {pos : Nat} (h : pos < s.size) (ha : 128 ≤ s[pos].toNat) : 128 ≤ (Utf8.decode s pos).1 ∧ ∀ b ∈ ((lst s).drop pos).take (Utf8.decode s pos).2, 128 ≤ b.toNat := by
  have := step_high (drop_ne h) (by rw [head_at h]; exact ha)
  rw [decodeL_drop] at this
  exact this
theorem ctl_high {b : UInt8} (h : 128 ≤ b.toNat) : ctl b = false := by
  unfold ctl
  have h1 : ¬ b.toNat < 32 := by omega
  have h2 : (b == 127) = false := by
    rw [beq_eq_false_iff_ne]; intro e; subst e; exact absurd h (by decide)
  simp [h1, h2]
theorem ctl_of (b : UInt8) : ctl b = ((decide (b.toNat < 32) && !(b.toNat == 9)) || (b.toNat == 127)) := by
  have e : ∀ k : UInt8, (b == k) = (b.toNat == k.toNat) := fun k => by
    by_cases h : b = k
    · subst h; simp
    · rw [beq_eq_false_iff_ne.2 h]
      symm; rw [beq_eq_false_iff_ne]; intro e; exact h (UInt8.toNat_inj.1 e)
  unfold ctl
  rw [bne, e, e]; rfl
theorem ctlL_yes {s : ByteArray} {pos : Nat} (h : pos < s.size) (hc : ctl s[pos] = true) : ctlL (lst s) = true := by
  unfold ctlL
  rw [List.any_eq_true]
  exact ⟨_, List.mem_of_getElem? (byte_at s pos h), hc⟩
theorem ctlL_snoc {s : ByteArray} {pos : Nat} (h : pos < s.size) (hc : ctl s[pos] = false) (hi : ctlL ((lst s).take pos) = false) : ctlL ((lst s).take (pos + 1)) = false := by
  rw [take_byte s pos h]
  unfold ctlL at *
  rw [List.any_append, hi]; simp [hc]
theorem ctlL_high {s : ByteArray} {pos : Nat} (h : pos < s.size) (ha : 128 ≤ s[pos].toNat) (hi : ctlL ((lst s).take pos) = false) : ctlL ((lst s).take (pos + (Utf8.decode s pos).2)) = false := by
  rw [take_step]
  unfold ctlL at *
  rw [List.any_append, hi, Bool.false_or, List.any_eq_false]
  intro b hb
  simp [ctl_high ((high_at h ha).2 b hb)]
theorem ctlL_all {s : ByteArray} {pos : Nat} (h : ¬ pos < s.size) (hi : ctlL ((lst s).take pos) = false) : ctlL (lst s) = false := by
  rwa [List.take_of_length_le (show (lst s).length ≤ pos from Nat.not_lt.1 h)] at hi

set_option maxHeartbeats 3200000 in
theorem name_any (s : ByteArray) (w : World) (hs : s.size ≤ 9000000000000000000) (hT : Tabs w) :
    Calls Tryd.prog 68 #[.string s] w fun e w' => e = .returned (.bool (nameD (lst s))) ∧ Below w.heap.size w w' := by
  have HT := Lib.hid hT; clear hT
  go_enter Tryd.func68, Tryd.ntmps68
  go_wp2
  go_loopw [3] (fun t wr => ∃ pos n : Nat, Hid (wr.heap[w.heap.size]? = some (.stringIter s pos)) ∧ pos ≤ s.size ∧ n ≤ 40 ∧ n ≤ pos ∧ (n = 0 → pos = 0) ∧ t = .int .i64 (n : Int) ∧ Below w.heap.size w wr ∧ Hid (nameD (lst s) = nameR n (dec ((lst s).drop pos)))) (fun _ wr => s.size - wr.iterPos w.heap.size)
  case atStart => exact ⟨0, 0, Lib.hid (World.iter_heap w s 0), by omega, by omega, by omega, fun _ => rfl, rfl, iter_below _ _ _, Lib.hid rfl⟩
  case round =>
    obtain ⟨pos, n, hit, hp, hn, hnp, h0, rfl, hbw, hi⟩ := hrel
    by_cases hlt : pos < s.size
    · have hnx : ∀ ty, (Instr.next (.pointer (some ⟨w.heap.size, 0, none⟩)) true ty).run Tryd.prog wr = _ := fun ty => run_next_any_at wr w.heap.size s pos ty hit.out hlt
      have hd := dec_width hlt
      have hi2 := hi.out
      rw [dec_at hlt, nameR] at hi2
      have HI := Lib.hid hi2; clear hi2
      have hle := decode_le s pos
      have hit2 := Lib.hid (iterAt_heap wr w.heap.size s pos (pos + (Utf8.decode s pos).2) hit.out)
      have hbw2 := below_iterAt hbw (k := w.heap.size) (Nat.le_refl _) s (pos + (Utf8.decode s pos).2)
      have hpos : wr.iterPos w.heap.size = pos := by simp [World.iterPos, hit.out]
      have HP := Lib.hid hpos; clear hpos
      generalize Utf8.decode s pos = dd at hnx hd HI hle hit2 hbw2
      obtain ⟨r, wd⟩ := dd
      simp only at hnx hd HI hle hit2 hbw2
      have cL := letter_c (r : Int) _ (by omega) (by omega) (HT.out.below hbw2)
      have cI : ∀ w1, Below (wr.iterAt w.heap.size s (pos + wd)).heap.size (wr.iterAt w.heap.size s (pos + wd)) w1 → Calls Tryd.prog 80 #[.int .i32 (r : Int)] w1 _ :=
        fun w1 h => isInner_any (r : Int) w1 (by omega) (by omega) ((HT.out.below hbw2).below h)
      have cut : ∀ {w1 : World}, Below (wr.iterAt w.heap.size s (pos + wd)).heap.size (wr.iterAt w.heap.size s (pos + wd)) w1 → Below w.heap.size w w1 := fun h => blw hbw2 h
      cases hl : isLetterU (r : Int) <;> rw [hl] at cL
      · by_cases hz : n = 0
        · obtain rfl := h0 hz
          subst hz
          simp only [Nat.zero_add] at hnx hd HI hit2 hbw2 cL cut
          clear cI hp hn hnp h0 HP
          have HN := Lib.hid (show nameD (lst s) = false from by rw [HI.out]; simp [okAt, hl])
          go_wp2_with (go_at_call 57; refine cL.mono ?_; rintro e w1 ⟨rfl, hb1⟩)
          go_ret
          exact ⟨by rw [HN.out]; rfl, cut hb1⟩
        · have epos : ((pos : Int) == 0) = false := by rw [beq_eq_false_iff_ne]; omega
          cases hin : innerR (r : Int) <;> simp only [hin] at cI
          · have HN := Lib.hid (show nameD (lst s) = false from by rw [HI.out]; simp [okAt, hl, hin])
            go_wp2_with (first | (go_at_call 57; refine cL.mono ?_; rintro e w1 ⟨rfl, hb1⟩) | (go_at_call 80; refine (cI _ hb1).mono ?_; rintro e w2 ⟨rfl, hb2⟩))
            go_ret
            exact ⟨by rw [HN.out]; rfl, blw (cut hb1) hb2⟩
          · by_cases h40 : n + 1 ≤ 40
            · have HN := Lib.hid (show nameD (lst s) = nameR (n + 1) (dec ((lst s).drop (pos + wd))) from by rw [HI.out]; simp [okAt, hl, hin, hz, h40])
              go_wp2_with (first | (go_at_call 57; refine cL.mono ?_; rintro e w1 ⟨rfl, hb1⟩) | (go_at_call 80; refine (cI _ hb1).mono ?_; rintro e w2 ⟨rfl, hb2⟩))
              go_roundw
              case rel => exact ⟨pos + wd, n + 1, Lib.hid (keep_obj hb2 (keep_obj hb1 hit2.out)), by omega, by omega, by omega, by omega, by go_num, blw (cut hb1) hb2, HN⟩
              case measure => rw [HP.out]; simp [World.iterPos, keep_obj hb2 (keep_obj hb1 hit2.out)]; omega
            · have HN := Lib.hid (show nameD (lst s) = false from by rw [HI.out]; simp [h40])
              go_wp2_with (first | (go_at_call 57; refine cL.mono ?_; rintro e w1 ⟨rfl, hb1⟩) | (go_at_call 80; refine (cI _ hb1).mono ?_; rintro e w2 ⟨rfl, hb2⟩))
              go_ret
              exact ⟨by rw [HN.out]; rfl, blw (cut hb1) hb2⟩
      · by_cases h40 : n + 1 ≤ 40
        · have HN := Lib.hid (show nameD (lst s) = nameR (n + 1) (dec ((lst s).drop (pos + wd))) from by rw [HI.out]; simp [okAt, hl, h40])
          go_wp2_with (go_at_call 57; refine cL.mono ?_; rintro e w1 ⟨rfl, hb1⟩)
          go_roundw
          case rel => exact ⟨pos + wd, n + 1, Lib.hid (keep_obj hb1 hit2.out), by omega, by omega, by omega, by omega, by go_num, cut hb1, HN⟩
          case measure => rw [HP.out]; simp [World.iterPos, keep_obj hb1 hit2.out]; omega
        · have HN := Lib.hid (show nameD (lst s) = false from by rw [HI.out]; simp [h40])
          go_wp2_with (go_at_call 57; refine cL.mono ?_; rintro e w1 ⟨rfl, hb1⟩)
          go_ret
          exact ⟨by rw [HN.out]; rfl, cut hb1⟩
    · have hnx : ∀ ty, (Instr.next (.pointer (some ⟨w.heap.size, 0, none⟩)) true ty).run Tryd.prog wr = _ := fun ty => run_next_end_at wr w.heap.size s pos ty hit.out hlt
      have hi2 := hi.out
      rw [drop_end hlt, dec_nil, nameR] at hi2
      have HI := Lib.hid hi2; clear hi2
      by_cases hz : n = 0
      · subst hz
        go_wp2
        go_ret
        exact ⟨by rw [HI.out]; rfl, hbw⟩
      · have hpz : (0 : Int) < (n : Int) := by omega
        go_wp2
        go_ret
        exact ⟨by rw [HI.out]; simp [hz]; omega, hbw⟩

end Go.Proofs.YtkicanegjkemoaaDoor.Txt

