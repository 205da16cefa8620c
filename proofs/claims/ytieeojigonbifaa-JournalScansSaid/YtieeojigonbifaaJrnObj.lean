/- A journal in memory: New, Len, Bytes, Add; what the chapter's example fixes (known). -/
import Derived.Test.YtieeojigonbifaaJrnSame
import Derived.Lib.SlBytesConst
namespace Go.Proofs.Ytieeojigonbifaa
open Go.RowKit
set_option linter.unusedVariables false

/-- w' is w with new blocks, and with writes to blocks of which S holds alone -/
structure Chg (S : Nat → Prop) (w w' : World) : Prop where
  os : w'.os = w.os
  tape : w'.tape = w.tape
  output : w'.output = w.output
  size : w.heap.size ≤ w'.heap.size
  block : ∀ k, k < w.heap.size → ¬ S k → w'.heap[k]? = w.heap[k]?
theorem Chg.refl (S : Nat → Prop) (w : World) : Chg S w w := ⟨rfl, rfl, rfl, Nat.le_refl _, fun _ _ _ => rfl⟩
theorem Chg.trans {S : Nat → Prop} {a b c : World} (h : Chg S a b) (k : Chg S b c) : Chg S a c :=
  ⟨k.os.trans h.os, k.tape.trans h.tape, k.output.trans h.output, Nat.le_trans h.size k.size, fun i hi hs => (k.block i (Nat.lt_of_lt_of_le hi h.size) hs).trans (h.block i hi hs)⟩
theorem Chg.next {S S' : Nat → Prop} {a b c : World} (h : Chg S a b) (k : Chg S' b c) (hS : ∀ x, x < a.heap.size → S' x → S x) : Chg S a c :=
  ⟨k.os.trans h.os, k.tape.trans h.tape, k.output.trans h.output, Nat.le_trans h.size k.size, fun i hi hs => (k.block i (Nat.lt_of_lt_of_le hi h.size) (fun e => hs (hS i hi e))).trans (h.block i hi hs)⟩
theorem Chg.mono {S S' : Nat → Prop} {w w' : World} (h : Chg S w w') (hS : ∀ b, b < w.heap.size → S b → S' b) : Chg S' w w' :=
  ⟨h.os, h.tape, h.output, h.size, fun k hk hs => h.block k hk fun e => hs (hS k hk e)⟩
theorem Chg.of_below {S : Nat → Prop} {w w' : World} (h : Below w.heap.size w w') : Chg S w w' := ⟨h.os, h.tape, h.output, h.size, fun k hk _ => h.block k hk⟩
theorem Chg.of_grown {S : Nat → Prop} {w w' : World} {row : Option Nat} (h : w.grownBy w' row) (hS : ∀ b, row = some b → S b) : Chg S w w' :=
  ⟨h.os, h.tape, h.output, h.size, fun k hk hs => h.block k hk fun e => hs (hS k e.symm)⟩
theorem Chg.setCell {S : Nat → Prop} {a w : World} (h : Chg S a w) {p : Addr} (hp : p.block < a.heap.size → S p.block) (u : Value) : Chg S a (w.setCell p u) :=
  ⟨h.os, h.tape, h.output, by simp [World.setCell]; exact h.size, fun k hk hs => (Below.heap_setCell w p u k (fun e => by subst e; exact hs (hp hk))).trans (h.block k hk hs)⟩
theorem Chg.below {S : Nat → Prop} {w w' : World} {base : Nat} (h : Chg S w w') (hb : base ≤ w.heap.size) (hS : ∀ b, S b → base ≤ b) : Below base w w' :=
  ⟨h.os, h.tape, h.output, h.size, fun k hk => h.block k (by omega) fun e => by have := hS k e; omega⟩

theorem blk_lt {w : World} {g : Nat} {o : Obj} (h : w.heap[g]? = some o) : g < w.heap.size := by
  rcases Nat.lt_or_ge g w.heap.size with hlt | hge
  · exact hlt
  · rw [Array.getElem?_eq_none hge] at h; cases h
theorem blk_cell {w : World} {g : Nat} {cs : Array Value} {t : TypeId} (h : w.heap[g]? = some (.cells cs t (0, 0))) (i : Nat) : w.cell? ⟨g, i, none⟩ = cs[i]? := cell_of_row w g i cs t (0, 0) h
theorem blk_frozen {w : World} {g : Nat} {cs : Array Value} {t : TypeId} (h : w.heap[g]? = some (.cells cs t (0, 0))) (i : Nat) : w.frozen? ⟨g, i, none⟩ = false := by simp [World.frozen?, h]
theorem blk_set {w : World} {g : Nat} {cs : Array Value} {t : TypeId} (h : w.heap[g]? = some (.cells cs t (0, 0))) (i : Nat) (u : Value) : (w.setCell ⟨g, i, none⟩ u).heap[g]? = some (.cells (cs.setIfInBounds i u) t (0, 0)) := by
  simp [World.setCell, Array.getElem?_modify, h]

/-- block g is a journal: the frames xs, as the slice v says, and the number cnt -/
structure Jrn (w : World) (base g : Nat) (v : Value) (xs : List Int) (cnt : Nat) : Prop where
  blk : w.heap[g]? = some (.cells #[v, .int .i64 cnt] 61 (0, 0))
  low : base ≤ g
  own : OwnB w base v xs
theorem own_ne {w : World} {base g : Nat} {v : Value} {xs : List Int} {cs : Array Value} (ho : OwnB w base v xs) (h : w.heap[g]? = some (.cells cs 61 (0, 0))) : v.ownBlock ≠ some g := by
  intro e
  rcases ho.1.2 with ⟨hv, _⟩ | ⟨g', cap, cur, hv, _, hh, _⟩
  · rw [hv] at e; simp [Value.ownBlock] at e
  · rw [hv] at e
    simp [Value.ownBlock] at e
    subst e
    rw [h] at hh
    injection hh with hh
    injection hh with h1 h2
    exact absurd h2 (by decide)
theorem jrn_store {w : World} {base g : Nat} {v : Value} {xs : List Int} {a b : Value} {q : Int} {cnt : Nat} (h : w.heap[g]? = some (.cells #[a, b] 61 (0, 0))) (hg : base ≤ g) (ho : OwnB w base v xs) (hq : q = (cnt : Int)) :
    Jrn ((w.setCell ⟨g, 0, none⟩ v).setCell ⟨g, 1, none⟩ (.int .i64 q)) base g v xs cnt := by
  subst hq
  have hne := own_ne ho h
  refine ⟨?_, hg, ho.keep fun b e => ?_⟩
  · have h2 := blk_set (blk_set h 0 v) 1 (.int .i64 (cnt : Int))
    simpa using h2
  · have hb : b ≠ g := fun e' => hne (by rw [e, e'])
    rw [Below.heap_setCell _ _ _ _ hb, Below.heap_setCell _ _ _ _ hb]
theorem Jrn.apart {w : World} {base g : Nat} {v : Value} {xs : List Int} {cnt : Nat} (h : Jrn w base g v xs cnt) : v.ownBlock ≠ some g := own_ne h.own h.blk
theorem Jrn.keep {w w' : World} {base g : Nat} {v : Value} {xs : List Int} {cnt : Nat} (h : Jrn w base g v xs cnt) (hk : ∀ b, (b = g ∨ v.ownBlock = some b) → b < w.heap.size → w'.heap[b]? = w.heap[b]?) : Jrn w' base g v xs cnt :=
  ⟨by rw [hk g (Or.inl rfl) (blk_lt h.blk)]; exact h.blk, h.low, h.own.keep fun b e => hk b (Or.inr e) (h.own.1.lt b e).2⟩
theorem Jrn.below {w w' : World} {base g : Nat} {v : Value} {xs : List Int} {cnt : Nat} (h : Jrn w base g v xs cnt) (hb : Below w.heap.size w w') : Jrn w' base g v xs cnt := h.keep fun b _ hlt => hb.block b hlt
theorem Jrn.slice {w : World} {base g : Nat} {v : Value} {xs : List Int} {cnt : Nat} (h : Jrn w base g v xs cnt) : ∃ A c, v = .slice A xs.length c := by
  obtain ⟨A, c, e, _⟩ := h.own.byts
  exact ⟨A, c, e⟩

def RetJ (w : World) (base : Nat) (e : Ending) (w' : World) : Prop :=
  ∃ g v, e = .returned (.pointer (some ⟨g, 0, none⟩)) ∧ Jrn w' base g v [] 0 ∧ w.heap.size ≤ g ∧ v.ownBlock = none ∧ Below w.heap.size w w'
theorem new_any (w : World) (base : Nat) (hb : base ≤ w.heap.size) : Calls Try.prog 24 #[] w (RetJ w base) := by
  go_enter Try.func24, Try.ntmps24
  go_wp2
  go_ret
  exact ⟨_, _, rfl, ⟨heap_alloc_new w _, hb, OwnB.nil _ _⟩, Nat.le_refl _, rfl, (Below.refl _ _).alloc (Nat.le_refl _) _⟩

theorem len_any (w : World) (base g : Nat) (v : Value) (xs : List Int) (cnt : Nat) (h : Jrn w base g v xs cnt) :
    Calls Try.prog 21 #[.pointer (some ⟨g, 0, none⟩)] w fun e w' => e = .returned (.int .i64 cnt) ∧ w = w' := by
  have h1 := blk_cell h.blk 1
  simp only [show (#[v, Value.int .i64 (cnt : Int)] : Array Value)[1]? = some (.int .i64 cnt) from rfl] at h1
  clear h
  go_enter Try.func21, Try.ntmps21
  go_wp2
  go_ret
  exact ⟨rfl, rfl⟩

theorem bytes_any (w : World) (base g : Nat) (v : Value) (xs : List Int) (cnt : Nat) (h : Jrn w base g v xs cnt) (hl : xs.length ≤ 90000000) :
    Calls Try.prog 22 #[.pointer (some ⟨g, 0, none⟩)] w (RetB w xs) := by
  obtain ⟨A, c, rfl, hB⟩ := h.own.byts
  have h1 := blk_cell h.blk 0
  simp only [show (#[Value.slice A xs.length c, Value.int .i64 (cnt : Int)] : Array Value)[0]? = some (.slice A xs.length c) from rfl] at h1
  clear h
  have HB := Lib.hid hB; clear hB
  go_enter Try.func22, Try.ntmps22
  go_wp2_with fail
  refine (clone_any _ _ _ xs _ _ HB.out rfl hl).mono ?_
  rintro e w' ⟨A', c', rfl, ho, hw⟩
  have HO := Lib.hid ho; clear ho
  go_wp2
  go_ret
  exact ⟨A', c', rfl, HO.out, hw⟩

theorem add_nil (A : Option Addr) (n c : Nat) (w : World) :
    Calls Try.prog 25 #[.pointer none, .slice A n c] w fun e w' => e = .returned (.int .i64 1) ∧ w = w' := by
  go_enter Try.func25, Try.ntmps25
  go_wp2
  go_ret
  exact ⟨rfl, rfl⟩

/-- the blocks that a journal is written in -/
def JB (g : Nat) (v : Value) (b : Nat) : Prop := b = g ∨ v.ownBlock = some b
/-- what Add leaves -/
def RetA (w : World) (base g : Nat) (v : Value) (xs : List Int) (cnt : Nat) (e : Ending) (w' : World) : Prop :=
  ∃ v', e = .returned (.int .i64 0) ∧ Jrn w' base g v' xs cnt ∧ (v'.ownBlock = v.ownBlock ∨ ∃ k, v'.ownBlock = some k ∧ w.heap.size ≤ k) ∧ Chg (JB g v) w w'

set_option maxHeartbeats 1600000 in
theorem add_any (R : Nat → Prop) (base g : Nat) (v : Value) (xs : List Int) (cnt : Nat) (A : Option Addr) (c n : Nat) (ls : List (List Int)) (w : World) (hj : Jrn w base g v xs cnt) (h : Rws w R A c ls) (hn : ls.length = n)
    (hR : ∀ b, R b → ¬ JB g v b) (hrec : Recs ls) (hmax : xs.length + sz ls ≤ 4194304) (hcnt : cnt + n ≤ 4194304) (hbase : base ≤ w.heap.size) :
    Calls Try.prog 25 #[.pointer (some ⟨g, 0, none⟩), .slice A n c] w (RetA w base g v (xs ++ frames ls) (cnt + n)) := by
  subst hn
  obtain ⟨A0, c0, rfl, hB0⟩ := hj.own.byts
  have h1 := blk_cell hj.blk 0
  simp only [show (#[Value.slice A0 xs.length c0, Value.int .i64 (cnt : Int)] : Array Value)[0]? = some (.slice A0 xs.length c0) from rfl] at h1
  have hcap : ls.length ≤ 9223372036854775807 := Nat.le_trans h.cap h.top
  have HJ := Lib.hid hj; clear hj
  have H := Lib.hid h; clear h
  have HR := Lib.hid hR; clear hR
  have HREC := Lib.hid hrec; clear hrec
  have HMAX := Lib.hid hmax; clear hmax
  have HB0 := Lib.hid hB0; clear hB0
  go_enter Try.func25, Try.ntmps25
  go_wp2
  go_loopw [5, 18] (fun f i wr => ∃ (k : Nat) (l : List Int) (A1 : Option Addr) (c1 : Nat), k ≤ ls.length ∧ i = .int .i64 k ∧ f = .slice A1 l.length c1 ∧ l.length ≤ 4194304 ∧ Hid (l = xs ++ frames (ls.take k)) ∧ Hid (OwnB wr base (.slice A1 l.length c1) l) ∧
      Hid ((Value.slice A1 l.length c1).ownBlock = (Value.slice A0 xs.length c0).ownBlock ∨ ∃ k, (Value.slice A1 l.length c1).ownBlock = some k ∧ w.heap.size ≤ k) ∧ Hid (Chg (fun b => (Value.slice A0 xs.length c0).ownBlock = some b) w wr)) (fun _ i _ => ls.length - (intOf i).toNat)
  case atStart => exact ⟨0, xs, A0, c0, Nat.zero_le _, rfl, rfl, by have := HMAX.out; omega, Lib.hid (by simp [frames]), Lib.hid HJ.out.own, Lib.hid (Or.inl rfl), Lib.hid (Chg.refl _ _)⟩
  case round =>
    obtain ⟨k, l, A1, c1, hk, rfl, rfl, hl, EL, HO, HP, HC⟩ := hrel
    by_cases hlt : k < ls.length
    · have hrw : Rws wr R A c ls := H.out.keep fun b hb hlt => HC.out.block b hlt fun e => HR.out b hb (Or.inr e)
      obtain ⟨b, off, A', c', x, rfl, _, hx, hc, hB⟩ := hrw.at_ hlt
      have hxr := HREC.out x (List.mem_of_getElem? hx)
      have hx2 := hxr.2
      have hroom : l.length + (8 + x.length) ≤ 4194304 := by
        have e1 : sz (ls.take (k + 1)) ≤ sz ls := by
          have := sz_app (ls.take (k + 1)) (ls.drop (k + 1))
          rw [List.take_append_drop] at this; omega
        rw [take_snoc_r hx, sz_snoc] at e1
        have e2 : l.length = xs.length + sz (ls.take k) := by rw [EL.out, List.length_append, frames_len]
        have := HMAX.out
        omega
      have HX := Lib.hid hx; clear hx
      have HB := Lib.hid hB; clear hB hrw hxr
      obtain ⟨fr, efr⟩ : ∃ fr, fr = frame x := ⟨_, rfl⟩
      have hfr : fr.length ≤ 8 + x.length := by rw [efr, frame_len]; omega
      have EFR := Lib.hid efr; clear efr
      go_wp2_with fail
      refine (frame_any _ _ _ _ x _ HB.out rfl hx2).mono ?_
      rw [← EFR.out]
      rintro e w1 ⟨A2, c2, rfl, ho, hw⟩
      have HO2 := Lib.hid ho; clear ho
      go_wp2_with (at_builtin; refine wpList_appb rfl _ _ rfl base (.slice A1 l.length c1) l rfl (HO.out.below hw) A2 c2 fr.length (fun _ => True) fr rfl rfl (byts_of HO2.out) (by omega) (by have := HC.out.size; have := hw.size; omega) ?_; intro l3 A3 c3 w3 el3 ho3 hg3 hb3 hw3; have EL3 := Lib.hid el3; clear el3)
      go_roundw
      case rel =>
        refine ⟨k + 1, l3, A3, c3, by omega, by go_num, rfl, by rw [EL3.out, List.length_append]; omega, Lib.hid ?_, Lib.hid ho3, Lib.hid ?_, Lib.hid ?_⟩
        · rw [EL3.out, EL.out, EFR.out, take_snoc_r HX.out, frames_snoc, List.append_assoc]
        · rcases hb3 with e | e
          · rw [e]; exact HP.out
          · exact Or.inr ⟨_, e, Nat.le_trans HC.out.size hw.size⟩
        · refine (HC.out.trans (Chg.of_below hw)).next (Chg.of_grown (S := fun b => (Value.slice A1 l.length c1).ownBlock = some b) hg3 fun b e => e) ?_
          intro b hb e
          rcases HP.out with e' | ⟨k', e', hk'⟩
          · rw [← e']; exact e
          · rw [e] at e'; injection e' with e'; omega
      case measure => simp [intOf]; omega
    · have hgb : wr.heap[g]? = some (.cells #[.slice A0 xs.length c0, .int .i64 (cnt : Int)] 61 (0, 0)) := by
        rw [HC.out.block g (blk_lt HJ.out.blk) HJ.out.apart]; exact HJ.out.blk
      have g0 := blk_cell hgb 0
      have g1 := blk_cell hgb 1
      have z0 := blk_frozen hgb 0
      have z1 := blk_frozen hgb 1
      simp only [show (#[Value.slice A0 xs.length c0, Value.int .i64 (cnt : Int)] : Array Value)[0]? = some (.slice A0 xs.length c0) from rfl] at g0
      simp only [show (#[Value.slice A0 xs.length c0, Value.int .i64 (cnt : Int)] : Array Value)[1]? = some (.int .i64 cnt) from rfl] at g1
      have HGB := Lib.hid hgb; clear hgb
      go_wp2
      go_ret
      obtain rfl : l = xs ++ frames ls := by rw [EL.out, List.take_of_length_le (by omega)]
      refine ⟨_, rfl, jrn_store HGB.out HJ.out.low HO.out (by omega), HP.out, ?_⟩
      exact ((HC.out.mono (S' := JB g (.slice A0 xs.length c0)) fun b _ e => Or.inr e).setCell (fun _ => Or.inl rfl) _).setCell (fun _ => Or.inl rfl) _


theorem len_at (w : World) (base g : Nat) (v : Value) (xs : List Int) (cnt : Nat) (q : Int) (h : Jrn w base g v xs cnt) (hq : (cnt : Int) = q) :
    Calls Try.prog 21 #[.pointer (some ⟨g, 0, none⟩)] w fun e w' => e = .returned (.int .i64 q) ∧ w = w' := by
  subst hq; exact len_any w base g v xs cnt h
/-- a literal of bytes, as the run-time marks it -/
theorem Byts.mark (w : World) (fz : Nat × Nat) (g n : Nat) (xs : List Int) (hx : Bts xs) (hn : xs.length = n) (hl : n ≤ maxLen) (hg : w.heap.size = g) :
    Byts (w.alloc (.cells (xs.map (Value.int .u8)).toArray 5 fz)) (fun b => w.heap.size ≤ b) (some ⟨g, 0, none⟩) n xs := by
  subst hn hg
  refine ⟨fun k x h => ?_, Nat.le_refl _, hl, fun e => by cases e⟩
  refine ⟨_, 0, rfl, Nat.le_refl _, ?_, hx x (List.mem_of_getElem? h)⟩
  rw [Nat.zero_add, cell_of_row _ _ k _ _ fz (heap_alloc_new w _)]
  simp [h]

set_option maxHeartbeats 1600000 in
theorem known_any (w : World) : Calls Try.prog 10 #[] w fun e w' => e = .returned (.bool true) ∧ Below w.heap.size w w' := by
  have kc := fun (w : World) (C : Array Value) (n c : Nat) => Lib.run_convert_bytes_const (P := Try.prog) w 22 5 C n c Try.underlying22 Try.underlying5
  have kc2 : ∀ (w : World) (o : Obj) (C : Array Value) (n c : Nat), (convert 22 22 (.slice (some ⟨w.heap.size + 1, 0, none⟩) n c)).run Try.prog ((w.alloc o).alloc (.cells C 5)) = .ok (.slice (some ⟨w.heap.size + 1, 0, none⟩) n c) ((w.alloc o).alloc (.cells C 5 (C.size, C.size + 1))) := by
    intro w o C n c
    have := kc (w.alloc o) C n c
    rw [show (w.alloc o).heap.size = w.heap.size + 1 from by simp] at this
    exact this
  go_enter Try.func10, Try.ntmps10
  go_wp2_with fail
  refine (new_any _ w.heap.size (Nat.le_refl _)).mono ?_
  rintro e w1 ⟨g, v, rfl, hj, hg, hv, hw1⟩
  have hgl : g < w1.heap.size := blk_lt hj.blk
  have HJ := Lib.hid hj; clear hj
  have HV := Lib.hid hv; clear hv
  go_wp2_with fail
  have hb : Bts [97, 98, 99] := by intro x hx; simp at hx; omega
  refine (add_any (fun b => w1.heap.size ≤ b) w.heap.size g v [] 0 _ _ _ [[97, 98, 99]] _ (HJ.out.keep fun b _ hlt => ?_) (Rws.one (Byts.mark w1 (3, 4) _ 3 [97, 98, 99] hb rfl (by simp [maxLen]) rfl) rfl (g := w1.heap.size + 1) (by simp) (by simp)) rfl ?_ ?_ (by simp [sz]) (by simp) ?_).mono ?_
  · rw [Below.heap_alloc _ _ _ (by simp; omega), Below.heap_alloc _ _ _ hlt]
  · rintro b h1 (h2 | h2)
    · omega
    · rw [HV.out] at h2; cases h2
  · intro x hx
    simp at hx
    subst hx
    exact ⟨hb, by simp⟩
  · have := hw1.size; simp; omega
  rintro e w2 ⟨v2, rfl, hj2, hp2, hc2⟩
  have HJ2 := Lib.hid hj2; clear hj2
  have hw2 : Below w.heap.size w w2 := by
    refine (((hw1.alloc hw1.size _).alloc (by have := hw1.size; simp; omega) _)).trans (hc2.below (by have := hw1.size; simp; omega) ?_)
    rintro b (e | e)
    · omega
    · rw [HV.out] at e; cases e
  clear hc2 hp2 hb
  go_wp2_with fail
  refine (sum_at (fun _ => True) _ _ _ [[97], [98, 99]] 38600999 _ (Rws.two ((Byts.mark w2 (1, 2) _ 1 [97] (by intro x hx; simp at hx; omega) rfl (by simp [maxLen]) rfl).any.alloc _) (Byts.mark (w2.alloc _) (2, 3) (w2.heap.size + 1) 2 [98, 99] (by intro x hx; simp at hx; omega) rfl (by simp [maxLen]) (by simp)).any rfl rfl (g := w2.heap.size + 1 + 1) (by simp) trivial) rfl (by decide)).mono ?_
  rintro e w3 ⟨rfl, rfl⟩
  go_wp2_with fail
  refine (sum_at (fun _ => True) _ _ _ [] 1 _ (Rws.empty _ _) rfl (by decide)).mono ?_
  rintro e w3 ⟨rfl, rfl⟩
  go_wp2_with fail
  refine (len_at _ w.heap.size _ v2 _ _ 1 (HJ2.out.keep fun b _ hlt => ?_) (by simp)).mono ?_
  · rw [Below.heap_alloc _ _ _ (by simp; omega), Below.heap_alloc _ _ _ (by simp; omega), Below.heap_alloc _ _ _ hlt]
  rintro e w3 ⟨rfl, rfl⟩
  go_wp2_with fail
  refine (add_nil _ _ _ _).mono ?_
  rintro e w3 ⟨rfl, rfl⟩
  go_wp2
  go_ret
  exact ⟨rfl, ((hw2.alloc hw2.size _).alloc (by have := hw2.size; simp; omega) _).alloc (by have := hw2.size; simp; omega) _⟩

end Go.Proofs.Ytieeojigonbifaa
