/- Lines that tell something of one task. -/
import Derived.Test.YtkicanegjkemoaaDoorFlwSet
import Derived.Deep.QuietTactic
import Derived.BigQuiet
namespace Go.Proofs.YtkicanegjkemoaaDoor
open Go.RowKit
open Clk (readE readV)
set_option linter.unusedVariables false
set_option maxRecDepth 100000

theorem zero_intW (w : World) : (zeroValue 3).run Tryd.prog w = .ok (.int .i64 0) w := zero_int w
/-- a look into the index, as an equation -/
theorem run_getM {w : World} {b n m : Nat} {g : List UInt8 → Option Int} (h : MapAt w b n g m) (s : List UInt8) (hs : s.length ≤ maxLen) :
    (Instr.lookup 101 (.map (some b)) (.string (sb s)) true).run Tryd.prog w = .ok (.tuple #[.int .i64 ((g s).getD 0), .bool (g s).isSome]) w := by
  obtain ⟨D, ho, h1, h2, h3⟩ := h.ex
  obtain ⟨v, ps, hrun, hv⟩ := ho.look_ok keyed_str Tryd.underlying101 (zero_int w) (plainElem_int Tryd.underlying3 (by decide)) (keyL_of hs)
  rw [h2 s] at hv
  obtain ⟨c, rfl, hc, _⟩ := plainElem_int_inv Tryd.underlying3 hv
  have hc1 := congrArg Prod.fst hc
  injection hc1 with hc1
  injection hc1 with _ hc1
  rw [hrun, ← hc1, h1 s]
theorem getM_drew {w : World} {b n m : Nat} {g : List UInt8 → Option Int} (h : MapAt w b n g m) (s : List UInt8) (hs : s.length ≤ maxLen) {x : Int} {k : Bool} (hx : (g s).getD 0 = x) (hk : (g s).isSome = k) (q : Nat) :
    (Instr.lookup 101 (.map (some b)) (.string (sb s)) true).run Tryd.prog (w.drewN q) = .ok (.tuple #[.int .i64 x, .bool k]) (w.drewN q) := by
  subst hx hk
  exact run_getM (w := w.drewN q) (h.keep rfl) s hs
theorem bdrew (w : World) (n : Nat) : Below w.heap.size w (w.drewN n) := (Dag.Quiet.drew w n).below
theorem flat_same {α : Type} {c : α → List Value} : ∀ (l : List α) (k : Nat) (a a' : α), l[k]? = some a → c a = c a' → flat c (l.set k a') = flat c l
  | [], k, a, a', h, _ => by simp at h
  | b :: l, 0, a, a', h, he => by simp at h; subst h; simp [flat, he]
  | b :: l, k + 1, a, a', h, he => by
    rw [List.getElem?_cons_succ] at h
    rw [List.set_cons_succ, flat, flat, flat_same l k a a' h he]
theorem namesP_set {ts : List TaskP} {v : Nat} {t t' : TaskP} (h : ts[v]? = some t) (hn : t'.name = t.name) : namesP (ts.set v t') = namesP ts := by
  unfold namesP
  rw [List.map_set, hn]
  apply List.ext_getElem?
  intro i
  rw [List.getElem?_set]
  split
  · rename_i e; subst e
    split
    · rw [List.getElem?_map, h]; rfl
    · rename_i hlt; rw [List.getElem?_eq_none (by simpa using hlt)]
  · rfl
theorem nameI_set {ts : List TaskP} {v : Nat} {t t' : TaskP} (h : ts[v]? = some t) (hn : t'.name = t.name) : nameI (ts.set v t') = nameI ts := by
  funext s
  unfold nameI
  rw [namesP_set h hn]
theorem mem_set_nm {ts : List TaskP} {v : Nat} {t t' : TaskP} (h : ts[v]? = some t) (hn : t'.name = t.name) (hm : ∀ x ∈ ts, x.name.length ≤ maxLen) : ∀ x ∈ ts.set v t', x.name.length ≤ maxLen := by
  intro x hx
  rcases List.mem_or_eq_of_mem_set hx with hx | rfl
  · exact hm x hx
  · rw [hn]; exact hm t (List.mem_of_getElem? h)
theorem nameI_some {ts : List TaskP} {a : List UInt8} (ha : a ∈ namesP ts) : nameI ts a = some ((namesP ts).idxOf a : Int) := by unfold nameI; rw [if_pos ha]
theorem idx_lt {ts : List TaskP} {a : List UInt8} (ha : a ∈ namesP ts) : (namesP ts).idxOf a < ts.length := by
  have := List.idxOf_lt_length_of_mem ha
  simpa [namesP] using this
theorem mark_names (t : TaskP) (k : Nat) : (t.mark k).name = t.name := rfl

theorem telSt_ok {s : St} {k v : Nat} {t : TaskP} {b : List UInt8} (hto : t.told k = false) (h7 : k ≠ 7) (hn : numE k b = 0) : telSt s k v t [b] = .ok { s with tasks := s.tasks.set v ((t.mark k).put k (readV b)) } := by
  unfold telSt
  rw [if_neg (by rw [hto]; decide), if_neg h7]
  exact if_neg (fun h => h hn)
theorem telSt_err {s : St} {k v : Nat} {t : TaskP} {b : List UInt8} (hto : t.told k = false) (h7 : k ≠ 7) (hn : numE k b ≠ 0) : telSt s k v t [b] = .error (numE k b) := by
  unfold telSt
  rw [if_neg (by rw [hto]; decide), if_neg h7]
  exact if_pos hn
theorem Kept.trans {tys : List TypeId} {a b c : World} (h : Kept tys a b) (k : Kept tys b c) : Kept tys a c := fun ty hty i cs hi => by
  have h1 := h ty hty i cs hi
  exact (k ty hty i cs (h1.trans hi)).trans h1
theorem KeptM.trans {a b c : World} (h : KeptM a b) (k : KeptM b c) : KeptM a c := fun i es n hi => by
  have h1 := h i es n hi
  exact (k i es n (h1.trans hi)).trans h1
theorem Kept.sub {tys tys' : List TypeId} {a b : World} (h : Kept tys a b) (hs : ∀ t ∈ tys', t ∈ tys) : Kept tys' a b := fun ty hty => h ty (hs ty hty)

theorem mark_told (t : TaskP) {k : Nat} (hk : k < 9) : (toldC t).set k (.bool true) = toldC (t.mark k) := by
  match k, hk with
  | 0, _ | 1, _ | 2, _ | 3, _ | 4, _ | 5, _ | 6, _ | 7, _ | 8, _ => simp [toldC, marksC, TaskP.mark, upB]
theorem set_set (ts : List TaskP) (v : Nat) (a b : TaskP) : (ts.set v a).set v b = ts.set v b := by simp
theorem get_set {ts : List TaskP} {v : Nat} {t : TaskP} (h : ts[v]? = some t) (a : TaskP) : (ts.set v a)[v]? = some a := by
  rw [List.getElem?_set, if_pos rfl, if_pos (List.getElem?_eq_some_iff.1 h).1]

end Go.Proofs.YtkicanegjkemoaaDoor

