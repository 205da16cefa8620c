/- Layer 9: New; a step more, if it is another one; when the first one begins. -/
import Derived.Test.YtapojmniokdjfaaStpA
namespace Go.Proofs.Ytapojmniokdjfaa.Stp
open Go.RowKit Go.Shelf
set_option linter.unusedVariables false
set_option maxRecDepth 100000

/-- steps, and a number of an error -/
def RetS (l : List StepD) (e0 : Int) (w : World) (e : Ending) (w' : World) : Prop := ∃ A c, e = .returned (.tuple #[.slice A l.length c, .int .i64 e0]) ∧ Stp w' A c l ∧ Below w.heap.size w w'
theorem retS_err {l : List StepD} {x : Int} {w w' : World} (hl : l = []) (hb : Below w.heap.size w w') : RetS l x w (.returned (.tuple #[.slice none 0 0, .int .i64 x])) w' := by
  subst hl; exact ⟨none, 0, rfl, Stp.empty _, hb⟩
def newL (n : Int) : List StepD := if nodeOK n = true then [⟨0, n⟩] else []
def newE (n : Int) : Int := if nodeOK n = true then 0 else 2
theorem lit1 {W : World} {g : Nat} {a1 a2 : Int} (h : W.heap[g]? = some (.cells #[.int .i64 a1, .int .i64 a2] 58 (0, 0))) : Stp W (some ⟨g, 0, none⟩) 1 [⟨a1, a2⟩] := by
  have c := fun i => Dag.blk_cell h i
  refine ⟨fun k x hx => ?_, by simp, by decide, fun e => by cases e⟩
  match k, hx with
  | 0, hx => injection hx with hx; subst hx; exact ⟨_, 0, rfl, c 0, c 1⟩
  | k + 1, hx => simp at hx
theorem new_any (n : Int) (w : World) : Calls Try.prog 27 #[.int .i64 n] w (RetS (newL n) (newE n) w) := by
  unfold newL newE
  have hco := fun (W : World) => count_any n W
  cases hn : nodeOK n
  · rw [hn] at hco
    rw [if_neg (by decide), if_neg (by decide)]
    go_enter Try.func27, Try.ntmps27
    go_wp2_with (first | (go_at_call 34; refine (hco _).mono ?_; rintro e w1 ⟨rfl, rfl⟩))
    go_ret2
    exact retS_err rfl (Below.refl _ _)
  · rw [hn] at hco
    rw [if_pos rfl, if_pos rfl]
    go_enter Try.func27, Try.ntmps27
    go_wp2_with (first | (go_at_call 34; refine (hco _).mono ?_; rintro e w1 ⟨rfl, rfl⟩))
    go_ret2
    exact ⟨some ⟨_, 0, none⟩, 1, rfl, lit1 (heap_alloc_new w _), al _ _⟩

def startV (l : List StepD) : Int := match l with
  | [] => 1099511627776
  | s :: _ => s.at_
theorem start_any (l : List StepD) (A : Option Addr) (n c : Nat) (hn : l.length = n) (w : World) (h : Stp w A c l) :
    Calls Try.prog 76 #[.slice A n c] w fun e w' => e = .returned (.int .i64 (startV l)) ∧ w = w' := by
  have hnl : n ≤ 9223372036854775807 := by rw [← hn]; exact h.lenI
  have H := Lib.hid h
  cases l with
  | nil =>
    obtain rfl : n = 0 := by rw [← hn]; rfl
    clear h
    go_enter Try.func76, Try.ntmps76
    go_wp2
    go_ret
    exact ⟨rfl, rfl⟩
  | cons s l =>
    obtain ⟨b, off, eA, c0, c1⟩ := h.cells 0 s rfl
    subst eA
    rw [Nat.zero_mul, Nat.add_zero] at c0 c1
    have hn0 : 0 < n := by rw [← hn]; simp
    have hnb : ((n : Int) == 0) = false := by rw [beq_eq_false_iff_ne]; omega
    clear h hn
    go_enter Try.func76, Try.ntmps76
    go_wp2
    go_ret
    exact ⟨rfl, rfl⟩

/-- steps of one's own, more of them -/
def RetP (base : Nat) (l : List StepD) (w : World) (e : Ending) (w' : World) : Prop := ∃ A c, e = .returned (.slice A l.length c) ∧ OwnS w' base (.slice A l.length c) l ∧ Below base w w'

set_option maxHeartbeats 800000 in
theorem put_any (l : List StepD) (s : StepD) (base : Nat) (A : Option Addr) (n c : Nat) (w : World) (ho : OwnS w base (.slice A n c) l) (hb : base ≤ w.heap.size) (hl : n ≤ 1000000) :
    Calls Try.prog 58 #[.slice A n c, .agg #[.int .i64 s.at_, .int .i64 s.fr]] w (RetP base (putD l s) w) := by
  obtain ⟨hn, hs⟩ := ho.stp
  have HN := Lib.hid hn
  have hb0 : Below base w (w.alloc (.cells #[.int .i64 s.at_, .int .i64 s.fr] 58)) := (al w _).mono hb
  have how := ho.below (al w (.cells #[.int .i64 s.at_, .int .i64 s.fr] 58))
  obtain ⟨x3, x4⟩ := new2 w (.int .i64 s.at_) (.int .i64 s.fr) 58
  unfold putD
  by_cases h0 : n = 0
  · subst h0
    obtain rfl : l = [] := List.eq_nil_of_length_eq_zero hn.symm
    rw [if_neg (by simp)]
    clear ho hs hn
    go_enter Try.func58, Try.ntmps58
    go_wp2_with fail
    generalize w.alloc (.cells #[.int .i64 s.at_, .int .i64 s.fr] 58) = W1 at hb0 how x3 x4 ⊢
    generalize w.heap.size = tb at x3 x4 ⊢
    go_quiet (fail)
    have y3 := kp (drN W1 nq) x3
    have y4 := kp (drN W1 nq) x4
    have hb2 := hb0.trans ((drN W1 nq).mono (Nat.le_trans hb hb0.size))
    have ho2 := how.below (drN W1 nq)
    have hbs : base ≤ (W1.drewN nq).heap.size := Nat.le_trans hb hb2.size
    generalize W1.drewN nq = W2 at y3 y4 hb2 ho2 hbs ⊢
    clear x3 x4 hb0 how
    go_wp2_with (at_builtin; refine wpList_app1 rfl (.tmp 22) (.tmp 24) rfl base _ [] rfl (ho2.below (al W2 _)) W2.heap.size 1 s rfl (new2 W2 _ _ _).1 (new2 W2 _ _ _).2 (by first | exact Nat.zero_le _ | (rw [← HN.out]; omega)) (Nat.le_trans hbs (al W2 (.cells #[.int .i64 s.at_, .int .i64 s.fr] 58)).size) ?_; intro A' c' w' ho' hg' hb'; have HO' := Lib.hid ho'; clear ho' hg')
    go_ret
    exact ⟨A', c', by simp, HO'.out, (hb2.trans ((al W2 _).mono hbs)).trans hb'⟩
  · obtain ⟨m, hm⟩ : ∃ m, n = m + 1 := ⟨n - 1, by omega⟩
    have hnl : n ≤ 9223372036854775807 := by omega
    obtain ⟨b, off, u, eA, hu, c0, c1⟩ := hs.lt (k := m) (by omega)
    subst eA
    have hlv : lastV 0 l = u.fr := lastV_get 0 (by rw [← hn, hm]; exact hu)
    have wm : IntKind.i64.wrap ((n : Int) - 1) = (m : Int) := by rw [IntWalk.i64_in _ (by omega)]; omega
    have hn0 : 0 < n := by omega
    have hmn : m < n := by omega
    have c2 := kp (al w (.cells #[.int .i64 s.at_, .int .i64 s.fr] 58)) c1
    by_cases he : u.fr = s.fr
    · rw [if_pos ⟨by omega, hlv.trans he⟩]
      have hbe : (u.fr == s.fr) = true := by rw [beq_iff_eq]; exact he
      have hne : l.length = n := hn.symm
      rw [hlv.symm] at hbe c2
      clear ho hs hu hlv he hm c0 c1 hn h0
      go_enter Try.func58, Try.ntmps58
      go_wp2_with fail
      generalize w.alloc (.cells #[.int .i64 s.at_, .int .i64 s.fr] 58) = W1 at hb0 how x3 x4 c2 ⊢
      generalize w.heap.size = tb at x3 x4 ⊢
      go_quiet (fail)
      go_wp2
      go_ret
      refine ⟨some ⟨b, off, none⟩, c, by rw [← HN.out]; rfl, ?_, ?_⟩
      · have := how.below (drN W1 nq)
        rwa [← HN.out]
      · exact hb0.trans ((drN W1 nq).mono (Nat.le_trans hb hb0.size))
    · rw [if_neg (fun e => he (hlv.symm.trans e.2))]
      have hbe : (u.fr == s.fr) = false := by rw [beq_eq_false_iff_ne]; exact he
      clear ho hs hu hlv he hm c0 c1 hn h0
      go_enter Try.func58, Try.ntmps58
      go_wp2_with fail
      generalize w.alloc (.cells #[.int .i64 s.at_, .int .i64 s.fr] 58) = W1 at hb0 how x3 x4 c2 ⊢
      generalize w.heap.size = tb at x3 x4 ⊢
      go_quiet (fail)
      have y3 := kp (drN W1 nq) x3
      have y4 := kp (drN W1 nq) x4
      have hb2 := hb0.trans ((drN W1 nq).mono (Nat.le_trans hb hb0.size))
      have ho2 := how.below (drN W1 nq)
      have hbs : base ≤ (W1.drewN nq).heap.size := Nat.le_trans hb hb2.size
      generalize W1.drewN nq = W2 at y3 y4 hb2 ho2 hbs ⊢
      clear x3 x4 hb0 how
      go_wp2_with (at_builtin; refine wpList_app1 rfl (.tmp 22) (.tmp 24) rfl base _ l rfl (ho2.below (al W2 _)) W2.heap.size 1 s rfl (new2 W2 _ _ _).1 (new2 W2 _ _ _).2 (by first | exact Nat.zero_le _ | (rw [← HN.out]; omega)) (Nat.le_trans hbs (al W2 (.cells #[.int .i64 s.at_, .int .i64 s.fr] 58)).size) ?_; intro A' c' w' ho' hg' hb'; have HO' := Lib.hid ho'; clear ho' hg')
      go_ret
      exact ⟨A', c', by simp, HO'.out, (hb2.trans ((al W2 _).mono hbs)).trans hb'⟩

end Go.Proofs.Ytapojmniokdjfaa.Stp

