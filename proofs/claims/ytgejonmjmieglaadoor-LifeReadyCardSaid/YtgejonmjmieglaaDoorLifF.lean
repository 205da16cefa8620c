/- Layer 13: checkTask, Start, Succeed, Again, Open, Cancel, Begin, Same. -/
import Derived.Test.YtgejonmjmieglaaDoorLifE
namespace Go.Proofs.YtgejonmjmieglaaDoor.Lf
open Go.RowKit
open Dag (Ints IRows Own1 OwnI Sl ints num info_int info_is arc Plus)
set_option linter.unusedVariables false
set_option maxRecDepth 100000

/-- a workflow and a life, as arguments -/
structure LfA (w : World) (f : FlowD) (A : Option Addr) (c : Nat) (SA : Option Addr) (n sc : Nat) (FA : Option Addr) (m fc : Nat) (S F : List Int) (b : Bool) : Prop where
  h : Tasks w A c f.tasks
  tb : Tb3 w
  nm : f.name.length ≤ 9000000000000000000
  nms : ∀ t ∈ f.tasks, t.name.length ≤ 9000000000000000000
  lif : Lif w SA n sc FA m fc S F
  ok : b = true ↔ LifeOK f.tasks S F
section
variable {w w' : World} {f : FlowD} {A : Option Addr} {c : Nat} {SA : Option Addr} {n sc : Nat} {FA : Option Addr} {m fc : Nat} {S F : List Int} {b : Bool}
theorem LfA.below (h : LfA w f A c SA n sc FA m fc S F b) (hb : Below w.heap.size w w') : LfA w' f A c SA n sc FA m fc S F b := ⟨h.h.below hb, h.tb.below hb, h.nm, h.nms, h.lif.below hb, h.ok⟩
theorem LfA.check (h : LfA w f A c SA n sc FA m fc S F b) : Calls Tryd.prog 24 #[.agg #[.string (sb f.name), .int .i64 f.deadline, .int .i64 f.priority, .slice A f.tasks.length c], .agg #[.slice SA n sc, .slice FA m fc]] w fun e w' => e = .returned (.int .i64 (lifeE f b)) ∧ Below w.heap.size w w' :=
  check_any f A c w h.h h.tb h.nm h.nms S F SA FA n sc m fc h.lif b h.ok
theorem lifeE_zero {f : FlowD} {b : Bool} : lifeE f b = 0 ↔ checkE f = 0 ∧ b = true := by
  unfold lifeE
  by_cases h : checkE f = 0
  · rw [if_pos h]
    cases b <;> simp [h]
  · rw [if_neg h]; simp [h]
end
def frv (ts : List TaskD) (S : List Int) (v : Nat) : Bool := match ts[v]? with
  | some t => freeD S t.after
  | none => false
def tskE (f : FlowD) (b : Bool) (S : List Int) (v st : Int) : Int := if lifeE f b = 0 then (if v < 0 ∨ (f.tasks.length : Int) ≤ v then 4 else if atI S v.toNat = st then 0 else 80) else lifeE f b
set_option maxHeartbeats 1600000 in
theorem checkTask_any (f : FlowD) (A : Option Addr) (c : Nat) (w : World) (S F : List Int) (SA FA : Option Addr) (n sc m fc : Nat) (b : Bool) (h : LfA w f A c SA n sc FA m fc S F b) (v st : Int) (z : Int) (hz : tskE f b S v st = z) :
    Calls Tryd.prog 52 #[.agg #[.string (sb f.name), .int .i64 f.deadline, .int .i64 f.priority, .slice A f.tasks.length c], .agg #[.slice SA n sc, .slice FA m fc], .int .i64 v, .int .i64 st] w fun e w' => e = .returned (.int .i64 z) ∧ Below w.heap.size w w' := by
  have HC := Lib.hid fun W (hW : Below w.heap.size w W) => (h.below hW).check
  have hlm := h.h.lenI
  obtain ⟨x, hx⟩ : ∃ x, lifeE f b = x := ⟨_, rfl⟩
  rw [hx] at HC
  unfold tskE at hz
  rw [hx] at hz
  by_cases h0 : x = 0
  case neg =>
    rw [if_neg h0] at hz
    have HZ := Lib.hid hz
    have hxn : (x != 0) = true := by simp [h0]
    clear h0 hx h hz
    go_enter Tryd.func52, Tryd.ntmps52
    go_wp2_with fail
    refine (HC.out _ (ba2 (b := 0) (Below.refl _ _))).mono ?_
    rintro e w1 ⟨rfl, hb1⟩
    have HB1 := Lib.hid (blw (ba2 (b := 0) (Below.refl w.heap.size w)) hb1)
    clear hb1
    go_wp2
    go_ret
    exact ⟨by rw [← HZ.out]; rfl, HB1.out⟩
  subst h0
  rw [if_pos rfl] at hz
  obtain ⟨hc, hbt⟩ := lifeE_zero.1 hx
  have hok := h.ok.1 hbt
  have hsl : S.length = f.tasks.length := hok.sl
  have hnn : n = S.length := h.lif.n.symm
  obtain ⟨k, hk⟩ : ∃ k, f.tasks.length = k := ⟨_, rfl⟩
  have HS := Lib.hid h.lif.s
  have HSN := Lib.hid (show S.length = k by rw [hsl, hk])
  rw [hk] at HC hz hlm ⊢
  have hnk : n = k := by rw [hnn, hsl, hk]
  clear h hx hc hbt hok hsl hnn hk
  subst hnk
  by_cases hv : v < 0 ∨ (n : Int) ≤ v
  · rw [if_pos hv] at hz
    have HZ := Lib.hid hz
    clear hz
    by_cases hv0 : v < 0
    · clear hv
      go_enter Tryd.func52, Tryd.ntmps52
      go_wp2_with fail
      refine (HC.out _ (ba2 (b := 0) (Below.refl _ _))).mono ?_
      rintro e w1 ⟨rfl, hb1⟩
      have HB1 := Lib.hid (blw (ba2 (b := 0) (Below.refl w.heap.size w)) hb1)
      obtain ⟨p0, p1, p2, p3, p4, p5⟩ := keep6 hb1 (two_boxesG _ _ _ _ _ _ w)
      clear hb1
      go_wp2
      go_ret
      exact ⟨by rw [← HZ.out]; rfl, HB1.out⟩
    · have hv1 : (n : Int) ≤ v := by omega
      have hv2 : 0 ≤ v := by omega
      clear hv hv0
      go_enter Tryd.func52, Tryd.ntmps52
      go_wp2_with fail
      refine (HC.out _ (ba2 (b := 0) (Below.refl _ _))).mono ?_
      rintro e w1 ⟨rfl, hb1⟩
      have HB1 := Lib.hid (blw (ba2 (b := 0) (Below.refl w.heap.size w)) hb1)
      obtain ⟨p0, p1, p2, p3, p4, p5⟩ := keep6 hb1 (two_boxesG _ _ _ _ _ _ w)
      clear hb1
      go_wp2
      go_ret
      exact ⟨by rw [← HZ.out]; rfl, HB1.out⟩
  · rw [if_neg hv] at hz
    obtain ⟨u, rfl⟩ : ∃ u : Nat, v = (u : Int) := ⟨v.toNat, by omega⟩
    have hun : u < n := by omega
    obtain ⟨bk, off, s, rfl, hs, hcs⟩ := HS.out.at_ (k := u) (by rw [HSN.out]; exact hun)
    have hlb := World.block_lt_of_cell? w _ hcs
    rw [Int.toNat_natCast, atI_some hs] at hz
    have HK := Lib.hid (fun W (hW : Below w.heap.size w W) => keep_cell hW hcs)
    clear hs hcs hv HS
    by_cases hst : s = st
    · rw [if_pos hst] at hz
      subst hst
      have HZ := Lib.hid hz
      have hne : (s != s) = false := by simp
      clear hz
      go_enter Tryd.func52, Tryd.ntmps52
      go_wp2_with fail
      refine (HC.out _ (ba2 (b := 0) (Below.refl _ _))).mono ?_
      rintro e w1 ⟨rfl, hb1⟩
      have HB1 := Lib.hid (blw (ba2 (b := 0) (Below.refl w.heap.size w)) hb1)
      obtain ⟨p0, p1, p2, p3, p4, p5⟩ := keep6 hb1 (two_boxesG _ _ _ _ _ _ w)
      have hcs := HK.out w1 HB1.out
      clear hb1
      go_wp2
      go_ret
      exact ⟨by rw [← HZ.out]; rfl, HB1.out⟩
    · rw [if_neg hst] at hz
      have HZ := Lib.hid hz
      have hne : (s != st) = true := by rw [bne_iff_ne]; exact hst
      clear hz hst
      go_enter Tryd.func52, Tryd.ntmps52
      go_wp2_with fail
      refine (HC.out _ (ba2 (b := 0) (Below.refl _ _))).mono ?_
      rintro e w1 ⟨rfl, hb1⟩
      have HB1 := Lib.hid (blw (ba2 (b := 0) (Below.refl w.heap.size w)) hb1)
      obtain ⟨p0, p1, p2, p3, p4, p5⟩ := keep6 hb1 (two_boxesG _ _ _ _ _ _ w)
      have hcs := HK.out w1 HB1.out
      clear hb1
      go_wp2
      go_ret
      exact ⟨by rw [← HZ.out]; rfl, HB1.out⟩
/-- a life, and an error -/
def RetLS (w : World) (S F : List Int) (er : Int) (e : Ending) (w' : World) : Prop := ∃ SA n sc FA m fc, e = .returned (.tuple #[.agg #[.slice SA n sc, .slice FA m fc], .int .i64 er]) ∧ Lif w' SA n sc FA m fc S F ∧ Below w.heap.size w w'
theorem lif_nil (w : World) : Lif w none 0 0 none 0 0 [] [] := ⟨Ints.empty w, Ints.empty w, rfl, rfl⟩
theorem lif_row {w : World} {gS gF n m : Nat} {S F : List Int} (h1 : w.heap[gS]? = some (rowO S)) (h2 : w.heap[gF]? = some (rowO F)) (hn : S.length = n) (hm : F.length = m) (hn' : n ≤ 1000000) (hm' : m ≤ 1000000) : Lif w (some ⟨gS, 0, none⟩) n n (some ⟨gF, 0, none⟩) m m S F := ⟨rowO_ints h1 hn hn', rowO_ints h2 hm hm', hn, hm⟩
end Go.Proofs.YtgejonmjmieglaaDoor.Lf

