/- hasControl, and text.Name. -/
import Derived.Test.YtejmofekbeaoeaaDoorTxtSame
namespace Go.Proofs.YtejmofekbeaoeaaDoor
open Go.RowKit Go.Shelf Go.Lib
set_option linter.unusedVariables false

theorem keep_obj {W w1 : World} (hb : Below W.heap.size W w1) {k : Nat} {o : Obj} (h : W.heap[k]? = some o) : w1.heap[k]? = some o :=
  (hb.block k (Array.getElem?_eq_some_iff.1 h).1).trans h
theorem take_step (l : List UInt8) (pos wd : Nat) : l.take (pos + wd) = l.take pos ++ (l.drop pos).take wd := by
  rw [List.take_add]
theorem head_at {s : ByteArray} {pos : Nat} (h : pos < s.size) : ((lst s).drop pos).getD 0 0 = s[pos] := by
  rw [List.getD_eq_getElem?_getD, List.getElem?_drop, Nat.add_zero, byte_at s pos h]; rfl
theorem high_at {s : ByteArray} {pos : Nat} (h : pos < s.size) (ha : 128 ≤ s[pos].toNat) : 128 ≤ (Utf8.decode s pos).1 ∧ ∀ b ∈ ((lst s).drop pos).take (Utf8.decode s pos).2, 128 ≤ b.toNat := by
  have := step_high (drop_ne h) (by rw [head_at h]; exact ha)
  rw [decodeL_drop] at this
  exact this
theorem ctl_high {b : UInt8} (h : 128 ≤ b.toNat) : ctl b = false := by
  unfold ctl
  have h1 : ¬ b.toNat < 32 := by omega
  have h2 : (b == 127) = false := by
    rw [beq_eq_false_iff_ne]; intro e; subst e; exact absurd h (by decide)
  simp [h1, h2]
theorem ctl_of (b : UInt8) : ctl b = ((decide (b.toNat < 32) && !(b.toNat == 9)) || (b.toNat == 127)) := by
  have e : ∀ k : UInt8, (b == k) = (b.toNat == k.toNat) := fun k => by
    by_cases h : b = k
    · subst h; simp
    · rw [beq_eq_false_iff_ne.2 h]
      symm; rw [beq_eq_false_iff_ne]; intro e; exact h (UInt8.toNat_inj.1 e)
  unfold ctl
  rw [bne, e, e]; rfl
theorem ctlL_yes {s : ByteArray} {pos : Nat} (h : pos < s.size) (hc : ctl s[pos] = true) : ctlL (lst s) = true := by
  unfold ctlL
  rw [List.any_eq_true]
  exact ⟨_, List.mem_of_getElem? (byte_at s pos h), hc⟩
theorem ctlL_snoc {s : ByteArray} {pos : Nat} (h : pos < s.size) (hc : ctl s[pos] = false) (hi : ctlL ((lst s).take pos) = false) : ctlL ((lst s).take (pos + 1)) = false := by
  rw [take_byte s pos h]
  unfold ctlL at *
  rw [List.any_append, hi]; simp [hc]
theorem ctlL_high {s : ByteArray} {pos : Nat} (h : pos < s.size) (ha : 128 ≤ s[pos].toNat) (hi : ctlL ((lst s).take pos) = false) : ctlL ((lst s).take (pos + (Utf8.decode s pos).2)) = false := by
  rw [take_step]
  unfold ctlL at *
  rw [List.any_append, hi, Bool.false_or, List.any_eq_false]
  intro b hb
  simp [ctl_high ((high_at h ha).2 b hb)]
theorem ctlL_all {s : ByteArray} {pos : Nat} (h : ¬ pos < s.size) (hi : ctlL ((lst s).take pos) = false) : ctlL (lst s) = false := by
  rwa [List.take_of_length_le (show (lst s).length ≤ pos from Nat.not_lt.1 h)] at hi

set_option maxHeartbeats 1600000 in
theorem hasControl_any (s : ByteArray) (w : World) (hs : s.size ≤ 1100000) :
    Calls Tryd.prog 25 #[.string s] w fun e w' => e = .returned (.bool (ctlL (lst s))) ∧ Below w.heap.size w w' := by
  go_enter Tryd.func25, Tryd.ntmps25
  go_wp2
  go_loopw [] (fun w' => ∃ pos : Nat, w' = w.iter s pos ∧ pos ≤ s.size ∧ Hid (ctlL ((lst s).take pos) = false)) (fun w' => s.size - w'.iterPos w.heap.size)
  case atStart => exact ⟨0, rfl, by omega, Lib.hid rfl⟩
  case round =>
    obtain ⟨pos, rfl, hp, hi⟩ := hrel
    by_cases hlt : pos < s.size
    · by_cases hasc : s[pos].toNat < 128
      · have hnx : ∀ ty, (Instr.next (.pointer (some ⟨w.heap.size, 0, none⟩)) true ty).run Tryd.prog (w.iter s pos) = _ := fun ty => run_next_ascii w s pos ty hlt hasc
        by_cases h32 : s[pos].toNat < 32
        · by_cases h9 : s[pos].toNat = 9
          · have HN := Lib.hid (ctlL_snoc hlt (by rw [ctl_of, h9]; rfl) hi.out)
            generalize s[pos].toNat = c at hnx h9 h32 hasc
            subst h9
            go_wp2
            go_roundw
            case rel => exact ⟨pos + 1, rfl, by omega, HN⟩
            case measure => simp; omega
          · have HY := Lib.hid (ctlL_yes hlt (by rw [ctl_of]; simp [h32, h9]))
            have e9 : (((s[pos].toNat : Nat) : Int) == 9) = false := by rw [beq_eq_false_iff_ne]; omega
            generalize s[pos].toNat = c at hnx h9 h32 hasc e9
            go_wp2
            go_ret
            exact ⟨by rw [HY.out]; rfl, iter_below _ _ _⟩
        · by_cases h127 : s[pos].toNat = 127
          · have HY := Lib.hid (ctlL_yes hlt (by rw [ctl_of, h127]; rfl))
            generalize s[pos].toNat = c at hnx h127 h32 hasc
            subst h127
            go_wp2
            go_ret
            exact ⟨by rw [HY.out]; rfl, iter_below _ _ _⟩
          · have HN := Lib.hid (ctlL_snoc hlt (by rw [ctl_of]; simp [h32, h127]) hi.out)
            have e9 : (((s[pos].toNat : Nat) : Int) == 127) = false := by rw [beq_eq_false_iff_ne]; omega
            generalize s[pos].toNat = c at hnx h127 h32 hasc e9
            go_wp2
            go_roundw
            case rel => exact ⟨pos + 1, rfl, by omega, HN⟩
            case measure => simp; omega
      · have hnx : ∀ ty, (Instr.next (.pointer (some ⟨w.heap.size, 0, none⟩)) true ty).run Tryd.prog (w.iter s pos) = _ := fun ty => run_next_any w s pos ty hlt
        have hd := dec_width hlt
        have hh := (high_at hlt (by omega)).1
        have HN := Lib.hid (ctlL_high hlt (by omega) hi.out)
        have hle := decode_le s pos
        generalize Utf8.decode s pos = dd at hnx hd HN hle hh
        obtain ⟨r, wd⟩ := dd
        simp only at hnx hd HN hle hh
        have e9 : ((r : Int) == 127) = false := by rw [beq_eq_false_iff_ne]; omega
        have e32 : decide ((r : Int) < 32) = false := by rw [decide_eq_false_iff_not]; omega
        go_wp2
        go_roundw
        case rel => exact ⟨pos + wd, rfl, by omega, HN⟩
        case measure => simp; omega
    · have hnx : ∀ ty, (Instr.next (.pointer (some ⟨w.heap.size, 0, none⟩)) true ty).run Tryd.prog (w.iter s pos) = _ := fun ty => run_next_end w s pos ty hlt
      have HN := Lib.hid (ctlL_all hlt hi.out)
      go_wp2
      go_ret
      exact ⟨by rw [HN.out]; rfl, iter_below _ _ _⟩

set_option maxHeartbeats 3200000 in
theorem name_any (s : ByteArray) (w : World) (hs : s.size ≤ 1100000) (hT : Tabs w) :
    Calls Tryd.prog 17 #[.string s] w fun e w' => e = .returned (.bool (nameD (lst s))) ∧ Below w.heap.size w w' := by
  have HT := Lib.hid hT; clear hT
  go_enter Tryd.func17, Tryd.ntmps17
  go_wp2
  go_loopw [3] (fun t wr => ∃ pos n : Nat, Hid (wr.heap[w.heap.size]? = some (.stringIter s pos)) ∧ pos ≤ s.size ∧ n ≤ 40 ∧ n ≤ pos ∧ (n = 0 → pos = 0) ∧ t = .int .i64 (n : Int) ∧ Below w.heap.size w wr ∧ Hid (nameD (lst s) = nameR n (dec ((lst s).drop pos)))) (fun _ wr => s.size - wr.iterPos w.heap.size)
  case atStart => exact ⟨0, 0, Lib.hid (World.iter_heap w s 0), by omega, by omega, by omega, fun _ => rfl, rfl, iter_below _ _ _, Lib.hid rfl⟩
  case round =>
    obtain ⟨pos, n, hit, hp, hn, hnp, h0, rfl, hbw, hi⟩ := hrel
    by_cases hlt : pos < s.size
    · have hnx : ∀ ty, (Instr.next (.pointer (some ⟨w.heap.size, 0, none⟩)) true ty).run Tryd.prog wr = _ := fun ty => run_next_any_at wr w.heap.size s pos ty hit.out hlt
      have hd := dec_width hlt
      have hi2 := hi.out
      rw [dec_at hlt, nameR] at hi2
      have HI := Lib.hid hi2; clear hi2
      have hle := decode_le s pos
      have hit2 := Lib.hid (iterAt_heap wr w.heap.size s pos (pos + (Utf8.decode s pos).2) hit.out)
      have hbw2 := below_iterAt hbw (k := w.heap.size) (Nat.le_refl _) s (pos + (Utf8.decode s pos).2)
      have hpos : wr.iterPos w.heap.size = pos := by simp [World.iterPos, hit.out]
      have HP := Lib.hid hpos; clear hpos
      generalize Utf8.decode s pos = dd at hnx hd HI hle hit2 hbw2
      obtain ⟨r, wd⟩ := dd
      simp only at hnx hd HI hle hit2 hbw2
      have cL := letter_c (r : Int) _ (by omega) (by omega) (HT.out.below hbw2)
      have cI : ∀ w1, Below (wr.iterAt w.heap.size s (pos + wd)).heap.size (wr.iterAt w.heap.size s (pos + wd)) w1 → Calls Tryd.prog 29 #[.int .i32 (r : Int)] w1 _ :=
        fun w1 h => isInner_any (r : Int) w1 (by omega) (by omega) ((HT.out.below hbw2).below h)
      have cut : ∀ {w1 : World}, Below (wr.iterAt w.heap.size s (pos + wd)).heap.size (wr.iterAt w.heap.size s (pos + wd)) w1 → Below w.heap.size w w1 := fun h => blw hbw2 h
      cases hl : isLetterU (r : Int) <;> rw [hl] at cL
      · by_cases hz : n = 0
        · obtain rfl := h0 hz
          subst hz
          simp only [Nat.zero_add] at hnx hd HI hit2 hbw2 cL cut
          clear cI hp hn hnp h0 HP
          have HN := Lib.hid (show nameD (lst s) = false from by rw [HI.out]; simp [okAt, hl])
          go_wp2_with (go_at_call 28; refine cL.mono ?_; rintro e w1 ⟨rfl, hb1⟩)
          go_ret
          exact ⟨by rw [HN.out]; rfl, cut hb1⟩
        · have epos : ((pos : Int) == 0) = false := by rw [beq_eq_false_iff_ne]; omega
          cases hin : innerR (r : Int) <;> simp only [hin] at cI
          · have HN := Lib.hid (show nameD (lst s) = false from by rw [HI.out]; simp [okAt, hl, hin])
            go_wp2_with (first | (go_at_call 28; refine cL.mono ?_; rintro e w1 ⟨rfl, hb1⟩) | (go_at_call 29; refine (cI _ hb1).mono ?_; rintro e w2 ⟨rfl, hb2⟩))
            go_ret
            exact ⟨by rw [HN.out]; rfl, blw (cut hb1) hb2⟩
          · by_cases h40 : n + 1 ≤ 40
            · have HN := Lib.hid (show nameD (lst s) = nameR (n + 1) (dec ((lst s).drop (pos + wd))) from by rw [HI.out]; simp [okAt, hl, hin, hz, h40])
              go_wp2_with (first | (go_at_call 28; refine cL.mono ?_; rintro e w1 ⟨rfl, hb1⟩) | (go_at_call 29; refine (cI _ hb1).mono ?_; rintro e w2 ⟨rfl, hb2⟩))
              go_roundw
              case rel => exact ⟨pos + wd, n + 1, Lib.hid (keep_obj hb2 (keep_obj hb1 hit2.out)), by omega, by omega, by omega, by omega, by go_num, blw (cut hb1) hb2, HN⟩
              case measure => rw [HP.out]; simp [World.iterPos, keep_obj hb2 (keep_obj hb1 hit2.out)]; omega
            · have HN := Lib.hid (show nameD (lst s) = false from by rw [HI.out]; simp [h40])
              go_wp2_with (first | (go_at_call 28; refine cL.mono ?_; rintro e w1 ⟨rfl, hb1⟩) | (go_at_call 29; refine (cI _ hb1).mono ?_; rintro e w2 ⟨rfl, hb2⟩))
              go_ret
              exact ⟨by rw [HN.out]; rfl, blw (cut hb1) hb2⟩
      · by_cases h40 : n + 1 ≤ 40
        · have HN := Lib.hid (show nameD (lst s) = nameR (n + 1) (dec ((lst s).drop (pos + wd))) from by rw [HI.out]; simp [okAt, hl, h40])
          go_wp2_with (go_at_call 28; refine cL.mono ?_; rintro e w1 ⟨rfl, hb1⟩)
          go_roundw
          case rel => exact ⟨pos + wd, n + 1, Lib.hid (keep_obj hb1 hit2.out), by omega, by omega, by omega, by omega, by go_num, cut hb1, HN⟩
          case measure => rw [HP.out]; simp [World.iterPos, keep_obj hb1 hit2.out]; omega
        · have HN := Lib.hid (show nameD (lst s) = false from by rw [HI.out]; simp [h40])
          go_wp2_with (go_at_call 28; refine cL.mono ?_; rintro e w1 ⟨rfl, hb1⟩)
          go_ret
          exact ⟨by rw [HN.out]; rfl, cut hb1⟩
    · have hnx : ∀ ty, (Instr.next (.pointer (some ⟨w.heap.size, 0, none⟩)) true ty).run Tryd.prog wr = _ := fun ty => run_next_end_at wr w.heap.size s pos ty hit.out hlt
      have hi2 := hi.out
      rw [drop_end hlt, dec_nil, nameR] at hi2
      have HI := Lib.hid hi2; clear hi2
      by_cases hz : n = 0
      · subst hz
        go_wp2
        go_ret
        exact ⟨by rw [HI.out]; rfl, hbw⟩
      · have hpz : (0 : Int) < (n : Int) := by omega
        go_wp2
        go_ret
        exact ⟨by rw [HI.out]; simp [hz]; omega, hbw⟩

end Go.Proofs.YtejmofekbeaoeaaDoor
