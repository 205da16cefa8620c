/- Layer 4 in plain words: sums, frames, scans as functions of lists of bytes (numbers from 0 to 255). No program. -/
namespace Go.Proofs.Ytieeojigonbifaa
set_option linter.unusedVariables false

/-- every one is a byte -/
def Bts (l : List Int) : Prop := ∀ x ∈ l, 0 ≤ x ∧ x ≤ 255
theorem Bts.nil : Bts [] := fun x h => by simp at h
theorem Bts.app {a b : List Int} (h : Bts a) (k : Bts b) : Bts (a ++ b) := fun x hx => (List.mem_append.1 hx).elim (h x) (k x)
theorem Bts.left {a b : List Int} (h : Bts (a ++ b)) : Bts a := fun x hx => h x (List.mem_append.2 (.inl hx))
theorem Bts.right {a b : List Int} (h : Bts (a ++ b)) : Bts b := fun x hx => h x (List.mem_append.2 (.inr hx))
theorem Bts.take {a : List Int} (h : Bts a) (n : Nat) : Bts (a.take n) := fun x hx => h x (List.mem_of_mem_take hx)
theorem Bts.drop {a : List Int} (h : Bts a) (n : Nat) : Bts (a.drop n) := fun x hx => h x (List.mem_of_mem_drop hx)

def s1 : List Int → Int
  | [] => 0
  | x :: r => x + s1 r
def s2 : List Int → Int
  | [] => 0
  | x :: r => 1 + ((r.length : Int) + 1) * x + s2 r
def t2 : Int → List Int → Int
  | _, [] => 0
  | n, x :: r => n * x + t2 (n - 1) r
def sumA (l : List Int) : Int := 65536 * (s2 l % 65521) + (1 + s1 l) % 65521

theorem s1_app (a b : List Int) : s1 (a ++ b) = s1 a + s1 b := by
  induction a with
  | nil => simp [s1]
  | cons x a ih => simp only [List.cons_append, s1, ih]; omega
theorem s1_snoc (l : List Int) (x : Int) : s1 (l ++ [x]) = s1 l + x := by rw [s1_app]; simp [s1]
theorem s2_snoc (l : List Int) (x : Int) : s2 (l ++ [x]) = s2 l + (1 + s1 (l ++ [x])) := by
  induction l with
  | nil => simp [s1, s2]
  | cons y l ih =>
    simp only [List.cons_append, s1, s2, ih, List.length_append, List.length_cons, List.length_nil]
    have e : ((l.length + (0 + 1) : Nat) : Int) + 1 = ((l.length : Int) + 1) + 1 := by omega
    rw [e, Int.add_mul (((l.length : Int) + 1)) 1 y]
    omega
theorem t2_snoc (n : Int) (l : List Int) (x : Int) : t2 n (l ++ [x]) = t2 n l + (n - (l.length : Int)) * x := by
  induction l generalizing n with
  | nil => simp [t2]
  | cons y l ih =>
    simp only [List.cons_append, t2, ih, List.length_cons]
    have e : n - 1 - (l.length : Int) = n - ((l.length + 1 : Nat) : Int) := by omega
    rw [e]; omega
theorem s2_t2 (l : List Int) : s2 l = (l.length : Int) + t2 (l.length : Int) l := by
  induction l with
  | nil => simp [s2, t2]
  | cons x l ih =>
    simp only [s2, t2, List.length_cons]
    have e : ((l.length + 1 : Nat) : Int) - 1 = (l.length : Int) := by omega
    rw [e, ih]
    have e2 : ((l.length + 1 : Nat) : Int) = (l.length : Int) + 1 := by omega
    rw [e2]; omega
theorem sumA_bd (l : List Int) : 0 ≤ sumA l ∧ sumA l ≤ 4294967295 := by unfold sumA; omega
theorem sumA_lo {a b : List Int} (h : sumA a = sumA b) : (1 + s1 a) % 65521 = (1 + s1 b) % 65521 := by unfold sumA at h; omega
theorem s1_bd {l : List Int} (h : Bts l) : 0 ≤ s1 l ∧ s1 l ≤ 255 * (l.length : Int) := by
  induction l with
  | nil => simp [s1]
  | cons x l ih =>
    have h1 := h x (by simp)
    have h2 := ih (fun y hy => h y (by simp [hy]))
    simp only [s1, List.length_cons]; omega
theorem s1_set {l : List Int} {k : Nat} {x y : Int} (h : l[k]? = some x) : s1 (l.set k y) = s1 l + (y - x) := by
  induction l generalizing k with
  | nil => simp at h
  | cons z l ih =>
    cases k with
    | zero => simp at h; subst h; simp only [List.set_cons_zero, s1]; omega
    | succ k => simp at h; simp only [List.set_cons_succ, s1, ih h]; omega
theorem sumA_set {l : List Int} {k : Nat} {x y : Int} (h : l[k]? = some x) (hx : 0 ≤ x ∧ x ≤ 255) (hy : 0 ≤ y ∧ y ≤ 255) (hne : y ≠ x) : sumA (l.set k y) ≠ sumA l := by
  intro e
  have := sumA_lo e
  rw [s1_set h] at this
  omega

def wv : List Int → Int := fun l => l.foldl (fun n x => n * 256 + x) 0
theorem wv_snoc (l : List Int) (x : Int) : wv (l ++ [x]) = wv l * 256 + x := by simp [wv]
theorem wv_four (a b c d : Int) : wv [a, b, c, d] = ((a * 256 + b) * 256 + c) * 256 + d := by simp [wv]
def four (n : Int) : List Int := [n / 16777216, n / 65536 % 256, n / 256 % 256, n % 256]
theorem four_len (n : Int) : (four n).length = 4 := rfl
theorem four_bts {n : Int} (h : 0 ≤ n) (h' : n ≤ 4294967295) : Bts (four n) := by
  intro x hx
  simp only [four, List.mem_cons, List.not_mem_nil, or_false] at hx
  omega
theorem wv_of_four {n : Int} (h : 0 ≤ n) (h' : n ≤ 4294967295) : wv (four n) = n := by rw [four, wv_four]; omega
theorem list4 {l : List Int} (h : l.length = 4) : ∃ a b c d, l = [a, b, c, d] := by
  match l, h with
  | [a, b, c, d], _ => exact ⟨a, b, c, d, rfl⟩
theorem four_of_wv {l : List Int} (hl : l.length = 4) (h : Bts l) : four (wv l) = l := by
  obtain ⟨a, b, c, d, rfl⟩ := list4 hl
  have ha := h a (by simp)
  have hb := h b (by simp)
  have hc := h c (by simp)
  have hd := h d (by simp)
  rw [wv_four, four]
  have e1 : (((a * 256 + b) * 256 + c) * 256 + d) / 16777216 = a := by omega
  have e2 : (((a * 256 + b) * 256 + c) * 256 + d) / 65536 % 256 = b := by omega
  have e3 : (((a * 256 + b) * 256 + c) * 256 + d) / 256 % 256 = c := by omega
  have e4 : (((a * 256 + b) * 256 + c) * 256 + d) % 256 = d := by omega
  rw [e1, e2, e3, e4]
theorem wv_bd {l : List Int} (hl : l.length = 4) (h : Bts l) : 0 ≤ wv l ∧ wv l ≤ 4294967295 := by
  obtain ⟨a, b, c, d, rfl⟩ := list4 hl
  have ha := h a (by simp)
  have hb := h b (by simp)
  have hc := h c (by simp)
  have hd := h d (by simp)
  rw [wv_four]; omega
theorem four_inj {n m : Int} (h : 0 ≤ n ∧ n ≤ 4294967295) (h' : 0 ≤ m ∧ m ≤ 4294967295) (e : four n = four m) : n = m := by
  rw [← wv_of_four h.1 h.2, ← wv_of_four h'.1 h'.2, e]

def frame (x : List Int) : List Int := four (x.length : Int) ++ (four (sumA (four (x.length : Int) ++ x)) ++ x)
theorem frame_len (x : List Int) : (frame x).length = 8 + x.length := by simp [frame, four_len]; omega
/-- a record that may be -/
def Rec (x : List Int) : Prop := Bts x ∧ x.length ≤ 65536
theorem frame_bts {x : List Int} (h : Rec x) : Bts (frame x) :=
  (four_bts (by omega) (by have := h.2; omega)).app ((four_bts (sumA_bd _).1 (sumA_bd _).2).app h.1)

def fn (b : List Int) : Nat := (wv (b.take 4)).toNat
def body (b : List Int) : List Int := (b.drop 8).take (fn b)
/-- why no frame stands at the begin of what is not empty: 0 if one does -/
def headE (b : List Int) : Int :=
  if b.length < 8 then 31 else if 65536 < fn b then 3 else if b.length < 8 + fn b then 31
  else if sumA (b.take 4 ++ body b) = wv ((b.drop 4).take 4) then 0 else 30
def scanF : Nat → List Int → List (List Int) × Nat × Int
  | 0, _ => ([], 0, 0)
  | f + 1, b =>
    if b = [] then ([], 0, 0) else if headE b = 0 then
      (body b :: (scanF f (b.drop (8 + fn b))).1, 8 + fn b + (scanF f (b.drop (8 + fn b))).2.1, (scanF f (b.drop (8 + fn b))).2.2)
    else ([], 0, headE b)
def scan (b : List Int) : List (List Int) × Nat × Int := scanF b.length b

theorem scanF_nil (f : Nat) : scanF f [] = ([], 0, 0) := by cases f <;> simp [scanF]
theorem scanF_two : ∀ (f g : Nat) (b : List Int), b.length ≤ f → b.length ≤ g → scanF f b = scanF g b
  | 0, g, b, h, _ => by
    have : b = [] := List.eq_nil_of_length_eq_zero (by omega)
    subst this; rw [scanF_nil, scanF_nil]
  | f + 1, 0, b, _, h => by
    have : b = [] := List.eq_nil_of_length_eq_zero (by omega)
    subst this; rw [scanF_nil, scanF_nil]
  | f + 1, g + 1, b, h, h' => by
    by_cases hb : b = []
    · subst hb; rw [scanF_nil, scanF_nil]
    · have e := scanF_two f g (b.drop (8 + fn b)) (by rw [List.length_drop]; omega) (by rw [List.length_drop]; omega)
      simp only [scanF, e]
theorem scanF_fuel (f : Nat) (b : List Int) (h : b.length ≤ f) : scanF f b = scan b := scanF_two _ _ _ h (Nat.le_refl _)

theorem scan_nil : scan [] = ([], 0, 0) := rfl
theorem scan_bad {b : List Int} (hb : b ≠ []) (h : headE b ≠ 0) : scan b = ([], 0, headE b) := by
  cases b with
  | nil => exact absurd rfl hb
  | cons x r =>
    show scanF (r.length + 1) (x :: r) = _
    simp only [scanF]
    rw [if_neg (by simp), if_neg h]
theorem scan_good {b : List Int} (hb : b ≠ []) (h : headE b = 0) :
    scan b = (body b :: (scan (b.drop (8 + fn b))).1, 8 + fn b + (scan (b.drop (8 + fn b))).2.1, (scan (b.drop (8 + fn b))).2.2) := by
  cases b with
  | nil => exact absurd rfl hb
  | cons x r =>
    show scanF (r.length + 1) (x :: r) = _
    simp only [scanF]
    rw [if_neg (by simp), if_pos h, scanF_fuel r.length _ (by rw [List.length_drop, List.length_cons]; omega)]

theorem headE_short {b : List Int} (h : b.length < 8) : headE b = 31 := by simp [headE, h]
theorem headE_long {b : List Int} (h : ¬ b.length < 8) (h1 : 65536 < fn b) : headE b = 3 := by simp [headE, h, h1]
theorem headE_less {b : List Int} (h : ¬ b.length < 8) (h1 : ¬ 65536 < fn b) (h2 : b.length < 8 + fn b) : headE b = 31 := by simp [headE, h, h1, h2]
theorem headE_sum {b : List Int} (h : ¬ b.length < 8) (h1 : ¬ 65536 < fn b) (h2 : ¬ b.length < 8 + fn b) (h3 : sumA (b.take 4 ++ body b) ≠ wv ((b.drop 4).take 4)) : headE b = 30 := by
  simp [headE, h, h1, h2, h3]
theorem headE_ok {b : List Int} (h : ¬ b.length < 8) (h1 : ¬ 65536 < fn b) (h2 : ¬ b.length < 8 + fn b) (h3 : sumA (b.take 4 ++ body b) = wv ((b.drop 4).take 4)) : headE b = 0 := by
  simp [headE, h, h1, h2, h3]
theorem headE_zero {b : List Int} (h : headE b = 0) : ¬ b.length < 8 ∧ ¬ 65536 < fn b ∧ ¬ b.length < 8 + fn b ∧ sumA (b.take 4 ++ body b) = wv ((b.drop 4).take 4) := by
  unfold headE at h
  by_cases h0 : b.length < 8
  · rw [if_pos h0] at h; omega
  by_cases h1 : 65536 < fn b
  · rw [if_neg h0, if_pos h1] at h; omega
  by_cases h2 : b.length < 8 + fn b
  · rw [if_neg h0, if_neg h1, if_pos h2] at h; omega
  by_cases h3 : sumA (b.take 4 ++ body b) = wv ((b.drop 4).take 4)
  · exact ⟨h0, h1, h2, h3⟩
  · rw [if_neg h0, if_neg h1, if_neg h2, if_neg h3] at h; omega
theorem headE_vals (b : List Int) : headE b = 0 ∨ headE b = 3 ∨ headE b = 30 ∨ headE b = 31 := by
  unfold headE
  split
  · simp
  · split
    · simp
    · split
      · simp
      · split <;> simp

theorem body_len {b : List Int} (h2 : ¬ b.length < 8 + fn b) : (body b).length = fn b := by
  simp only [body, List.length_take, List.length_drop]; omega
theorem take_split (b : List Int) (n : Nat) : b.take (8 + n) = b.take 4 ++ ((b.drop 4).take 4 ++ (b.drop 8).take n) := by
  have e1 : b.take (8 + n) = b.take 8 ++ (b.drop 8).take n := List.take_add
  have e2 : b.take 8 = b.take 4 ++ (b.drop 4).take 4 := List.take_add (i := 4) (j := 4)
  rw [e1, e2, List.append_assoc]
theorem fn_bd {b : List Int} (hb : Bts b) (h : ¬ b.length < 8) : ((fn b : Nat) : Int) = wv (b.take 4) ∧ fn b ≤ 4294967295 := by
  have := wv_bd (l := b.take 4) (by rw [List.length_take]; omega) (hb.take 4)
  unfold fn; omega
/-- the document's test and the program's are one -/
theorem frame_iff {b : List Int} (hb : Bts b) (h : ¬ b.length < 8) (h2 : ¬ b.length < 8 + fn b) :
    frame (body b) = b.take (8 + fn b) ↔ sumA (b.take 4 ++ body b) = wv ((b.drop 4).take 4) := by
  have hl4 : (b.take 4).length = 4 := by rw [List.length_take]; omega
  have hm4 : ((b.drop 4).take 4).length = 4 := by rw [List.length_take, List.length_drop]; omega
  have e4 : four ((body b).length : Int) = b.take 4 := by
    rw [body_len h2, (fn_bd hb h).1, four_of_wv hl4 (hb.take 4)]
  rw [take_split, frame, e4]
  constructor
  · intro e
    have e' := List.append_cancel_left e
    have e5 : four (sumA (b.take 4 ++ body b)) = (b.drop 4).take 4 := by
      have := congrArg (List.take 4) e'
      rw [List.take_append_of_le_length (by rw [four_len]; omega), List.take_append_of_le_length (by rw [hm4]; omega)] at this
      rw [List.take_of_length_le (by rw [four_len]; omega), List.take_take, Nat.min_self] at this
      exact this
    rw [← e5, wv_of_four (sumA_bd _).1 (sumA_bd _).2]
  · intro e
    rw [e, four_of_wv hm4 ((hb.drop 4).take 4)]
    rfl

theorem fn_frame (x r : List Int) (h : x.length ≤ 65536) : fn (frame x ++ r) = x.length := by
  have e : (frame x ++ r).take 4 = four (x.length : Int) := by
    rw [frame, List.append_assoc, List.take_append_of_le_length (by rw [four_len]; omega), List.take_of_length_le (by rw [four_len]; omega)]
  rw [fn, e, wv_of_four (by omega) (by omega)]; omega
theorem drop8_frame (x r : List Int) : (frame x ++ r).drop 8 = x ++ r := by
  have e : frame x ++ r = (four (x.length : Int) ++ four (sumA (four (x.length : Int) ++ x))) ++ (x ++ r) := by simp [frame]
  rw [e, List.drop_append_of_le_length (by simp [four_len]), List.drop_of_length_le (by simp [four_len])]; rfl
theorem body_frame (x r : List Int) (h : x.length ≤ 65536) : body (frame x ++ r) = x := by
  rw [body, drop8_frame, fn_frame x r h, List.take_append_of_le_length (by omega), List.take_of_length_le (by omega)]
theorem drop_frame (x r : List Int) : (frame x ++ r).drop (8 + x.length) = r := by
  rw [← frame_len, List.drop_append_of_le_length (by omega), List.drop_of_length_le (by omega)]; rfl
theorem head_frame {x : List Int} (hx : x.length ≤ 65536) (r : List Int) : headE (frame x ++ r) = 0 := by
  have hl : (frame x ++ r).length = 8 + x.length + r.length := by rw [List.length_append, frame_len]
  have e1 : (frame x ++ r).take 4 = four (x.length : Int) := by
    rw [frame, List.append_assoc, List.take_append_of_le_length (by rw [four_len]; omega), List.take_of_length_le (by rw [four_len]; omega)]
  have e2 : ((frame x ++ r).drop 4).take 4 = four (sumA (four (x.length : Int) ++ x)) := by
    rw [frame, List.append_assoc, List.drop_append_of_le_length (by rw [four_len]; omega), List.drop_of_length_le (by rw [four_len]; omega), List.nil_append, List.append_assoc,
      List.take_append_of_le_length (by rw [four_len]; omega), List.take_of_length_le (by rw [four_len]; omega)]
  refine headE_ok (by omega) (by rw [fn_frame x r hx]; omega) (by rw [fn_frame x r hx]; omega) ?_
  rw [e1, e2, body_frame x r hx, wv_of_four (sumA_bd _).1 (sumA_bd _).2]
theorem frame_ne (x r : List Int) : frame x ++ r ≠ [] := by
  intro e
  have := congrArg List.length e
  rw [List.length_append, frame_len] at this
  simp at this
theorem scan_frame {x : List Int} (hx : x.length ≤ 65536) (r : List Int) :
    scan (frame x ++ r) = (x :: (scan r).1, 8 + x.length + (scan r).2.1, (scan r).2.2) := by
  rw [scan_good (frame_ne x r) (head_frame hx r), body_frame x r hx, fn_frame x r hx, drop_frame]

def frames : List (List Int) → List Int
  | [] => []
  | x :: r => frame x ++ frames r
def sz : List (List Int) → Nat
  | [] => 0
  | x :: r => 8 + x.length + sz r
theorem frames_len (l : List (List Int)) : (frames l).length = sz l := by
  induction l with
  | nil => rfl
  | cons x l ih => simp only [frames, sz, List.length_append, frame_len, ih]
theorem frames_app (a b : List (List Int)) : frames (a ++ b) = frames a ++ frames b := by
  induction a with
  | nil => rfl
  | cons x a ih => simp only [List.cons_append, frames, ih, List.append_assoc]
theorem frames_snoc (a : List (List Int)) (x : List Int) : frames (a ++ [x]) = frames a ++ frame x := by rw [frames_app]; simp [frames]
theorem sz_app (a b : List (List Int)) : sz (a ++ b) = sz a + sz b := by rw [← frames_len, frames_app, List.length_append, frames_len, frames_len]
theorem sz_snoc (a : List (List Int)) (x : List Int) : sz (a ++ [x]) = sz a + (8 + x.length) := by rw [sz_app]; simp [sz]
def Recs (l : List (List Int)) : Prop := ∀ x ∈ l, Rec x
theorem Recs.take {l : List (List Int)} (h : Recs l) (n : Nat) : Recs (l.take n) := fun x hx => h x (List.mem_of_mem_take hx)
theorem Recs.app {a b : List (List Int)} (h : Recs a) (k : Recs b) : Recs (a ++ b) := fun x hx => (List.mem_append.1 hx).elim (h x) (k x)
theorem frames_bts {l : List (List Int)} (h : Recs l) : Bts (frames l) := by
  induction l with
  | nil => exact Bts.nil
  | cons x l ih => exact (frame_bts (h x (by simp))).app (ih fun y hy => h y (by simp [hy]))
theorem scan_frames {l : List (List Int)} (h : Recs l) (r : List Int) : scan (frames l ++ r) = (l ++ (scan r).1, sz l + (scan r).2.1, (scan r).2.2) := by
  induction l with
  | nil => simp [frames, sz]
  | cons x l ih =>
    rw [frames, List.append_assoc, scan_frame (h x (by simp)).2, ih fun y hy => h y (by simp [hy])]
    simp only [List.cons_append, sz]
    rw [Nat.add_assoc (8 + x.length)]
theorem scan_all {l : List (List Int)} (h : Recs l) : scan (frames l) = (l, sz l, 0) := by
  have := scan_frames h []
  simpa [scan_nil] using this

/-- what was scanned: the frames of the records, up to where it says -/
theorem scan_is : ∀ (f : Nat) (b : List Int), b.length ≤ f → Bts b → Recs (scan b).1 ∧ frames (scan b).1 = b.take (scan b).2.1 ∧ (scan b).2.1 ≤ b.length
  | 0, b, h, _ => by
    have : b = [] := List.eq_nil_of_length_eq_zero (by omega)
    subst this; exact ⟨fun x hx => by simp [scan_nil] at hx, rfl, Nat.le_refl _⟩
  | f + 1, b, h, hb => by
    by_cases hn : b = []
    · subst hn; exact ⟨fun x hx => by simp [scan_nil] at hx, rfl, Nat.le_refl _⟩
    by_cases he : headE b = 0
    · obtain ⟨h0, h1, h2, h3⟩ := headE_zero he
      obtain ⟨i1, i2, i3⟩ := scan_is f (b.drop (8 + fn b)) (by rw [List.length_drop]; omega) (hb.drop _)
      rw [scan_good hn he]
      refine ⟨?_, ?_, ?_⟩
      · intro x hx
        rcases List.mem_cons.1 hx with rfl | hx
        · exact ⟨(hb.drop 8).take _, by rw [body_len h2]; omega⟩
        · exact i1 x hx
      · simp only [frames]
        rw [i2, (frame_iff hb h0 h2).2 h3]
        exact List.take_add.symm
      · simp only
        rw [List.length_drop] at i3
        omega
    · rw [scan_bad hn he]
      exact ⟨fun x hx => by simp at hx, by simp [frames], Nat.zero_le _⟩
theorem scan_part (b : List Int) (hb : Bts b) : scan (b.take (scan b).2.1) = ((scan b).1, (scan b).2.1, 0) := by
  obtain ⟨h1, h2, h3⟩ := scan_is b.length b (Nat.le_refl _) hb
  have e : sz (scan b).1 = (scan b).2.1 := by rw [← frames_len, h2, List.length_take]; omega
  rw [← h2, scan_all h1, e]

/-- how many records are whole in the first m bytes -/
def whole : List (List Int) → Nat → Nat
  | [], _ => 0
  | x :: r, m => if 8 + x.length ≤ m then 1 + whole r (m - (8 + x.length)) else 0
theorem whole_snoc (l : List (List Int)) (x : List Int) (m : Nat) : whole (l ++ [x]) m = if sz (l ++ [x]) ≤ m then l.length + 1 else whole l m := by
  induction l generalizing m with
  | nil => simp [whole, sz]
  | cons y l ih =>
    simp only [List.cons_append, whole, sz, ih, List.length_cons]
    by_cases h : 8 + y.length ≤ m
    · rw [if_pos h, if_pos h]
      by_cases h' : sz (l ++ [x]) ≤ m - (8 + y.length)
      · rw [if_pos h', if_pos (by omega)]; omega
      · rw [if_neg h', if_neg (by omega)]
    · rw [if_neg h, if_neg h, if_neg (by omega)]
theorem whole_le (l : List (List Int)) (m : Nat) : whole l m ≤ l.length := by
  induction l generalizing m with
  | nil => simp [whole]
  | cons y l ih =>
    simp only [whole, List.length_cons]
    split
    · have := ih (m - (8 + y.length)); omega
    · omega
theorem short_frame {x : List Int} (hx : x.length ≤ 65536) {m : Nat} (h0 : 0 < m) (h : m < 8 + x.length) : scan ((frame x).take m) = ([], 0, 31) := by
  have hl : ((frame x).take m).length = m := by rw [List.length_take, frame_len]; omega
  have hn : (frame x).take m ≠ [] := by intro e; rw [e] at hl; simp at hl; omega
  by_cases h8 : m < 8
  · rw [scan_bad hn (by rw [headE_short (by omega)]; omega), headE_short (by omega)]
  · have e : fn ((frame x).take m) = x.length := by
      have := fn_frame x [] hx
      rw [List.append_nil] at this
      rw [← this, fn, fn, List.take_take]
      congr 3
      omega
    have e31 : headE ((frame x).take m) = 31 := headE_less (by omega) (by omega) (by omega)
    rw [scan_bad hn (by rw [e31]; omega), e31]
theorem scan_torn {l : List (List Int)} (h : Recs l) (m : Nat) (hm : m ≤ sz l) :
    (scan ((frames l).take m)).1 = l.take (whole l m) ∧ (scan ((frames l).take m)).2.1 = sz (l.take (whole l m)) := by
  induction l generalizing m with
  | nil => simp [frames, scan_nil, whole, sz]
  | cons x l ih =>
    have hx := h x (by simp)
    by_cases hw : 8 + x.length ≤ m
    · have e : (frames (x :: l)).take m = frame x ++ (frames l).take (m - (8 + x.length)) := by
        rw [frames, List.take_append, frame_len, List.take_of_length_le (by rw [frame_len]; omega)]
      obtain ⟨i1, i2⟩ := ih (fun y hy => h y (by simp [hy])) (m - (8 + x.length)) (by simp only [sz] at hm; omega)
      rw [e, scan_frame hx.2]
      simp only [whole]
      rw [if_pos hw, Nat.add_comm 1, List.take_succ_cons, sz, i1, i2]
      exact ⟨rfl, rfl⟩
    · have e : (frames (x :: l)).take m = (frame x).take m := by
        rw [frames, List.take_append_of_le_length (by rw [frame_len]; omega)]
      simp only [whole]
      rw [if_neg hw, e]
      by_cases h0 : m = 0
      · subst h0; simp [scan_nil, sz]
      · rw [short_frame hx.2 (by omega) (by omega)]; simp [sz]

theorem head_hurt {x : List Int} (hx : Rec x) {j : Nat} {o y : Int} (h4 : 4 ≤ j) (hj : (frame x)[j]? = some o) (hy : 0 ≤ y ∧ y ≤ 255) (hne : y ≠ o) (r : List Int) :
    headE ((frame x).set j y ++ r) = 30 := by
  have hjl : j < 8 + x.length := by
    have := (List.getElem?_eq_some_iff.1 hj).1
    rwa [frame_len] at this
  have ho : 0 ≤ o ∧ o ≤ 255 := frame_bts hx o (List.mem_of_getElem? hj)
  have hlen : ((frame x).set j y ++ r).length = 8 + x.length + r.length := by rw [List.length_append, List.length_set, frame_len]
  have hf4 : (four (x.length : Int)).length = 4 := rfl
  have hs4 : (four (sumA (four (x.length : Int) ++ x))).length = 4 := rfl
  have e0 : (frame x).set j y = four (x.length : Int) ++ ((four (sumA (four (x.length : Int) ++ x)) ++ x).set (j - 4) y) := by
    rw [frame, List.set_append_right _ _ (by rw [hf4]; omega), hf4]
  have et : ((frame x).set j y ++ r).take 4 = four (x.length : Int) := by
    rw [e0, List.append_assoc, List.take_append_of_le_length (by rw [hf4]; omega), List.take_of_length_le (by rw [hf4]; omega)]
  have ef : fn ((frame x).set j y ++ r) = x.length := by
    rw [fn, et, wv_of_four (by omega) (by have := hx.2; omega)]; omega
  have hx2 := hx.2
  have ed : ((frame x).set j y ++ r).drop 4 = (four (sumA (four (x.length : Int) ++ x)) ++ x).set (j - 4) y ++ r := by
    rw [e0, List.append_assoc, List.drop_append_of_le_length (by rw [hf4]; omega), List.drop_of_length_le (by rw [hf4]; omega), List.nil_append]
  have eb : body ((frame x).set j y ++ r) = (((four (sumA (four (x.length : Int) ++ x)) ++ x).set (j - 4) y ++ r).drop 4).take x.length := by
    rw [body, ef, ← ed, List.drop_drop]
  refine headE_sum (by omega) (by rw [ef]; omega) (by rw [ef]; omega) ?_
  rw [et, ed, eb]
  rw [frame, List.getElem?_append_right (by rw [hf4]; omega), hf4] at hj
  by_cases h8 : j < 8
  · have e1 : (four (sumA (four (x.length : Int) ++ x)) ++ x).set (j - 4) y = (four (sumA (four (x.length : Int) ++ x))).set (j - 4) y ++ x := by
      rw [List.set_append_left _ _ (by rw [hs4]; omega)]
    have hl : ((four (sumA (four (x.length : Int) ++ x))).set (j - 4) y).length = 4 := by rw [List.length_set, hs4]
    rw [List.getElem?_append_left (by rw [hs4]; omega)] at hj
    rw [e1, List.append_assoc, List.drop_append_of_le_length (by omega), List.drop_of_length_le (by omega), List.nil_append, List.take_append_of_le_length (by omega), List.take_of_length_le (by omega),
      List.take_append_of_le_length (by omega), List.take_of_length_le (by omega)]
    intro e
    have hb : Bts ((four (sumA (four (x.length : Int) ++ x))).set (j - 4) y) := by
      intro z hz
      rcases List.mem_or_eq_of_mem_set hz with hz | rfl
      · exact four_bts (sumA_bd _).1 (sumA_bd _).2 z hz
      · exact hy
    have e2 : (four (sumA (four (x.length : Int) ++ x))).set (j - 4) y = four (sumA (four (x.length : Int) ++ x)) := by
      have := congrArg four e
      rw [four_of_wv hl hb] at this
      exact this.symm
    have e3 : ((four (sumA (four (x.length : Int) ++ x))).set (j - 4) y)[j - 4]? = some y := List.getElem?_set_self (by rw [hs4]; omega)
    rw [e2, hj] at e3
    injection e3 with e3
    exact hne e3.symm
  · have e1 : (four (sumA (four (x.length : Int) ++ x)) ++ x).set (j - 4) y = four (sumA (four (x.length : Int) ++ x)) ++ x.set (j - 8) y := by
      rw [List.set_append_right _ _ (by rw [hs4]; omega), hs4, Nat.sub_sub]
    rw [List.getElem?_append_right (by rw [hs4]; omega), hs4, Nat.sub_sub] at hj
    rw [e1, List.append_assoc, List.drop_append_of_le_length (by omega), List.drop_of_length_le (by omega), List.nil_append, List.take_append_of_le_length (by rw [List.length_set]; omega), List.take_of_length_le (by rw [List.length_set]; omega),
      List.take_append_of_le_length (by omega), List.take_of_length_le (by omega), wv_of_four (sumA_bd _).1 (sumA_bd _).2]
    have e2 : four (x.length : Int) ++ x.set (j - 8) y = (four (x.length : Int) ++ x).set (j - 4) y := by
      rw [List.set_append_right _ _ (by rw [hf4]; omega), hf4, Nat.sub_sub]
    rw [e2]
    refine sumA_set (x := o) ?_ ho hy hne
    rw [List.getElem?_append_right (by rw [hf4]; omega), hf4, Nat.sub_sub]
    exact hj
theorem scan_hurt {pre post : List (List Int)} {x : List Int} (hp : Recs pre) (hx : Rec x) {k : Nat} {o y : Int} (h4 : sz pre + 4 ≤ k) (hk : k < sz pre + (8 + x.length))
    (ho : (frames (pre ++ x :: post))[k]? = some o) (hy : 0 ≤ y ∧ y ≤ 255) (hne : y ≠ o) : scan ((frames (pre ++ x :: post)).set k y) = (pre, sz pre, 30) := by
  have e : frames (pre ++ x :: post) = frames pre ++ (frame x ++ frames post) := by rw [frames_app]; rfl
  rw [e, List.getElem?_append_right (by rw [frames_len]; omega), frames_len, List.getElem?_append_left (by rw [frame_len]; omega)] at ho
  have hd := head_hurt hx (by omega) ho hy hne (frames post)
  have hn : (frame x).set (k - sz pre) y ++ frames post ≠ [] := by
    intro e; have := congrArg List.length e; rw [List.length_append, List.length_set, frame_len] at this; simp at this
  rw [e, List.set_append_right _ _ (by rw [frames_len]; omega), frames_len, List.set_append_left _ _ (by rw [frame_len]; omega), scan_frames hp, scan_bad hn (by rw [hd]; omega), hd]
  simp

end Go.Proofs.Ytieeojigonbifaa
