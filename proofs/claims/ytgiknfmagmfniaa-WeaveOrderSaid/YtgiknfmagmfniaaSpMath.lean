/- Package spans: what the answers say of the numbers. No program. -/
import Derived.Test.YtgiknfmagmfniaaSpPure
import Derived.Test.YtgiknfmagmfniaaSpAns
namespace Go.Proofs.Ytgiknfmagmfniaa

/-- is a number in a list? -/
def inL (l : List Sp) (n : Int) : Prop := ∃ p ∈ l, p.1 ≤ n ∧ n < p.2
theorem inL_nil (n : Int) : ¬ inL [] n := fun ⟨_, h, _⟩ => by cases h
theorem inL_cons (p : Sp) (t : List Sp) (n : Int) : inL (p :: t) n ↔ (p.1 ≤ n ∧ n < p.2) ∨ inL t n := by
  unfold inL; simp
theorem inL_app (a b : List Sp) (n : Int) : inL (a ++ b) n ↔ inL a n ∨ inL b n := by
  unfold inL
  constructor
  · rintro ⟨p, hp, h⟩
    rcases List.mem_append.1 hp with h1 | h1
    · exact .inl ⟨p, h1, h⟩
    · exact .inr ⟨p, h1, h⟩
  · rintro (⟨p, hp, h⟩ | ⟨p, hp, h⟩)
    · exact ⟨p, List.mem_append.2 (.inl hp), h⟩
    · exact ⟨p, List.mem_append.2 (.inr hp), h⟩

theorem inB_iff (l : List Sp) (n : Int) : inB l n = true ↔ inL l n := by unfold inB inL; simp

/-- chain, taken apart -/
theorem ch_cons {d : Int} {p : Sp} {t : List Sp} : chain d (p :: t) = true ↔ d < p.1 ∧ (0 ≤ p.1 ∧ p.1 < p.2 ∧ p.2 ≤ 4611686018427387904) ∧ chain p.2 t = true := by
  simp only [chain, Bool.and_eq_true, decide_eq_true_eq, vld_iff]
theorem ch_weak {d e : Int} {l : List Sp} (h : chain d l = true) (he : e ≤ d) : chain e l = true := by
  cases l with
  | nil => rfl
  | cons p t => rw [ch_cons] at *; exact ⟨by omega, h.2⟩
theorem ch_each {d : Int} {l : List Sp} (h : chain d l = true) : ∀ p ∈ l, d < p.1 ∧ 0 ≤ p.1 ∧ p.1 < p.2 ∧ p.2 ≤ 4611686018427387904 := by
  induction l generalizing d with
  | nil => intro p hp; cases hp
  | cons q t ih =>
    rw [ch_cons] at h
    intro p hp
    rcases List.mem_cons.1 hp with rfl | hp
    · exact ⟨h.1, h.2.1⟩
    · have := ih h.2.2 p hp; omega
theorem ch_in {d : Int} {l : List Sp} (h : chain d l = true) {n : Int} (hn : inL l n) : d < n ∧ 0 ≤ n ∧ n < 4611686018427387904 := by
  obtain ⟨p, hp, h1, h2⟩ := hn
  have := ch_each h p hp
  omega

/-- for each set of numbers there is only one list -/
theorem ch_unique {d e : Int} {l m : List Sp} (h : chain d l = true) (k : chain e m = true) (hs : ∀ n, inL l n ↔ inL m n) : l = m := by
  induction l generalizing d e m with
  | nil =>
    cases m with
    | nil => rfl
    | cons q t =>
      rw [ch_cons] at k
      exact absurd ((hs q.1).2 ((inL_cons _ _ _).2 (.inl ⟨Int.le_refl _, k.2.1.2.1⟩))) (inL_nil _)
  | cons p t ih =>
    cases m with
    | nil =>
      rw [ch_cons] at h
      exact absurd ((hs p.1).1 ((inL_cons _ _ _).2 (.inl ⟨Int.le_refl _, h.2.1.2.1⟩))) (inL_nil _)
    | cons q u =>
      have h' := h; have k' := k
      rw [ch_cons] at h k
      obtain ⟨h1, h2, h3⟩ := h
      obtain ⟨k1, k2, k3⟩ := k
      have a1 := (hs p.1).1 ((inL_cons _ _ _).2 (.inl ⟨Int.le_refl _, h2.2.1⟩))
      have a2 := (hs q.1).2 ((inL_cons _ _ _).2 (.inl ⟨Int.le_refl _, k2.2.1⟩))
      have b1 : q.1 ≤ p.1 := by
        rcases (inL_cons _ _ _).1 a1 with h | h
        · exact h.1
        · have := ch_in k3 h; omega
      have b2 : p.1 ≤ q.1 := by
        rcases (inL_cons _ _ _).1 a2 with h | h
        · exact h.1
        · have := ch_in h3 h; omega
      have c1 : p.1 = q.1 := by omega
      have c2 : p.2 = q.2 := by
        rcases Int.lt_trichotomy p.2 q.2 with h | h | h
        · have := (hs p.2).2 ((inL_cons _ _ _).2 (.inl ⟨by omega, h⟩))
          rcases (inL_cons _ _ _).1 this with g | g
          · omega
          · have := ch_in h3 g; omega
        · exact h
        · have := (hs q.2).1 ((inL_cons _ _ _).2 (.inl ⟨by omega, h⟩))
          rcases (inL_cons _ _ _).1 this with g | g
          · omega
          · have := ch_in k3 g; omega
      have hpq : p = q := Prod.ext c1 c2
      subst hpq
      rw [ih h3 k3 (fun n => ?_)]
      constructor
      · intro hn
        have g := ch_in h3 hn
        rcases (inL_cons _ _ _).1 ((hs n).1 ((inL_cons _ _ _).2 (.inr hn))) with f | f
        · omega
        · exact f
      · intro hn
        have g := ch_in k3 hn
        rcases (inL_cons _ _ _).1 ((hs n).2 ((inL_cons _ _ _).2 (.inr hn))) with f | f
        · omega
        · exact f

/-! Add -/
def ins : List Sp → Sp → List Sp
  | [], s => [s]
  | p :: t, s => if p.2 < s.1 then p :: ins t s else if s.2 < p.1 then s :: p :: t else ins t (min p.1 s.1, max p.2 s.2)

theorem grn_two (t : List Sp) (s : Sp) (f b : Nat) (pre : List Sp) (hb : pre.length = b) (h : ∀ p ∈ t, ¬ p.2 < s.1) :
    (grn s f b t).2.1 = f ∧ (grn s f b t).1 :: (pre ++ t).drop (grn s f b t).2.2 = ins t s := by
  induction t generalizing s b pre with
  | nil => subst hb; simp [grn, ins]
  | cons p t ih =>
    have hp := h p (by simp)
    have ht : ∀ q ∈ t, ¬ q.2 < s.1 := fun q hq => h q (by simp [hq])
    rw [grn, ins, if_neg hp, if_neg hp]
    by_cases hk : s.2 < p.1
    · rw [if_pos hk, if_pos hk]
      subst hb
      simp
    · rw [if_neg hk, if_neg hk]
      have := ih (min p.1 s.1, max p.2 s.2) (b + 1) (pre ++ [p]) (by simp [hb]) (fun q hq => by have := ht q hq; simp only; omega)
      rw [List.append_assoc] at this
      exact this
theorem grn_one (t : List Sp) (s : Sp) (d : Int) (b : Nat) (pre : List Sp) (hb : pre.length = b) (h : chain d t = true) :
    (pre ++ t).take (grn s b b t).2.1 ++ ((grn s b b t).1 :: (pre ++ t).drop (grn s b b t).2.2) = pre ++ ins t s := by
  induction t generalizing d b pre with
  | nil => subst hb; simp [grn, ins]
  | cons p t ih =>
    rw [ch_cons] at h
    rw [grn, ins]
    by_cases hp : p.2 < s.1
    · rw [if_pos hp, if_pos hp]
      have := ih p.2 (b + 1) (pre ++ [p]) (by simp [hb]) h.2.2
      rw [List.append_assoc, List.append_assoc] at this
      exact this
    · rw [if_neg hp, if_neg hp]
      by_cases hk : s.2 < p.1
      · rw [if_pos hk, if_pos hk]
        subst hb
        simp
      · rw [if_neg hk, if_neg hk]
        obtain ⟨g1, g2⟩ := grn_two t (min p.1 s.1, max p.2 s.2) b (b + 1) (pre ++ [p]) (by simp [hb]) (fun q hq => by have := ch_each h.2.2 q hq; simp only; omega)
        rw [List.append_assoc] at g2
        rw [g1]
        rw [show [p] ++ t = p :: t from rfl] at g2
        rw [g2]
        subst hb
        simp
theorem addL_ins {l : List Sp} {d : Int} (h : chain d l = true) (s : Sp) : addL l s = ins l s := by
  have := grn_one l s d 0 [] rfl h
  simpa [addL] using this

theorem ins_ch {l : List Sp} {s : Sp} {d : Int} (h : chain d l = true) (hs : vld s.1 s.2 = true) (hd : d < s.1) : chain d (ins l s) = true := by
  induction l generalizing d s with
  | nil => rw [ins, ch_cons]; exact ⟨hd, vld_iff.1 hs, rfl⟩
  | cons p t ih =>
    have hv := vld_iff.1 hs
    have h' := h
    rw [ch_cons] at h
    rw [ins]
    split
    · next g => rw [ch_cons]; exact ⟨h.1, h.2.1, ih h.2.2 hs g⟩
    · split
      · next g => rw [ch_cons]; exact ⟨hd, hv, by rw [ch_cons]; exact ⟨g, h.2⟩⟩
      · next g1 g2 => exact ih (s := (min p.1 s.1, max p.2 s.2)) (ch_weak h.2.2 (by omega)) (vld_iff.2 ⟨by simp only; omega, by simp only; omega, by simp only; omega⟩) (by simp only; omega)
theorem ins_in {l : List Sp} {s : Sp} {d : Int} (h : chain d l = true) (hs : s.1 < s.2) (n : Int) : inL (ins l s) n ↔ inL l n ∨ (s.1 ≤ n ∧ n < s.2) := by
  induction l generalizing d s with
  | nil => rw [ins, inL_cons]; exact ⟨fun h => h.elim .inr (fun h => absurd h (inL_nil _)), fun h => h.elim (fun h => absurd h (inL_nil _)) .inl⟩
  | cons p t ih =>
    rw [ch_cons] at h
    rw [ins]
    split
    · rw [inL_cons, inL_cons, ih h.2.2 hs, or_assoc]
    · split
      · rw [inL_cons, or_comm]
      · next g1 g2 =>
        rw [ih (s := (min p.1 s.1, max p.2 s.2)) h.2.2 (by simp only; omega), inL_cons]
        simp only
        constructor
        · rintro (h | h)
          · exact .inl (.inr h)
          · by_cases e : p.1 ≤ n ∧ n < p.2
            · exact .inl (.inl e)
            · exact .inr (by omega)
        · rintro ((h | h) | h)
          · exact .inr (by omega)
          · exact .inl h
          · exact .inr (by omega)
theorem ins_len (l : List Sp) (s : Sp) : (ins l s).length ≤ l.length + 1 := by
  induction l generalizing s with
  | nil => simp [ins]
  | cons p t ih =>
    rw [ins]
    split
    · have := ih s; simp only [List.length_cons]; omega
    · split
      · simp
      · have := ih (min p.1 s.1, max p.2 s.2); simp only [List.length_cons]; omega
theorem ins_has (l : List Sp) (s : Sp) : ∃ p ∈ ins l s, p.1 ≤ s.1 ∧ s.2 ≤ p.2 := by
  induction l generalizing s with
  | nil => exact ⟨s, by simp [ins], Int.le_refl _, Int.le_refl _⟩
  | cons p t ih =>
    rw [ins]
    split
    · obtain ⟨q, h1, h2⟩ := ih s; exact ⟨q, by simp [h1], h2⟩
    · split
      · exact ⟨s, by simp, Int.le_refl _, Int.le_refl _⟩
      · obtain ⟨q, h1, h2, h3⟩ := ih (min p.1 s.1, max p.2 s.2); exact ⟨q, h1, by simp only at h2; omega, by simp only at h3; omega⟩

/-- how many numbers of s are there -/
def ov1 (s p : Sp) : Int := max 0 (min p.2 s.2 - max p.1 s.1)
def ov (s : Sp) : List Sp → Int
  | [] => 0
  | p :: t => ov1 s p + ov s t
theorem ov_nonneg (s : Sp) (l : List Sp) : 0 ≤ ov s l := by
  induction l with
  | nil => exact Int.le_refl _
  | cons p t ih => rw [ov]; have : 0 ≤ ov1 s p := by unfold ov1; omega
                   omega
theorem ov_le {l : List Sp} {s : Sp} {d : Int} (h : chain d l = true) : ov s l ≤ max 0 (s.2 - max s.1 d) := by
  induction l generalizing d with
  | nil => rw [ov]; omega
  | cons p t ih =>
    rw [ch_cons] at h
    have := ih h.2.2
    rw [ov]
    have e : ov1 s p = max 0 (min p.2 s.2 - max p.1 s.1) := rfl
    omega
theorem ov_past {l : List Sp} {s : Sp} {d : Int} (h : chain d l = true) (hd : s.2 ≤ d) : ov s l = 0 := by
  have h1 := ov_le (s := s) h
  have h2 := ov_nonneg s l
  omega
theorem ov_same {l : List Sp} {s r : Sp} {d : Int} (h : chain d l = true) (hs : s.1 ≤ d + 1) (hr : r.1 ≤ d + 1) (he : s.2 = r.2 ∨ (s.2 ≤ d ∧ r.2 ≤ d)) : ov s l = ov r l := by
  rcases he with he | ⟨h1, h2⟩
  · induction l generalizing d with
    | nil => rfl
    | cons p t ih =>
      rw [ch_cons] at h
      rw [ov, ov, ih h.2.2 (by omega) (by omega)]
      unfold ov1
      omega
  · rw [ov_past h h1, ov_past h h2]
theorem ins_size {l : List Sp} {s : Sp} {d : Int} (h : chain d l = true) (hs : s.1 < s.2) : size (ins l s) = size l + (s.2 - s.1) - ov s l := by
  induction l generalizing d s with
  | nil => rw [ins, size_cons, size_nil, ov]; omega
  | cons p t ih =>
    rw [ch_cons] at h
    rw [ins]
    split
    · next g =>
      rw [size_cons, size_cons, ih h.2.2 hs, ov]
      have : ov1 s p = 0 := by unfold ov1; omega
      omega
    · split
      · next g1 g2 =>
        rw [size_cons, size_cons, ov, ov_past h.2.2 (by omega)]
        have : ov1 s p = 0 := by unfold ov1; omega
        omega
      · next g1 g2 =>
        rw [ih (s := (min p.1 s.1, max p.2 s.2)) h.2.2 (by simp only; omega), size_cons, ov]
        have e1 : ov (min p.1 s.1, max p.2 s.2) t = ov s t := ov_same h.2.2 (by simp only; omega) (by omega) (by simp only; omega)
        have e2 : ov1 s p = min p.2 s.2 - max p.1 s.1 := by unfold ov1; omega
        rw [e1, e2]
        simp only
        omega

/-! Cut -/
theorem lft_in {s p : Sp} (n : Int) : inL (lft s p) n ↔ (p.1 ≤ n ∧ n < p.2) ∧ ¬ (s.1 ≤ n ∧ n < s.2) ∨ ((p.1 ≤ n ∧ n < p.2) ∧ s.2 ≤ s.1) := by
  unfold lft
  rw [inL_app]
  constructor
  · rintro (h | h)
    · split at h
      · rcases (inL_cons _ _ _).1 h with h | h
        · simp only at h; omega
        · exact absurd h (inL_nil _)
      · exact absurd h (inL_nil _)
    · split at h
      · rcases (inL_cons _ _ _).1 h with h | h
        · simp only at h; omega
        · exact absurd h (inL_nil _)
      · exact absurd h (inL_nil _)
  · intro h
    by_cases e : n < s.1
    · exact .inl (by rw [if_pos (by omega), inL_cons]; exact .inl (by simp only; omega))
    · exact .inr (by rw [if_pos (by omega), inL_cons]; exact .inl (by simp only; omega))
theorem cutL_cons (p : Sp) (t : List Sp) (s : Sp) : cutL (p :: t) s = lft s p ++ cutL t s := rfl
theorem cutL_in (l : List Sp) {s : Sp} (hs : s.1 < s.2) (n : Int) : inL (cutL l s) n ↔ inL l n ∧ ¬ (s.1 ≤ n ∧ n < s.2) := by
  induction l with
  | nil => exact ⟨fun h => absurd h (inL_nil _), fun h => absurd h.1 (inL_nil _)⟩
  | cons p t ih =>
    rw [cutL_cons, inL_app, ih, lft_in, inL_cons]
    constructor
    · rintro ((h | h) | h)
      · exact ⟨.inl h.1, h.2⟩
      · omega
      · exact ⟨.inr h.1, h.2⟩
    · rintro ⟨h | h, k⟩
      · exact .inl (.inl ⟨h, k⟩)
      · exact .inr ⟨h, k⟩
theorem cutL_ch {l : List Sp} {s : Sp} {d : Int} (h : chain d l = true) (hs : s.1 < s.2) : chain d (cutL l s) = true := by
  induction l generalizing d with
  | nil => rfl
  | cons p t ih =>
    rw [ch_cons] at h
    have := ih h.2.2
    rw [cutL_cons]
    unfold lft
    split
    · split
      · simp only [List.cons_append, List.nil_append]
        rw [ch_cons, ch_cons]
        exact ⟨h.1, by simp only; omega, by simp only; omega, by simp only; omega, this⟩
      · simp only [List.cons_append, List.nil_append, List.append_nil]
        rw [ch_cons]
        exact ⟨h.1, by simp only; omega, ch_weak this (by simp only; omega)⟩
    · split
      · simp only [List.cons_append, List.nil_append]
        rw [ch_cons]
        exact ⟨by simp only; omega, by simp only; omega, this⟩
      · exact ch_weak this (by omega)
theorem cutL_past {l : List Sp} {s : Sp} {d : Int} (h : chain d l = true) (hs : s.1 < s.2) (hd : s.2 ≤ d) : cutL l s = l := by
  refine ch_unique (cutL_ch h hs) h (fun n => ?_)
  rw [cutL_in l hs]
  exact ⟨fun h => h.1, fun g => ⟨g, by have := ch_in h g; omega⟩⟩
theorem cutL_len1 {l : List Sp} {s : Sp} {d : Int} (h : chain d l = true) (hs : s.1 < s.2) : (cutL l s).length ≤ l.length + 1 := by
  induction l generalizing d with
  | nil => simp [cutL]
  | cons p t ih =>
    rw [ch_cons] at h
    have := ih h.2.2
    rw [cutL_cons, List.length_append, List.length_cons]
    by_cases g : p.1 < min p.2 s.1 ∧ max p.1 s.2 < p.2
    · rw [cutL_past h.2.2 hs (by omega)]
      unfold lft
      rw [if_pos g.1, if_pos g.2]
      simp; omega
    · have : (lft s p).length ≤ 1 := by
        unfold lft
        by_cases g1 : p.1 < min p.2 s.1
        · rw [if_pos g1, if_neg (fun g2 => g ⟨g1, g2⟩)]; simp
        · rw [if_neg g1]; split <;> simp
      omega
theorem size_app (a b : List Sp) : size (a ++ b) = size a + size b := by
  induction a with
  | nil => rw [size_nil]; simp
  | cons p t ih => rw [List.cons_append, size_cons, size_cons, ih]; omega
theorem lft_size {s p : Sp} (hs : s.1 < s.2) (hp : p.1 < p.2) : size (lft s p) = p.2 - p.1 - ov1 s p := by
  unfold lft ov1
  rw [size_app]
  split
  · split
    · rw [size_cons, size_cons, size_nil]; simp only; omega
    · rw [size_cons, size_nil]; simp only; omega
  · split
    · rw [size_cons, size_nil]; simp only; omega
    · rw [size_nil]; omega
theorem cutL_size {l : List Sp} {s : Sp} {d : Int} (h : chain d l = true) (hs : s.1 < s.2) : size (cutL l s) = size l - ov s l := by
  induction l generalizing d with
  | nil => rw [ov]; rfl
  | cons p t ih =>
    rw [ch_cons] at h
    rw [cutL_cons, size_app, ih h.2.2, size_cons, ov, lft_size hs h.2.1.2.1]
    omega

/-! Has, Gap -/
theorem hasIn_iff (l : List Sp) (a b : Int) : hasIn l a b = true ↔ ∃ p ∈ l, p.1 ≤ a ∧ b ≤ p.2 := by
  unfold hasIn; simp
theorem has_one (l : List Sp) (n : Int) : hasIn l n (n + 1) = true ↔ inL l n := by
  rw [hasIn_iff]; unfold inL
  exact ⟨fun ⟨p, h, h1, h2⟩ => ⟨p, h, h1, by omega⟩, fun ⟨p, h, h1, h2⟩ => ⟨p, h, h1, by omega⟩⟩
theorem gap_cases (l : List Sp) (n : Int) : gapIn l n = n ∧ ¬ inL l n ∨ ∃ p ∈ l, (p.1 ≤ n ∧ n < p.2) ∧ gapIn l n = p.2 := by
  induction l with
  | nil => exact .inl ⟨rfl, inL_nil _⟩
  | cons p t ih =>
    rw [gapIn]
    by_cases g : p.1 ≤ n ∧ n < p.2
    · rw [if_pos g]; exact .inr ⟨p, by simp, g, rfl⟩
    · rw [if_neg g]
      rcases ih with ⟨h1, h2⟩ | ⟨q, h1, h2⟩
      · exact .inl ⟨h1, fun h => (inL_cons _ _ _).1 h |>.elim g h2⟩
      · exact .inr ⟨q, by simp [h1], h2⟩
theorem gap_ge (l : List Sp) (n : Int) : n ≤ gapIn l n := by
  rcases gap_cases l n with ⟨h, _⟩ | ⟨p, _, h, e⟩ <;> omega
theorem end_out {l : List Sp} {d : Int} (h : chain d l = true) {p : Sp} (hp : p ∈ l) : ¬ inL l p.2 := by
  induction l generalizing d with
  | nil => cases hp
  | cons q t ih =>
    have h' := h
    rw [ch_cons] at h
    intro hn
    rcases List.mem_cons.1 hp with rfl | hp
    · rcases (inL_cons _ _ _).1 hn with g | g
      · omega
      · have := ch_in h.2.2 g; omega
    · rcases (inL_cons _ _ _).1 hn with g | g
      · have := ch_each h.2.2 p hp; omega
      · exact ih h.2.2 hp g
theorem gap_out {l : List Sp} {d : Int} (h : chain d l = true) (n : Int) : ¬ inL l (gapIn l n) := by
  rcases gap_cases l n with ⟨e, k⟩ | ⟨p, hp, _, e⟩
  · rw [e]; exact k
  · rw [e]; exact end_out h hp
theorem gap_same {l : List Sp} {n : Int} (h : ¬ inL l n) : gapIn l n = n := by
  rcases gap_cases l n with ⟨e, _⟩ | ⟨p, hp, k, _⟩
  · exact e
  · exact absurd ⟨p, hp, k⟩ h
theorem gap_has {l : List Sp} {d : Int} (h : chain d l = true) {a b : Int} (hab : a < b) : b ≤ gapIn l a ↔ hasIn l a b = true := by
  rw [hasIn_iff]
  constructor
  · intro g
    rcases gap_cases l a with ⟨e, _⟩ | ⟨p, hp, k, e⟩
    · omega
    · exact ⟨p, hp, k.1, by omega⟩
  · rintro ⟨q, hq, h1, h2⟩
    rcases gap_cases l a with ⟨e, k⟩ | ⟨p, hp, k, e⟩
    · exact absurd ⟨q, hq, h1, by omega⟩ k
    · rw [e]
      by_cases g : b ≤ p.2
      · exact g
      · exact absurd ⟨q, hq, by omega, by omega⟩ (end_out h hp)
theorem gap_hasit {l : List Sp} {a : Int} (h : gapIn l a ≠ a) : hasIn l a (gapIn l a) = true := by
  rw [hasIn_iff]
  rcases gap_cases l a with ⟨e, _⟩ | ⟨p, hp, k, e⟩
  · exact absurd e h
  · exact ⟨p, hp, k.1, by omega⟩
theorem gap_top {l : List Sp} {d : Int} (h : chain d l = true) {a : Int} (ha : a ≤ 4611686018427387904) : gapIn l a ≤ 4611686018427387904 := by
  rcases gap_cases l a with ⟨e, _⟩ | ⟨p, hp, k, e⟩
  · omega
  · have := ch_each h p hp; omega
end Go.Proofs.Ytgiknfmagmfniaa
