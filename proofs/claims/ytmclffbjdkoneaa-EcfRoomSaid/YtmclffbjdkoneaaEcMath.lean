/- Package ecf: what the five laws ask of the numbers. No program of the stage. -/
import Derived.Test.YtmclffbjdkoneaaEc
namespace Go.Proofs.Ytmclffbjdkoneaa
open Go.RowKit
set_option linter.unusedVariables false
set_option linter.unusedSimpArgs false

theorem ecm_same (l : List Chv) (n : Nat) (mss : Int) (h : 0 ≤ bestI (fun x => roomB x mss) l n) : 0 ≤ bestI chB l n ∧ (roomB (ge l (bestI chB l n).toNat) mss = true → bestI chB l n = bestI (fun x => roomB x mss) l n) := by
  have hF := best_ok chB l n
  have hS := best_ok (fun x => roomB x mss) l n
  have rs := hS.holds h
  have cs := (chB_iff _).2 ((roomB_iff _ _).1 rs).1
  generalize bestI (fun x => roomB x mss) l n = s at *
  have h1 := hS.hi
  have hF0 : 0 ≤ bestI chB l n := Int.not_lt.1 (fun hn => by rw [hF.none hn s.toNat (by omega)] at cs; cases cs)
  generalize bestI chB l n = f at *
  have h2 := hF.hi
  refine ⟨hF0, fun hr => ?_⟩
  have l1 := hS.least h f.toNat (by omega) hr
  have l2 := hF.least hF0 s.toNat (by omega) cs
  rcases Int.lt_trichotomy f s with g | g | g
  · have := hS.first h f.toNat (by omega) hr; omega
  · exact g
  · have := hF.first hF0 s.toNat (by omega) cs; omega

/-- what is picked: one that has room and is the fastest such; or none, and waited; or none, and none has room -/
structure PickOk (l : List Chv) (bytes mss : Int) (a : Int) (x : Bool) : Prop where
  lo : -1 ≤ a
  hi : a < (l.length : Int)
  wait : x = true → a = -1
  room : 0 ≤ a → roomB (ge l a.toNat) mss = true ∧ PkOk l bytes mss
  least : 0 ≤ a → ∀ j, j < l.length → roomB (ge l j) mss = true → (ge l a.toNat).srtt ≤ (ge l j).srtt
  none : a < 0 → x = false → PkOk l bytes mss → ∀ j, j < l.length → roomB (ge l j) mss = false
theorem pick_ok (l : List Chv) (bytes mss : Int) (waits : Bool) : PickOk l bytes mss (pickR l bytes mss waits).1 (pickR l bytes mss waits).2 := by
  have hS := best_ok (fun x => roomB x mss) l l.length
  have no : ∀ x, (PkOk l bytes mss → ∀ j, j < l.length → roomB (ge l j) mss = false) ∨ x = true → PickOk l bytes mss (-1) x := fun x h => by
    refine ⟨by omega, by omega, fun _ => rfl, fun h0 => absurd h0 (by omega), fun h0 => absurd h0 (by omega), fun _ hx => ?_⟩
    rcases h with h | h
    · exact h
    · rw [hx] at h; cases h
  have yes : PkOk l bytes mss → 0 ≤ bestI (fun x => roomB x mss) l l.length → PickOk l bytes mss (bestI (fun x => roomB x mss) l l.length) false := fun hk h0 =>
    ⟨hS.lo, hS.hi, (fun h => by cases h), fun _ => ⟨hS.holds h0, hk⟩, fun _ => hS.least h0, fun hn => absurd hn (by omega)⟩
  unfold pickR
  by_cases hk : PkOk l bytes mss
  · rw [if_pos hk]
    by_cases h0 : bestI (fun x => roomB x mss) l l.length < 0
    · rw [if_pos h0]
      exact no _ (.inl (fun _ => hS.none h0))
    · rw [if_neg h0]
      split
      · exact yes hk (by omega)
      · split
        · exact no _ (.inr rfl)
        · exact yes hk (by omega)
  · rw [if_neg hk]
    exact no _ (.inl (fun h => absurd h hk))
/-- it is waited: the fastest one has no room, and some has -/
structure WaitOk (l : List Chv) (mss : Int) (f s : Nat) : Prop where
  fl : f < l.length
  sl : s < l.length
  fc : chB (ge l f) = true
  fr : roomB (ge l f) mss = false
  sr : roomB (ge l s) mss = true
  least : ∀ j, j < l.length → roomB (ge l j) mss = true → (ge l f).srtt ≤ (ge l j).srtt
theorem pick_wait (l : List Chv) (bytes mss : Int) (waits : Bool) (h : (pickR l bytes mss waits).2 = true) : PkOk l bytes mss ∧ ∃ f s : Nat, bestI chB l l.length = (f : Int) ∧ bestI (fun x => roomB x mss) l l.length = (s : Int) ∧ WaitOk l mss f s ∧ waitB (ge l f) (ge l s) bytes waits = true := by
  unfold pickR at h
  by_cases hk : PkOk l bytes mss
  case neg => rw [if_neg hk] at h; cases h
  refine ⟨hk, ?_⟩
  rw [if_pos hk] at h
  by_cases h0 : bestI (fun x => roomB x mss) l l.length < 0
  case pos => rw [if_pos h0] at h; cases h
  rw [if_neg h0] at h
  by_cases hr : roomB (ge l (bestI chB l l.length).toNat) mss = true
  case pos => rw [if_pos hr] at h; cases h
  rw [if_neg hr] at h
  by_cases hw : waitB (ge l (bestI chB l l.length).toNat) (ge l (bestI (fun x => roomB x mss) l l.length).toNat) bytes waits = true
  case neg => rw [if_neg hw] at h; cases h
  obtain ⟨hF0, _⟩ := ecm_same l l.length mss (by omega)
  have hS := best_ok (fun x => roomB x mss) l l.length
  have hF := best_ok chB l l.length
  generalize bestI (fun x => roomB x mss) l l.length = s at *
  generalize bestI chB l l.length = f at *
  obtain ⟨f, rfl⟩ : ∃ m : Nat, f = (m : Int) := ⟨f.toNat, by omega⟩
  obtain ⟨s, rfl⟩ : ∃ m : Nat, s = (m : Int) := ⟨s.toNat, by omega⟩
  simp only [Int.toNat_natCast] at hr hw
  have c1 := hF.holds hF0; have c2 := hS.holds (by omega)
  simp only [Int.toNat_natCast] at c1 c2
  refine ⟨f, s, rfl, rfl, ⟨by have := hF.hi; omega, by have := hS.hi; omega, c1, by simpa using hr, c2, fun j hj hj2 => ?_⟩, hw⟩
  have := hF.least hF0 j hj ((chB_iff _).2 ((roomB_iff _ _).1 hj2).1)
  simpa using this
theorem wait_more (f s : Chv) (bytes : Int) (hf : ChOk f) (hs : ChOk s) (h : waitB f s bytes false = true) : waitB f s bytes true = true := by
  unfold waitB at h ⊢
  rw [decide_eq_true_eq] at h ⊢
  refine ⟨?_, h.2⟩
  have h1 := h.1
  rw [if_neg (by simp)] at h1
  rw [if_pos rfl]
  have := hs.s0; have := hs.v0; have := hf.v0
  omega
theorem pick_more (l : List Chv) (bytes mss : Int) (h : (pickR l bytes mss false).2 = true) : (pickR l bytes mss true).2 = true := by
  obtain ⟨hk, f, s, ef, es, hw, hb⟩ := pick_wait l bytes mss false h
  have hb2 := wait_more _ _ bytes ((chB_iff _).1 hw.fc) ((roomB_iff _ _).1 hw.sr).1 hb
  unfold pickR
  rw [if_pos hk, es, ef, if_neg (by omega), Int.toNat_natCast, Int.toNat_natCast, if_neg (by rw [hw.fr]; simp), if_pos hb2]
theorem ecge_app (l : List Chv) (x : Chv) (i : Nat) (h : i < l.length) : ge (l ++ [x]) i = ge l i := by
  rw [ge_eq (by rw [List.length_append]; omega), ge_eq h, List.getElem_append_left h]
theorem ecge_end (l : List Chv) (x : Chv) : ge (l ++ [x]) l.length = x := by
  rw [ge_eq (by simp)]; simp
theorem best_app (p : Chv → Bool) (l : List Chv) (x : Chv) : ∀ k, k ≤ l.length → bestI p (l ++ [x]) k = bestI p l k := by
  intro k
  induction k with
  | zero => intro _; rfl
  | succ k ih =>
    intro h
    rw [best_succ, best_succ, ih (by omega), ecge_app l x k (by omega)]
    by_cases h0 : bestI p l k < 0
    · by_cases hp : p (ge l k) = true
      · rw [if_pos ⟨hp, .inl h0⟩, if_pos ⟨hp, .inl h0⟩]
      · rw [if_neg (fun q => hp q.1), if_neg (fun q => hp q.1)]
    · have := best_ok p l k
      have h1 := this.hi
      rw [ecge_app l x (bestI p l k).toNat (by omega)]
theorem best_last (p : Chv → Bool) (l : List Chv) (x : Chv) (h : p x = false ∨ 0 ≤ bestI p l l.length ∧ (ge l (bestI p l l.length).toNat).srtt ≤ x.srtt) : bestI p (l ++ [x]) (l ++ [x]).length = bestI p l l.length := by
  have e : (l ++ [x]).length = l.length + 1 := by simp
  rw [e, best_succ, best_app p l x l.length (Nat.le_refl _), ecge_end]
  rcases h with h | ⟨h, h2⟩
  · rw [if_neg (fun q => by rw [h] at q; cases q.1)]
  · have hi := (best_ok p l l.length).hi
    rw [ecge_app l x _ (by omega), if_neg (fun q => by rcases q.2 with q2 | q2 <;> omega)]
theorem pick_last (l : List Chv) (x : Chv) (bytes mss : Int) (waits : Bool) (hn : l.length ≤ 3) (h : ¬ (chB x = true ∧ ((pickR l bytes mss waits).1 < 0 ∨ x.srtt < (ge l (pickR l bytes mss waits).1.toNat).srtt))) : pickR (l ++ [x]) bytes mss waits = pickR l bytes mss waits := by
  have key : bestI chB (l ++ [x]) (l ++ [x]).length = bestI chB l l.length ∧ bestI (fun x => roomB x mss) (l ++ [x]) (l ++ [x]).length = bestI (fun x => roomB x mss) l l.length := by
    cases hc : chB x with
    | false =>
      refine ⟨best_last _ _ _ (.inl hc), best_last _ _ _ (.inl ?_)⟩
      unfold roomB; rw [hc]; rfl
    | true =>
      have hno : ¬ ((pickR l bytes mss waits).1 < 0 ∨ x.srtt < (ge l (pickR l bytes mss waits).1.toNat).srtt) := fun q => h ⟨hc, q⟩
      have ha : 0 ≤ (pickR l bytes mss waits).1 := Int.not_lt.1 (fun q => hno (.inl q))
      have hx : (ge l (pickR l bytes mss waits).1.toNat).srtt ≤ x.srtt := Int.not_lt.1 (fun q => hno (.inr q))
      have hS : (pickR l bytes mss waits).1 = bestI (fun x => roomB x mss) l l.length := by
        unfold pickR at ha ⊢
        by_cases hk : PkOk l bytes mss
        · rw [if_pos hk] at ha ⊢
          by_cases h0 : bestI (fun x => roomB x mss) l l.length < 0
          · rw [if_pos h0] at ha; exact absurd ha (by show ¬ (0 : Int) ≤ -1; omega)
          · rw [if_neg h0] at ha ⊢
            split
            · rfl
            · next hr =>
              rw [if_neg hr] at ha
              split
              · next hw => rw [if_pos hw] at ha; exact absurd ha (by show ¬ (0 : Int) ≤ -1; omega)
              · rfl
        · rw [if_neg hk] at ha; exact absurd ha (by show ¬ (0 : Int) ≤ -1; omega)
      rw [hS] at ha hx
      obtain ⟨hF0, _⟩ := ecm_same l l.length mss ha
      have bF := best_ok chB l l.length
      have bS := best_ok (fun x => roomB x mss) l l.length
      have hl := bF.least hF0 (bestI (fun x => roomB x mss) l l.length).toNat (by have := bS.hi; omega) ((chB_iff _).2 ((roomB_iff _ _).1 (bS.holds ha)).1)
      exact ⟨best_last _ _ _ (.inr ⟨hF0, by omega⟩), best_last _ _ _ (.inr ⟨ha, hx⟩)⟩
  obtain ⟨k1, k2⟩ := key
  have hF := best_ok chB l l.length
  have hS := best_ok (fun x => roomB x mss) l l.length
  have hpk : PkOk (l ++ [x]) bytes mss ↔ PkOk l bytes mss := by
    unfold PkOk; rw [List.length_append]
    have : ([x] : List Chv).length = 1 := rfl
    omega
  unfold pickR
  by_cases hk : PkOk l bytes mss
  · rw [if_pos hk, if_pos (hpk.2 hk), k1, k2]
    by_cases h0 : bestI (fun x => roomB x mss) l l.length < 0
    · rw [if_pos h0, if_pos h0]
    · obtain ⟨hF0, _⟩ := ecm_same l l.length mss (by omega)
      have := hF.hi; have := hS.hi
      rw [if_neg h0, if_neg h0, ecge_app l x (bestI chB l l.length).toNat (by omega), ecge_app l x (bestI (fun x => roomB x mss) l l.length).toNat (by omega)]
  · rw [if_neg hk, if_neg (fun q => hk (hpk.1 q))]
theorem best_take {p : Chv → Bool} {l : List Chv} {k : Nat} (h : p (ge l k) = true ∧ (bestI p l k < 0 ∨ (ge l k).srtt < (ge l (bestI p l k).toNat).srtt)) : bestI p l (k + 1) = (k : Int) := by rw [best_succ, if_pos h]
theorem best_skip {p : Chv → Bool} {l : List Chv} {k : Nat} (h : ¬ (p (ge l k) = true ∧ (bestI p l k < 0 ∨ (ge l k).srtt < (ge l (bestI p l k).toNat).srtt))) : bestI p l (k + 1) = bestI p l k := by rw [best_succ, if_neg h]
theorem best_zero (p : Chv → Bool) (l : List Chv) : bestI p l 0 < 0 := by show (-1 : Int) < 0; omega
theorem pick_one (s : Chv) (mss : Int) : pickR [s] 1 mss false = if roomB s mss = true then (0, false) else (-1, false) := by
  have e : roomB s mss = true → bestI (fun x => roomB x mss) [s] 1 = 0 := fun h => best_take (p := fun x => roomB x mss) (l := [s]) (k := 0) ⟨h, .inl (best_zero _ _)⟩
  have e2 : ¬ roomB s mss = true → bestI (fun x => roomB x mss) [s] 1 = -1 := fun h => best_skip (p := fun x => roomB x mss) (l := [s]) (k := 0) (fun q => h q.1)
  have c : roomB s mss = true → bestI chB [s] 1 = 0 := fun h => best_take (p := chB) (l := [s]) (k := 0) ⟨(chB_iff _).2 ((roomB_iff _ _).1 h).1, .inl (best_zero _ _)⟩
  unfold pickR
  rw [show ([s] : List Chv).length = 1 from rfl]
  by_cases h : roomB s mss = true
  · have hr := (roomB_iff _ _).1 h
    rw [e h, c h, if_pos ⟨by show 1 ≤ 4; omega, by omega, by omega, hr.2.1, hr.2.2.1⟩, if_neg (by omega)]
    rw [if_pos (show roomB (ge [s] (Int.toNat 0)) mss = true from h), if_pos h]
  · rw [e2 h, if_neg h]
    split
    · rw [if_pos (by omega)]
    · rfl
theorem pick_two (f s : Chv) (mss : Int) (hf : chB f = true) (hs : roomB s mss = true) (hn : roomB f mss = false) (h1 : 1 ≤ f.srtt) (h2 : f.srtt ≤ s.srtt) (k1 : s.srtt ≤ 1000000) (k2 : s.vr ≤ 1000000) (k3 : f.vr ≤ 1000000) (k4 : f.cwnd ≤ 100000) : pickR [f, s] 1099511627776 mss false = (1, false) := by
  have hr := (roomB_iff _ _).1 hs
  have cs := (chB_iff _).2 hr.1
  have hc := (chB_iff _).1 hf
  have r1 : bestI (fun x => roomB x mss) [f, s] 1 = -1 := best_skip (p := fun x => roomB x mss) (l := [f, s]) (k := 0) (fun q => by have q1 : roomB f mss = true := q.1; rw [hn] at q1; cases q1)
  have r2 : bestI (fun x => roomB x mss) [f, s] 2 = 1 := best_take (p := fun x => roomB x mss) (l := [f, s]) (k := 1) ⟨hs, .inl (by rw [r1]; omega)⟩
  have c1 : bestI chB [f, s] 1 = 0 := best_take (p := chB) (l := [f, s]) (k := 0) ⟨hf, .inl (best_zero _ _)⟩
  have c2 : bestI chB [f, s] 2 = 0 := by
    rw [best_skip (p := chB) (l := [f, s]) (k := 1) (fun q => by
      have q2 := q.2
      rw [c1] at q2
      rcases q2 with q2 | q2
      · omega
      · have q3 : s.srtt < f.srtt := q2
        omega), c1]
  have hq : 10995116 ≤ 1099511627776 / f.cwnd := by
    have := hc.c0
    rw [Int.le_ediv_iff_mul_le (by omega)]
    omega
  obtain ⟨q, hqq⟩ : ∃ q, 1099511627776 / f.cwnd = q := ⟨_, rfl⟩
  have hw : waitB f s 1099511627776 false = false := by
    unfold waitB
    rw [decide_eq_false_iff_not]
    intro h
    have h3 := h.1
    rw [if_neg (by simp), hqq] at h3
    rw [hqq] at hq
    have h4 : 4 * (1 + q) * 1 ≤ 4 * (1 + q) * f.srtt := Int.mul_le_mul_of_nonneg_left h1 (by omega)
    have := hc.v0; have := hr.1.v0
    omega
  unfold pickR
  rw [show ([f, s] : List Chv).length = 2 from rfl, r2, c2, if_pos ⟨by show 2 ≤ 4; omega, by omega, by omega, hr.2.1, hr.2.2.1⟩, if_neg (by omega)]
  rw [if_neg (show ¬ roomB (ge [f, s] (Int.toNat 0)) mss = true from by rw [show ge [f, s] (Int.toNat 0) = f from rfl, hn]; simp), if_neg (show ¬ waitB (ge [f, s] (Int.toNat 0)) (ge [f, s] (Int.toNat 1)) 1099511627776 false = true from by rw [show ge [f, s] (Int.toNat 0) = f from rfl, show ge [f, s] (Int.toNat 1) = s from rfl, hw]; simp)]
end Go.Proofs.Ytmclffbjdkoneaa
