/- Package timer: what the laws ask of numbers. No program. -/
import Derived.Test.YtbkmadlekigjfaaTm
namespace Go.Proofs.Ytbkmadlekigjfaa
open Go.RowKit
set_option linter.unusedVariables false
set_option linter.unusedSimpArgs false

/-- a timer that First may choose -/
def TmV (t : Tmr) : Prop := tmB t = true ∧ 0 < t.kd
def TmZ (t : Tmr) : Prop := t = ztm ∨ TmV t
theorem step_v {o t : Tmr} (h : TmV t) : tmStep o t = if o.kd = 0 ∨ t.at_ ≤ o.at_ then t else o := by
  unfold tmStep
  by_cases c : o.kd = 0 ∨ t.at_ ≤ o.at_
  · rw [if_pos ⟨h.1, h.2, c⟩, if_pos c]
  · rw [if_neg (fun k => c k.2.2), if_neg c]
theorem step_n {o t : Tmr} (h : ¬ TmV t) : tmStep o t = o := if_neg (fun k => h ⟨k.1, k.2.1⟩)
theorem not_v_ztm : ¬ TmV ztm := fun h => by have := h.2; simp [ztm] at this
theorem step_z {o t : Tmr} (ho : TmZ o) : TmZ (tmStep o t) := by
  by_cases h : TmV t
  · rw [step_v h]; split
    · exact .inr h
    · exact ho
  · rw [step_n h]; exact ho
theorem to_z {y : Tmr} (hy : TmZ y) : ∀ l : List Tmr, TmZ (firstTo y l)
  | [] => hy
  | t :: l => by rw [firstTo_cons]; exact step_z (to_z hy l)
theorem first_z (l : List Tmr) : TmZ (firstR l) := to_z (.inl rfl) l
theorem step_assoc {y f t : Tmr} (hf : TmZ f) : tmStep (tmStep y f) t = tmStep y (tmStep f t) := by
  by_cases ht : TmV t
  case neg => rw [step_n ht, step_n ht]
  rcases hf with rfl | hf
  · rw [step_n not_v_ztm, step_v (o := ztm) ht, if_pos (.inl rfl)]
  have f0 : ¬ f.kd = 0 := by have := hf.2; omega
  rw [step_v (o := f) ht, step_v (o := y) hf]
  by_cases c1 : f.at_ < t.at_
  · rw [if_neg (by omega : ¬ (f.kd = 0 ∨ t.at_ ≤ f.at_)), step_v (o := y) hf, step_v ht]
    split
    · rw [if_neg (by omega)]
    · rw [if_neg (by omega)]
  · rw [if_pos (.inr (by omega) : f.kd = 0 ∨ t.at_ ≤ f.at_), step_v (o := y) ht, step_v ht]
    split
    · rename_i c
      rw [if_pos (.inr (by omega))]
      rw [if_pos (by rcases c with c | c; exact .inl c; exact .inr (by omega))]
    · rfl
theorem to_first {y : Tmr} : ∀ l : List Tmr, firstTo y l = tmStep y (firstR l)
  | [] => (step_n not_v_ztm).symm
  | t :: l => by
    rw [firstTo_cons, to_first l, step_assoc (first_z l)]
    unfold firstR
    rw [firstTo_cons]
theorem step_first {y : Tmr} (hy : TmZ y) : tmStep ztm y = y := by
  rcases hy with rfl | hy
  · exact step_n not_v_ztm
  · rw [step_v hy, if_pos (.inl rfl)]
/-- of two lists it is the first of both's first ones -/
theorem first_app (a b : List Tmr) : firstR (a ++ b) = firstR [firstR a, firstR b] := by
  have h : firstR (a ++ b) = firstTo (firstR b) a := by unfold firstR firstTo; rw [List.foldr_append]
  rw [h, to_first]
  show _ = tmStep (tmStep ztm (firstR b)) (firstR a)
  rw [step_first (first_z b)]
theorem first_one {t : Tmr} (h : tmB t = true) : firstR [t] = t := by
  show tmStep ztm t = t
  by_cases hv : TmV t
  · exact step_first (.inr hv)
  · rw [step_n hv]
    have ok := (tmB_iff t).1 h
    have h0 := ok.k0
    have h1 : t.kd = 0 := by
      have : ¬ 0 < t.kd := fun k => hv ⟨h, k⟩
      omega
    have h2 : t.at_ = 0 := by have := ok.z; omega
    obtain ⟨k, a⟩ := t
    dsimp only at h1 h2
    rw [h1, h2]; rfl
theorem first_nil : firstR [] = ztm := rfl
theorem first_may (l : List Tmr) : tmB (firstR l) = true := by
  rcases first_z l with h | h
  · rw [h]; decide
  · exact h.1
theorem first_le : ∀ {l : List Tmr} {t : Tmr}, t ∈ l → TmV t → (firstR l).kd ≠ 0 ∧ (firstR l).at_ ≤ t.at_
  | [], t, h, _ => by cases h
  | x :: l, t, h, hv => by
    show (tmStep (firstR l) x).kd ≠ 0 ∧ (tmStep (firstR l) x).at_ ≤ t.at_
    rcases List.mem_cons.1 h with rfl | h
    · rw [step_v hv]
      have := hv.2
      split <;> constructor <;> omega
    · obtain ⟨h1, h2⟩ := first_le h hv
      by_cases hx : TmV x
      · rw [step_v hx]
        have := hx.2
        split <;> constructor <;> omega
      · rw [step_n hx]; exact ⟨h1, h2⟩
theorem first_in : ∀ l : List Tmr, firstR l = ztm ∨ firstR l ∈ l
  | [] => .inl rfl
  | x :: l => by
    show tmStep (firstR l) x = ztm ∨ tmStep (firstR l) x ∈ x :: l
    by_cases hx : TmV x
    · rw [step_v hx]
      split
      · exact .inr (by simp)
      · rcases first_in l with h | h
        · exact .inl h
        · exact .inr (by simp [h])
    · rw [step_n hx]
      rcases first_in l with h | h
      · exact .inl h
      · exact .inr (by simp [h])
/-! Due -/
theorem due_facts {t : Tmr} {now : Int} (h : tdueR t now ≠ 0) : tdueR t now = t.kd ∧ tmB t = true ∧ t.at_ ≤ now ∧ TmV t := by
  unfold tdueR at h ⊢
  by_cases c : tmB t = true ∧ t.at_ ≤ now
  · rw [if_pos c] at h ⊢
    exact ⟨rfl, c.1, c.2, c.1, by have := ((tmB_iff t).1 c.1).k0; omega⟩
  · rw [if_neg c] at h; exact absurd rfl h
theorem due_self {t : Tmr} (h : tmB t = true) : tdueR t t.at_ = t.kd := by unfold tdueR; rw [if_pos ⟨h, Int.le_refl _⟩]
def anyD (now : Int) (l : List Tmr) : Bool := l.any (fun t => !(tdueR t now == 0))
theorem anyD_take {l : List Tmr} {k : Nat} (now : Int) (h : k < l.length) : anyD now (l.take (k + 1)) = (anyD now (l.take k) || !(tdueR (ge l k) now == 0)) := by
  unfold anyD; rw [take_ge h, List.any_append]; simp
theorem any_first (l : List Tmr) (now : Int) : anyD now l = !(tdueR (firstR l) now == 0) := by
  rw [Bool.eq_iff_iff]
  unfold anyD
  rw [List.any_eq_true]
  constructor
  · rintro ⟨t, ht, h⟩
    have h' : tdueR t now ≠ 0 := by simpa using h
    obtain ⟨_, _, h2, hv⟩ := due_facts h'
    obtain ⟨g1, g2⟩ := first_le ht hv
    have : tdueR (firstR l) now = (firstR l).kd := by unfold tdueR; rw [if_pos ⟨first_may l, by omega⟩]
    rw [this]; simpa using g1
  · intro h
    have h' : tdueR (firstR l) now ≠ 0 := by simpa using h
    rcases first_in l with e | e
    · rw [e] at h'; exact absurd (by unfold tdueR; split <;> rfl) h'
    · exact ⟨_, e, h⟩
/-! Set -/
def anyO (l : List Prt) : Bool := l.any outB
theorem anyO_take {l : List Prt} {k : Nat} (h : k < l.length) : anyO (l.take (k + 1)) = (anyO (l.take k) || outB (ge l k)) := by
  unfold anyO; rw [take_ge h, List.any_append]; simp
theorem lastStep_ge (a : Int) (x : Prt) : a ≤ lastStep a x := by unfold lastStep; split <;> omega
theorem lastR_ge : ∀ (l : List Prt) (a : Int), a ≤ l.foldl lastStep a
  | [], a => Int.le_refl _
  | x :: l, a => Int.le_trans (lastStep_ge a x) (lastR_ge l _)
theorem lastR_no : ∀ (l : List Prt) (a : Int), anyO l = false → l.foldl lastStep a = a
  | [], a, _ => rfl
  | x :: l, a, h => by
    unfold anyO at h
    rw [List.any_cons, Bool.or_eq_false_iff] at h
    rw [List.foldl_cons]
    have : lastStep a x = a := by unfold lastStep; rw [if_neg (fun k => by rw [h.1] at k; cases k.1)]
    rw [this]
    exact lastR_no l a h.2
theorem lastR_some : ∀ (l : List Prt) (a : Int), (∀ x ∈ l, 0 ≤ x.at_) → -1 ≤ a → anyO l = true → 0 ≤ l.foldl lastStep a
  | [], a, _, _, h => by cases h
  | x :: l, a, hp, ha, h => by
    rw [List.foldl_cons]
    unfold anyO at h
    rw [List.any_cons, Bool.or_eq_true] at h
    have h0 := hp x (by simp)
    have hs := lastStep_ge a x
    by_cases c : outB x = true
    · have : 0 ≤ lastStep a x := by
        unfold lastStep
        by_cases d : a < x.at_
        · rw [if_pos ⟨c, d⟩]; exact h0
        · rw [if_neg (fun k => d k.2)]; omega
      exact Int.le_trans this (lastR_ge l _)
    · exact lastR_some l _ (fun y hy => hp y (by simp [hy])) (by omega) (h.resolve_left c)
theorem may_parts {l : List Prt} (h : smayB l = true) : ∀ x ∈ l, POk x := by
  intro x hx
  obtain ⟨i, hi, rfl⟩ := List.getElem_of_mem hx
  have := (((smay_iff l).1 h).2 i hi).1
  rwa [ge_eq hi] at this
theorem last_sign {l : List Prt} (h : smayB l = true) : decide (lastR l < 0) = !(anyO l) := by
  have hp := may_parts h
  cases hc : anyO l with
  | false => rw [show lastR l = -1 from lastR_no l (-1) hc]; decide
  | true =>
    have := lastR_some l (-1) (fun x hx => ((t60_iff _).1 (hp x hx).at_).1) (by omega) hc
    show decide (l.foldl lastStep (-1) < 0) = _
    exact decide_eq_false (by omega)
theorem last_bd {l : List Prt} (h : smayB l = true) : -1 ≤ lastR l ∧ lastR l ≤ 1152921504606846976 :=
  lastR_bd (fun x hx => (t60_iff _).1 (may_parts h x hx).at_)
theorem set_none {r : Rt} {l : List Prt} {pb : Bool} {now most : Int} (h : smayB l = true) (hn : anyO l = false) : setT r l pb now most = ztm := by
  have := last_sign h
  rw [hn] at this
  unfold setT
  rw [if_pos (by simpa using this)]
theorem set_some {r : Rt} {l : List Prt} {pb : Bool} {now most : Int} (h : smayB l = true) (hn : anyO l = true) :
    setT r l pb now most = if (pb || !r.has) = true then ⟨2, endAt l now + wt r most⟩ else ⟨1, endAt l now + probeT r most⟩ := by
  have := last_sign h
  rw [hn] at this
  unfold setT
  rw [if_neg (by simpa using this)]
theorem end_bd {l : List Prt} {now : Int} (h : smayB l = true) (hn : anyO l = true) (h0 : 0 ≤ now) : 0 ≤ endAt l now ∧ endAt l now ≤ now := by
  have hs := last_sign h
  rw [hn] at hs
  have : ¬ lastR l < 0 := by simpa using hs
  unfold endAt
  split <;> omega
theorem probe_bd {r : Rt} {most : Int} (h : RtOk r) (hm : mostOk most) : 0 ≤ probeT r most ∧ probeT r most ≤ wt r most := by
  have := wt_bd h hm
  have := h.s0
  unfold probeT soonT
  split <;> split <;> omega
/-- what a timer that is set is: the two of a subflow that waits -/
structure TwoT (a b : Tmr) (has pb : Bool) (now most : Int) : Prop where
  may : tmB a = true
  le : a.at_ ≤ b.at_
  far : b.at_ ≤ now + most
  kd : a.kd = if (pb || !has) = true then 2 else 1
  kb : b.kd = 2
theorem set_two {r : Rt} {l : List Prt} {pb : Bool} {now most : Int} (h : SetOk r l now most) (hn : anyO l = true) : TwoT (setT r l pb now most) (setT r l true now most) r.has pb now most := by
  obtain ⟨h1, h2, h3, h4, h5, h6⟩ := h
  have hr := (rtB_iff r).1 h1
  have hw := wt_bd hr ⟨h5, h6⟩
  have hp := probe_bd hr ⟨h5, h6⟩
  have he := end_bd h2 hn h3
  have e2 : setT r l true now most = ⟨2, endAt l now + wt r most⟩ := by rw [set_some h2 hn]; rfl
  rw [e2, set_some h2 hn]
  by_cases c : (pb || !r.has) = true
  · rw [if_pos c]
    exact ⟨(tmB_iff _).2 ⟨by dsimp only; omega, by dsimp only; omega, by dsimp only; omega, by dsimp only; omega, .inl (by dsimp only; omega)⟩, Int.le_refl _, by dsimp only; omega, (if_pos c).symm, rfl⟩
  · rw [if_neg c]
    exact ⟨(tmB_iff _).2 ⟨by dsimp only; omega, by dsimp only; omega, by dsimp only; omega, by dsimp only; omega, .inl (by dsimp only; omega)⟩, by dsimp only; omega, by dsimp only; omega, (if_neg c).symm, rfl⟩
/-! Later: only the parts that wait, put one behind the other -/
def putQ (q : List Prt × Int) (x : Prt) : List Prt × Int := if outB x = true then (q.1 ++ [{ x with seq := q.2 }], q.2 + x.len) else q
def waitsR (l : List Prt) : List Prt × Int := l.foldl putQ ([], 0)
theorem waits_take {l : List Prt} {k : Nat} (h : k < l.length) : waitsR (l.take (k + 1)) = putQ (waitsR (l.take k)) (ge l k) := by
  unfold waitsR; rw [take_ge h, List.foldl_append]; rfl
/-- how it stands behind k parts -/
structure WtOk (l : List Prt) (q : List Prt × Int) : Prop where
  len : q.1.length ≤ l.length
  chain : ChainTo q.1 q.1.length
  end_ : 0 < q.1.length → endP (ge q.1 (q.1.length - 1)) = q.2
  s0 : 0 ≤ q.2
  s1 : q.2 ≤ 1460 * l.length
  ok : AllOk q.1
  last : lastR q.1 = lastR l
theorem waits_ok : ∀ (k : Nat) (l : List Prt), l.length = k → (∀ x ∈ l, POk x) → l.length ≤ 1000 → AllOk l → WtOk l (waitsR l) := by
  intro k
  induction k with
  | zero =>
    intro l h _ _ _
    have : l = [] := List.length_eq_zero_iff.1 h
    subst this
    exact ⟨Nat.le_refl _, fun i hi => absurd hi (Nat.not_lt_zero _), fun h => absurd h (Nat.lt_irrefl _), Int.le_refl _, by simp [waitsR], AllOk.nil, rfl⟩
  | succ k ih =>
    intro l h hp hm ha
    obtain ⟨t, x, rfl⟩ : ∃ t x, l = t ++ [x] := by
      refine ⟨l.dropLast, l.getLast (by intro e; rw [e] at h; simp at h), (List.dropLast_concat_getLast _).symm⟩
    rw [List.length_append, List.length_singleton] at h hm
    have hx := hp x (by simp)
    have hox : PrtW x := ha x (by simp)
    have it := ih t (by omega) (fun y hy => hp y (by simp [hy])) (by omega) (fun y hy => ha y (by simp [hy]))
    have hw : waitsR (t ++ [x]) = putQ (waitsR t) x := by unfold waitsR; rw [List.foldl_append]; rfl
    have hl : lastR (t ++ [x]) = lastStep (lastR t) x := by unfold lastR; rw [List.foldl_append]; rfl
    rw [hw]
    generalize waitsR t = Q at it ⊢
    obtain ⟨q, s⟩ := Q
    obtain ⟨i1, i2, i3, i4, i5, i6, i7⟩ := it
    dsimp only at i1 i2 i3 i4 i5 i6 i7
    unfold putQ
    by_cases c : outB x = true
    · rw [if_pos c]
      have l1 := hx.l1; have l2 := hx.l2
      have hlen : ((t ++ [x]).length : Int) = t.length + 1 := by rw [List.length_append]; simp
      refine ⟨by simp; omega, ?_, ?_, by dsimp only; omega, by dsimp only; omega, ?_, ?_⟩
      · dsimp only
        intro i hi
        rw [List.length_append, List.length_singleton] at hi
        by_cases e : i = q.length
        · subst e
          refine ⟨?_, ?_⟩
          · rw [ge_snoc]
            exact ⟨(t60_iff _).2 ⟨i4, by dsimp only; omega⟩, hx.dsn, hx.at_, hx.total, hx.last, hx.not, hx.l1, hx.l2, hx.t1, hx.t2⟩
          · intro h0
            rw [ge_snoc, ge_app (by omega)]
            exact (i3 h0).symm
        · have hlt : i < q.length := by omega
          have := i2 i hlt
          refine ⟨by rw [ge_app hlt]; exact this.1, fun h0 => ?_⟩
          rw [ge_app hlt, ge_app (by omega)]
          exact this.2 h0
      · dsimp only
        intro _
        rw [List.length_append, List.length_singleton, Nat.add_sub_cancel, ge_snoc]
        rfl
      · exact i6.app (AllOk.one ⟨by unfold i64; dsimp only; omega, hox.len, hox.dsn, hox.at_, hox.tries, hox.total, hox.last⟩)
      · show lastR (q ++ [{ x with seq := s }]) = _
        rw [hl]
        have : lastR (q ++ [{ x with seq := s }]) = lastStep (lastR q) { x with seq := s } := by unfold lastR; rw [List.foldl_append]; rfl
        rw [this, i7]
        rfl
    · rw [if_neg c]
      have hlen : ((t ++ [x]).length : Int) = t.length + 1 := by rw [List.length_append]; simp
      refine ⟨by simp; omega, i2, i3, i4, by dsimp only; omega, i6, ?_⟩
      dsimp only
      rw [hl, i7]
      unfold lastStep
      rw [if_neg (fun k => c k.1)]
theorem waits_set {r : Rt} {l : List Prt} {pb : Bool} {now most : Int} (h : SetOk r l now most) (hl : l.length ≤ 500) (ha : AllOk l) :
    setR r (waitsR l).1 pb now most = setR r l pb now most := by
  have hw := waits_ok l.length l rfl (may_parts h.2.1) (by omega) ha
  have hm : smayB (waitsR l).1 = true := (smay_iff _).2 ⟨by have := hw.len; omega, hw.chain⟩
  obtain ⟨h1, h2, h3, h4, h5, h6⟩ := h
  rw [set_ok ⟨h1, hm, h3, h4, h5, h6⟩, set_ok ⟨h1, h2, h3, h4, h5, h6⟩]
  unfold setT endAt
  rw [hw.last]
/-- waited twice as long it is no less -/
def upR (r : Rt) : Rt := ⟨r.has, r.srtt, r.vr, r.rto, upS r.shift⟩
theorem later_set {r : Rt} {l : List Prt} {now most : Int} (h : SetOk r l now most) :
    ∃ b, setR (upR r) l true now most = (b, 0) ∧ (setT r l true now most).at_ ≤ b.at_ ∧ b.kd = (setT r l true now most).kd := by
  have hr := (rtB_iff r).1 h.1
  have hd := dbl_valid hr
  have hw := (wt_dbl hr ⟨h.2.2.2.2.1, h.2.2.2.2.2⟩).1
  refine ⟨setT (upR r) l true now most, set_ok ⟨(rtB_iff _).2 hd, h.2⟩, ?_, ?_⟩
  · unfold setT
    by_cases c : lastR l < 0
    · rw [if_pos c, if_pos c]; exact Int.le_refl _
    · rw [if_neg c, if_neg c]
      simp only [Bool.true_or, if_true]
      unfold upR; omega
  · unfold setT
    by_cases c : lastR l < 0
    · rw [if_pos c, if_pos c]
    · rw [if_neg c, if_neg c]
      simp only [Bool.true_or, if_true]
end Go.Proofs.Ytbkmadlekigjfaa
