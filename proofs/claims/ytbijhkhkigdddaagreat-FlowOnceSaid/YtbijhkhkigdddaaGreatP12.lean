/- FoTick FoAw FoErr FoSend StRef6 StL5 FlO. -/
import Derived.Test.YtbijhkhkigdddaaGreatP11
set_option linter.all false
set_option maxRecDepth 100000
set_option maxHeartbeats 32000000
namespace Go.Proofs.YtbijhkhkigdddaaGreat
open Go.RowKit
theorem allLost_seq (x : Prt) : (allLost x).seq = x.seq := by unfold allLost; split <;> rfl
theorem allLost_end (x : Prt) : endP (allLost x) = endP x := by unfold allLost endP; split <;> rfl
theorem allLost_came (x : Prt) : (allLost x).came = x.came := by unfold allLost; split <;> rfl
theorem allLost_ok {x : Prt} (h : POk x) : POk (allLost x) := by
 unfold allLost
 split
 ·next k =>
  unfold toutB at k
  simp only [Bool.and_eq_true, Bool.not_eq_true'] at k
  exact ⟨h.seq, h.dsn, h.at_, h.total, h.last, by show (x.came && true) = false; rw [k.1]; rfl, h.l1, h.l2, h.t1, h.t2⟩
 ·exact h
theorem allLost_fly (x : Prt) : flyL (allLost x) = 0 := by
 unfold flyL allLost toutB
 cases hc : x.came <;> cases hl : x.lost <;> simp [hc, hl]
theorem lastOut_some {l : List Prt} {i : Nat} (h : lastOut l = some i) : i < l.length ∧ toutB (ge l i) = true ∧ ∀ j, i < j → j < l.length → toutB (ge l j) = false := by
 unfold lastOut at h
 have hm := List.mem_of_getLast? h
 rw [List.mem_filter, List.mem_range] at hm
 refine ⟨hm.1, hm.2, fun j hij hj => ?_⟩
 by_cases hc : toutB (ge l j) = true
 case neg => simpa using hc
 exfalso
 have hp : ((List.range l.length).filter fun i => toutB (ge l i)).Pairwise (· < ·) := List.Pairwise.filter _ List.pairwise_lt_range
 obtain ⟨t, ht⟩ : ∃ t, (List.range l.length).filter (fun i => toutB (ge l i)) = t ++ [i] := List.getLast?_eq_some_iff.1 h
 rw [ht, List.pairwise_append] at hp
 have hjm : j ∈ t ++ [i] := by rw [← ht, List.mem_filter, List.mem_range]; exact ⟨hj, hc⟩
 rcases List.mem_append.1 hjm with hjt | hjt
 ·have := hp.2.2 j hjt i (by simp); omega
 ·rw [List.mem_singleton] at hjt; omega
theorem probe_may {l : List Prt} (h : smayB l = true) : smayB (probeL l) = true ∧ (0 < (probeL l).length → (spanR (probeL l)).2 = (spanR l).2) ∧ flySum (probeL l) ≤ flySum l ∧ (probeL l).length = l.length := by
 unfold probeL
 cases hk : lastOut l with
 | none => exact ⟨h, fun _ => rfl, Int.le_refl _, rfl⟩
 | some i =>
  obtain ⟨hi, ho, _⟩ := lastOut_some hk
  have hp := (((smay_iff _).1 h).2 i hi).1
  dsimp only
  refine ⟨set_may h hi (allLost_ok hp) (allLost_seq _) (allLost_end _), fun _ => span_set h hi (allLost_ok hp) (allLost_seq _) (allLost_end _), ?_, by rw [List.length_set]⟩
  rw [flySum_set hi, allLost_fly]
  have := (fly_bd0 hp).1
  omega
theorem dbl_ok {r : Rt} (h : rtB r = true) : rtB (dbl r).1 = true := by
 unfold dbl
 rw [if_pos h]
 exact (rtB_iff _).2 (dbl_valid ((rtB_iff _).1 h))
structure DueOk (f : Fv) (c : Cf) (now : Int) (g : Fv) (due : Int) : Prop where
 ok : FvOk g c
 next : g.next = f.next
 up : g.up = f.up
 fly : flightR g.l ≤ flightR f.l
 cw : g.cw ≤ f.cw
 len : g.l.length = f.l.length
 eq : due = tdueR f.tm now
 k0 : 0 ≤ due
 k2 : due ≤ 2
theorem tdue_bd {t : Tmr} (h : tmB t = true) (now : Int) : 0 ≤ tdueR t now ∧ tdueR t now ≤ 2 := by
 have := (tmB_iff t).1 h
 have := this.k0; have := ((tmB_iff t).1 h).k1
 unfold tdueR; split <;> omega
theorem tick_ok {f : Fv} {c : Cf} {now : Int} (h : FvOk f c) (hn : t60 now = true) : (tickF f c now).2.2 = 0 ∧ DueOk f c now (tickF f c now).1 (tickF f c now).2.1 := by
 have hb := tdue_bd h.t now
 have hw := (xmB_iff _ _ _ _).1 h.w
 unfold tickF
 rw [if_pos ⟨(fmay_iff f c).2 h, hn⟩]
 split
 ·next e => exact ⟨rfl, h, rfl, rfl, Int.le_refl _, Int.le_refl _, rfl, e.symm, Int.le_refl _, by show (0 : Int) ≤ 2; omega⟩
 ·split
  ·next e =>
   obtain ⟨p1, p2, p3, p4⟩ := probe_may h.l
   refine ⟨rfl, setF_ok ⟨h.fine, p1, h.r, h.b, h.m, h.d, h.k, h.w, h.t, h.g, h.next, h.rd, fun h0 => ?_⟩ hn, rfl, rfl, ?_, Int.le_refl _, p4, e.symm, by show (0 : Int) ≤ 1; omega, by show (1 : Int) ≤ 2; omega⟩
   ·show (spanR (probeL f.l)).2 = f.next
    rw [p2 h0]; exact h.link (by rw [← p4]; exact h0)
   ·show flightR (probeL f.l) ≤ flightR f.l
    rw [flight_eq p1, flight_eq h.l]; exact p3
  ·next e1 e2 =>
   obtain ⟨m1, m2⟩ := map_may allLost allLost_seq allLost_end (fun x hx => allLost_ok hx) h.l
   obtain ⟨z, m, hz, h1, h3, h4⟩ := loss_facts (all := true) h.w
   rw [hz]
   refine ⟨rfl, setF_ok ⟨h.fine, m1, dbl_ok h.r, h.b, h.m, h.d, h.k, h4, h.t, h.g, h.next, h.rd, fun h0 => ?_⟩ hn, rfl, rfl, ?_, ?_, List.length_map _, by show (2 : Int) = tdueR f.tm now; omega, by show (0 : Int) ≤ 2; omega, Int.le_refl _⟩
   ·have h0' : 0 < f.l.length := by rw [← List.length_map (f := allLost)]; exact h0
    show (spanR (f.l.map allLost)).2 = f.next
    rw [m2 h0']; exact h.link h0'
   ·show flightR (f.l.map allLost) ≤ flightR f.l
    rw [flight_eq m1, flight_eq h.l]
    exact fly_map allLost (fun x hx => by rw [allLost_fly]; exact (fly_bd0 (mem_in h.l hx).1).1)
   ·show z ≤ f.cw
    rw [h3 rfl]; omega
def startF (f : Fv) : Int := if 0 < f.l.length then (ge f.l 0).seq else f.next
def DoneIn (f : Fv) (came : List Int) : Prop := ∀ s ∈ came, s < startF f ∨ ∃ x ∈ f.l, x.seq = s ∧ x.came = true
theorem start_le {f : Fv} {c : Cf} (h : FvOk f c) : startF f ≤ f.next := by
 unfold startF
 split
 ·next h0 =>
  have := span_in h.l h0
  have hp := pok_end (((smay_iff _).1 h.l).2 0 h0).1
  rw [← h.link h0]; omega
 ·exact Int.le_refl _
theorem start_mem {f : Fv} {c : Cf} (h : FvOk f c) {x : Prt} (hx : x ∈ f.l) : startF f ≤ x.seq := by
 obtain ⟨i, hi, rfl⟩ := mem_ge hx
 have := span_in h.l hi
 unfold startF
 rw [if_pos (by omega)]
 rw [span_eq h.l (by omega)] at this
 exact this.1
theorem told_new {f : Fv} {c : Cf} {came : List Int} {got : Int} {sk : List Sp} (h : FvOk f c) (hd : DoneIn f came) {x : Prt} (hx : x ∈ toldL got sk f.l) : x.seq ∉ came := by
 obtain ⟨hp, hm, hc⟩ := told_ok h.l hx
 intro hs
 rcases hd _ hs with k | ⟨y, hy, e1, e2⟩
 ·have := start_mem h hm; omega
 ·obtain ⟨i, hi, rfl⟩ := mem_ge hy
  obtain ⟨j, hj, rfl⟩ := mem_ge hm
  have hch := ((smay_iff _).1 h.l).2
  have : i = j := by
   rcases Nat.lt_trichotomy i j with g | g | g
   ·have := seq_lt hch g hj; omega
   ·exact g
   ·have := seq_lt hch g hi; omega
  subst this
  rw [hc] at e2; cases e2
theorem told_pw {l : List Prt} {got : Int} {sk : List Sp} (h : smayB l = true) : (toldL got sk l).Pairwise fun x y => x.seq < y.seq := by
 refine List.Pairwise.filter _ ?_
 rw [List.pairwise_iff_getElem]
 intro i j hi hj hij
 have := seq_lt ((smay_iff _).1 h).2 hij hj
 rwa [ge_eq hi, ge_eq hj] at this
theorem told_next {f : Fv} {c : Cf} {got : Int} {sk : List Sp} (h : FvOk f c) {x : Prt} (hx : x ∈ toldL got sk f.l) : x.seq + x.len ≤ f.next := by
 obtain ⟨hp, hm, _⟩ := told_ok h.l hx
 have h0 : 0 < f.l.length := by obtain ⟨i, hi, _⟩ := mem_ge hm; omega
 have := (mem_in h.l hm).2.2
 rw [h.link h0] at this
 exact this
theorem done_same {f g : Fv} {came : List Int} (hd : DoneIn f came) (hs : startF f ≤ startF g) (hl : ∀ x ∈ f.l, x.came = true → startF g ≤ x.seq → ∃ y ∈ g.l, y.seq = x.seq ∧ y.came = true) : DoneIn g came := by
 intro s h
 rcases hd s h with k | ⟨x, hx, e1, e2⟩
 ·exact .inl (by omega)
 ·by_cases k : s < startF g
  ·exact .inl k
  ·obtain ⟨y, hy, y1, y2⟩ := hl x hx e2 (by omega)
   exact .inr ⟨y, hy, by rw [y1, e1], y2⟩
theorem start_eq {f g : Fv} (hn : g.next = f.next) (hl : g.l.length = f.l.length) (hs : ∀ i, i < f.l.length → (ge g.l i).seq = (ge f.l i).seq) : startF g = startF f := by
 unfold startF
 rw [hl, hn]
 split
 ·next h0 => exact hs 0 h0
 ·rfl
theorem done_map {f g : Fv} {came : List Int} (hd : DoneIn f came) (hn : g.next = f.next) (hl : g.l.length = f.l.length) (hs : ∀ i, i < f.l.length → (ge g.l i).seq = (ge f.l i).seq ∧ ((ge f.l i).came = true → (ge g.l i).came = true)) : DoneIn g came := by
 refine done_same hd (Int.le_of_eq (start_eq hn hl (fun i hi => (hs i hi).1)).symm) (fun x hx hc _ => ?_)
 obtain ⟨i, hi, rfl⟩ := mem_ge hx
 exact ⟨ge g.l i, ge_mem (by omega), (hs i hi).1, (hs i hi).2 hc⟩
theorem done_send {f : Fv} {c : Cf} {came : List Int} {dsn n now : Int} (h : FvOk f c) (hd : DoneIn f came) : DoneIn (sentF f c dsn n now) came := by
 refine done_same hd ?_ (fun x hx hc _ => ⟨x, List.mem_append_left _ hx, rfl, hc⟩)
 show startF f ≤ (if 0 < (f.l ++ [partF f dsn n now]).length then (ge (f.l ++ [partF f dsn n now]) 0).seq else _)
 rw [if_pos (by simp)]
 unfold startF
 split
 ·next h0 => rw [ge_app h0]; exact Int.le_refl _
 ·next h0 =>
  have : f.l = [] := List.length_eq_zero_iff.1 (by omega)
  rw [this]
  exact Int.le_refl _
theorem done_again {f : Fv} {c : Cf} {came : List Int} {now : Int} (h : FvOk f c) (hn : t60 now = true) (hi : firstLost f.l < f.l.length) (hd : DoneIn f came) : DoneIn (againFv f c now) came := by
 have ha := again_ok h hn hi
 refine done_map hd rfl (by rw [ha.l, List.length_set]) (fun i hi' => ?_)
 rw [ha.l, ge_set hi]
 split
 ·next e => subst e; exact ⟨rfl, fun k => k⟩
 ·exact ⟨rfl, fun k => k⟩
theorem done_tick {f : Fv} {c : Cf} {came : List Int} {now : Int} (h : FvOk f c) (hn : t60 now = true) (hd : DoneIn f came) : DoneIn (tickF f c now).1 came := by
 unfold tickF
 rw [if_pos ⟨(fmay_iff f c).2 h, hn⟩]
 split
 ·exact hd
 ·split
  ·refine done_map hd rfl (probe_may h.l).2.2.2 (fun i hi => ?_)
   show (ge (probeL f.l) i).seq = _ ∧ (_ → (ge (probeL f.l) i).came = true)
   unfold probeL
   cases hk : lastOut f.l with
   | none => exact ⟨rfl, fun k => k⟩
   | some j =>
    dsimp only
    rw [ge_set (lastOut_some hk).1]
    split
    ·next e => subst e; exact ⟨allLost_seq _, fun k => by rw [allLost_came]; exact k⟩
    ·exact ⟨rfl, fun k => k⟩
  ·refine done_map hd rfl (List.length_map _) (fun i hi => ?_)
   show (ge (f.l.map allLost) i).seq = _ ∧ (_ → (ge (f.l.map allLost) i).came = true)
   rw [ge_map _ hi]
   exact ⟨allLost_seq _, fun k => by rw [allLost_came]; exact k⟩
theorem left_start {f : Fv} {c : Cf} (h : FvOk f c) (got : Int) (sk : List Sp) {g : Fv} (hn : g.next = f.next) (hl : g.l = leftL got sk f.l) : startF f ≤ startF g ∧ (∀ x ∈ f.l, startF g ≤ x.seq → comeP sk x ∈ g.l) := by
 have hc := ((smay_iff _).1 h.l).2
 obtain ⟨j, hj, e⟩ := stay_drop got f.l (chain_pw hc)
 have hL : g.l = (f.l.drop j).map (comeP sk) := by rw [hl]; unfold leftL; rw [e]
 have hlen : g.l.length = f.l.length - j := by rw [hL, List.length_map, List.length_drop]
 by_cases h0 : j < f.l.length
 ·have hs : startF g = (ge f.l j).seq := by
   unfold startF
   rw [if_pos (by omega), hL, ge_map _ (by rw [List.length_drop]; omega), ge_drop, (comeP_seq _ _).1]
   rfl
  refine ⟨by rw [hs]; exact start_mem h (ge_mem h0), fun x hx hsx => ?_⟩
  obtain ⟨i, hi, rfl⟩ := mem_ge hx
  rw [hs] at hsx
  have hij : j ≤ i := Nat.not_lt.1 (fun k => by have := seq_lt hc k h0; omega)
  rw [hL]
  refine List.mem_map.2 ⟨ge f.l i, ?_, rfl⟩
  have : ge f.l i = ge (f.l.drop j) (i - j) := by rw [ge_drop]; congr 1; omega
  rw [this]
  exact ge_mem (by rw [List.length_drop]; omega)
 ·have hs : startF g = f.next := by unfold startF; rw [if_neg (by omega), hn]
  refine ⟨by rw [hs]; exact start_le h, fun x hx hsx => ?_⟩
  exfalso
  rw [hs] at hsx
  obtain ⟨i, hi, rfl⟩ := mem_ge hx
  have h1 := span_in h.l hi
  have hp := pok_end (hc i hi).1
  rw [h.link (by omega)] at h1
  omega
theorem done_heard {f : Fv} {c : Cf} {t : Tv} {g : Fv} {told : List Prt} {came : List Int} (h : FvOk f c) (hh : HearOk f c t g told) (hd : DoneIn f came) : DoneIn g (came ++ told.map Prt.seq) := by
 -- first behind what remains alone
 obtain ⟨m, hm⟩ : ∃ m : Fv, m.next = f.next ∧ m.l = leftL t.got t.sk f.l := ⟨{ f with l := leftL t.got t.sk f.l }, rfl, rfl⟩
 obtain ⟨s1, s2⟩ := left_start h t.got t.sk hm.1 hm.2
 have hmid : DoneIn m (came ++ told.map Prt.seq) := by
  intro s hs
  rcases List.mem_append.1 hs with hs | hs
  ·refine done_same hd s1 (fun x hx hc hsx => ⟨comeP t.sk x, s2 x hx hsx, (comeP_seq _ _).1, ?_⟩) s hs
   unfold comeP; split
   ·rfl
   ·exact hc
  ·obtain ⟨x, hx, rfl⟩ := List.mem_map.1 hs
   rw [hh.told] at hx
   have h2 := List.mem_filter.1 (show x ∈ f.l.filter (toldC t.got t.sk) from hx)
   by_cases k : x.seq < startF m
   ·exact .inl k
   ·right
    have hin := s2 x h2.1 (by omega)
    refine ⟨comeP t.sk x, hin, (comeP_seq _ _).1, ?_⟩
    have h3 := h2.2
    unfold toldC at h3
    rw [Bool.and_eq_true, Bool.or_eq_true, decide_eq_true_eq] at h3
    rcases h3.1 with h4 | h4
    ·unfold comeP; rw [if_pos h4]; rfl
    ·exfalso
     rw [hm.2] at hin
     unfold leftL at hin
     obtain ⟨y, hy, e⟩ := List.mem_map.1 hin
     have hy2 := (List.mem_filter.1 hy).2
     simp only [Bool.not_eq_true', decide_eq_false_iff_not] at hy2
     have e1 := congrArg endP e
     rw [comeP_end, comeP_end] at e1
     omega
 -- then what is lost changes neither
 rcases hh.l with e | ⟨k, sl, e⟩
 ·refine done_map hmid (by rw [hh.next, hm.1]) (by rw [e, hm.2]) (fun i hi => ?_)
  rw [e, hm.2]; exact ⟨rfl, fun k => k⟩
 ·refine done_map hmid (by rw [hh.next, hm.1]) (by rw [e, hm.2, lostL_len]) (fun i hi => ?_)
  rw [hm.2] at hi ⊢
  rw [e, lostL_ge _ _ _ _ hi]
  refine ⟨lostP_seq, fun q => ?_⟩
  unfold lostP; split
  ·exact q
  ·exact q
theorem done_new (c : Cf) : DoneIn (newFv c) [] := fun s hs => by cases hs
def someC : Cf := ⟨100, 100000, 1000, 1000000, 1000000, false, 8, 1000, 1000⟩
def exF : Nat → Fv
 | 0 => (newF someC).1
 | k + 1 => (sendF (exF k) someC (100 * (k : Int)) 100 0).1
def exP (k : Nat) : Prt := (sendF (exF k) someC (100 * (k : Int)) 100 0).2.1
def exT : Tv := ⟨300, [], 0, 0, 5000, 0⟩
def exG : Fv := (heardF (exF 10) someC exT).1
theorem ex_new : (newF someC).2 = 0 := by decide +kernel
theorem ex_send : ∀ k, k < 10 → (sendF (exF k) someC (100 * (k : Int)) 100 0).2.2 = 0 ∧ (exP k).seq = 100 * (k : Int) := by decide +kernel
theorem ex_full : (sendF (exF 10) someC 1000 100 0).2.2 = 4 := by decide +kernel
theorem ex_heard : (heardF (exF 10) someC exT).2.2 = 0 ∧ (heardF (exF 10) someC exT).2.1.length = 3 := by decide +kernel
theorem ex_end : flightR exG.l = 700 ∧ exG.r.srtt = 5000 ∧ fmayB exG someC = true := by decide +kernel
theorem ex_new2 : newF someC = (exF 0, 0) := Prod.ext rfl ex_new
theorem ex_send2 {k : Nat} (h : k < 10) : sendF (exF k) someC (100 * (k : Int)) 100 0 = (exF (k + 1), exP k, 0) := Prod.ext rfl (Prod.ext rfl (ex_send k h).1)
theorem send_err {f : Fv} {c : Cf} {a b d e : Int} (h : (sendF f c a b d).2.2 = e) (he : e ≠ 0) : sendF f c a b d = (zfv, zprt, e) := by
 subst h
 unfold sendF at he ⊢
 split
 ·split
  ·split
   ·rfl
   ·next h1 h2 h3 => exfalso; apply he; rw [if_pos h1, if_pos h2, if_neg h3]
  ·rfl
 ·rfl
theorem heard_err {f : Fv} {c : Cf} {t : Tv} {e : Int} (h : (heardF f c t).2.2 = e) (he : e ≠ 0) : heardF f c t = (zfv, [], e) := by
 subst h
 unfold heardF at he ⊢
 split
 ·split
  ·split
   ·split
    ·split
     ·next h1 h2 h3 h4 h5 => exfalso; apply he; rw [if_pos h1, if_pos h2, if_pos h3, if_pos h4, if_pos h5]
     ·rfl
    ·rfl
   ·rfl
  ·rfl
 ·rfl
theorem new_err {c : Cf} (h : fineB c = false) : newF c = (zfv, 1) := if_neg (by rw [h]; simp)
theorem new_yes {c : Cf} (h : fineB c = true) : newF c = (newFv c, 0) := if_pos h
theorem send_yes {f : Fv} {c : Cf} {dsn n now : Int} (h : (sendF f c dsn n now).2.2 = 0) : SendOk f c dsn n now ∧ f.up = true ∧ ¬ 500 ≤ f.l.length ∧ flightR f.l + n ≤ f.cw ∧ sendF f c dsn n now = (sentF f c dsn n now, partF f dsn n now, 0) := by
 unfold sendF at h ⊢
 by_cases h1 : SendOk f c dsn n now
 ·rw [if_pos h1] at h ⊢
  by_cases h2 : f.up = true
  ·rw [if_pos h2] at h ⊢
   by_cases h3 : f.cw < flightR f.l + n ∨ 500 ≤ f.l.length
   ·rw [if_pos h3] at h; cases h
   ·rw [if_neg h3]
    exact ⟨h1, h2, fun k => h3 (.inr k), by omega, rfl⟩
  ·rw [if_neg h2] at h; cases h
 ·rw [if_neg h1] at h; cases h
theorem again_yes {f : Fv} {c : Cf} {now : Int} (h : (againF f c now).2.2 = 0) : FvOk f c ∧ t60 now = true ∧ f.up = true ∧ firstLost f.l < f.l.length ∧ flightR f.l + (ge f.l (firstLost f.l)).len ≤ f.cw ∧ againF f c now = (againFv f c now, againP (ge f.l (firstLost f.l)) now, 0) := by
 unfold againF at h ⊢
 by_cases h1 : fmayB f c = true ∧ t60 now = true
 ·rw [if_pos h1] at h ⊢
  by_cases h2 : f.up = true ∧ firstLost f.l < f.l.length
  ·rw [if_pos h2] at h ⊢
   by_cases h3 : f.cw < flightR f.l + (ge f.l (firstLost f.l)).len
   ·rw [if_pos h3] at h; cases h
   ·rw [if_neg h3]
    have hf := (fmay_iff f c).1 h1.1
    have ha := again_ok hf h1.2 h2.2
    refine ⟨hf, h1.2, h2.1, h2.2, by omega, ?_⟩
    rw [ha.l, ge_set h2.2, if_pos rfl]
  ·rw [if_neg h2] at h; cases h
 ·rw [if_neg h1] at h; cases h
theorem heard_yes {f : Fv} {c : Cf} {t : Tv} (h : (heardF f c t).2.2 = 0) : HrOk f c t ∧ (heardR f.l t.got t.sk).2.2 = 0 ∧ HearOk f c t (heardF f c t).1 (heardF f c t).2.1 := by
 unfold heardF at h ⊢
 by_cases h1 : HrOk f c t
 ·rw [if_pos h1] at h ⊢
  by_cases h2 : f.up = true
  ·rw [if_pos h2] at h ⊢
   by_cases h3 : (heardR f.l t.got t.sk).2.2 = 0
   ·rw [if_pos h3] at h ⊢
    by_cases h4 : (markH (step2 f c t) t (toldL t.got t.sk f.l)).2.2 = 0
    ·rw [if_pos h4] at h ⊢
     by_cases h5 : (rateH (step2 f c t) t (toldL t.got t.sk f.l)).2 = 0
     ·rw [if_pos h5]
      exact ⟨h1, h3, heard_valid h1 h2 h3 h4 h5⟩
     ·rw [if_neg h5] at h; exact absurd h h5
    ·rw [if_neg h4] at h; exact absurd h h4
   ·rw [if_neg h3] at h; exact absurd h h3
  ·rw [if_neg h2] at h; cases h
 ·rw [if_neg h1] at h; cases h
theorem tick_yes {f : Fv} {c : Cf} {now : Int} (h : (tickF f c now).2.2 = 0) : FvOk f c ∧ t60 now = true ∧ DueOk f c now (tickF f c now).1 (tickF f c now).2.1 := by
 by_cases h1 : fmayB f c = true ∧ t60 now = true
 ·exact ⟨(fmay_iff f c).1 h1.1, h1.2, (tick_ok ((fmay_iff f c).1 h1.1) h1.2).2⟩
 ·unfold tickF at h; rw [if_neg h1] at h; cases h
theorem ex_full2 : sendF (exF 10) someC 1000 100 0 = (zfv, zprt, 4) := send_err ex_full (by decide)
def exTold : List Prt := (heardF (exF 10) someC exT).2.1
theorem ex_heard2 : heardF (exF 10) someC exT = (exG, exTold, 0) := Prod.ext rfl (Prod.ext rfl ex_heard.1)
theorem timer_on {r : Rt} {l : List Prt} {pb : Bool} {now most : Int} (h : SetOk r l now most) (ho : anyO l = true) : (setR r l pb now most).1.kd ≠ 0 := by
 rw [set_ok h, (set_two h ho).kd]
 split <;> decide
theorem anyO_mem {l : List Prt} {i : Nat} (hi : i < l.length) (h : toutB (ge l i) = true) : anyO l = true := by
 unfold anyO
 rw [List.any_eq_true]
 exact ⟨_, ge_mem hi, h⟩
structure SendF (f : Fv) (c : Cf) (dsn n now : Int) (g : Fv) (x : Prt) : Prop where
 nm : n ≤ c.mss
 n0 : 1 ≤ n
 fly : flightR g.l = flightR f.l + n
 fits : flightR g.l ≤ f.cw
 f0 : 0 ≤ flightR f.l
 top : f.cw ≤ 1073741824
 seq : x.seq = f.next
 next : g.next = f.next + n
 nb : f.next + n ≤ 1152921504606846976
 n1 : 0 ≤ f.next
 len : x.len = n
 ds : x.dsn = dsn
 at_ : x.at_ = now
 kd : g.tm.kd ≠ 0
 cw : g.cw = f.cw
 th : g.th = f.th
 up : f.up = true
theorem send_facts {f : Fv} {c : Cf} {dsn n now : Int} (h : (sendF f c dsn n now).2.2 = 0) : SendF f c dsn n now (sendF f c dsn n now).1 (sendF f c dsn n now).2.1 := by
 obtain ⟨hs, hu, hl, hfit, e⟩ := send_yes h
 rw [e]
 have hf := (fmay_iff f c).1 hs.1
 have hok := sent_ok hs hl
 have hfl := sent_fly hs hl
 have hw := (xmB_iff _ _ _ _).1 hf.w
 have h0 := (fly_span hf.l).1
 rw [← flight_eq hf.l] at h0
 have hn := (t60_iff _).1 hf.next
 refine ⟨hs.2.2.1, hs.2.1, hfl, by rw [hfl]; exact hfit, h0, by omega, rfl, rfl, hs.2.2.2.2.2, hn.1, rfl, rfl, rfl, ?_, rfl, rfl, hu⟩
 have hso : SetOk f.r (f.l ++ [partF f dsn n now]) now c.longest := by
  have hk := setOk_of hok hs.2.2.2.2.1
  exact ⟨hf.r, hok.l, hk.2.2⟩
 refine timer_on hso (anyO_mem (i := f.l.length) (by simp) ?_)
 rw [ge_snoc]; rfl
structure AgainF (f : Fv) (c : Cf) (now : Int) (g : Fv) (y : Prt) (i : Nat) : Prop where
 lt : i < f.l.length
 seq : y.seq = (ge f.l i).seq
 other : ∀ k, k < f.l.length → k ≠ i → (ge f.l k).seq ≠ y.seq
 lost : (ge f.l i).lost = true
 tries : y.tries = (ge f.l i).tries + 1
 t1 : 1 ≤ (ge f.l i).tries
 t2 : (ge f.l i).tries ≤ 1000
 ylost : y.lost = false
 next : g.next = f.next
 fly : flightR g.l = flightR f.l + y.len
 f0 : 0 ≤ flightR f.l
 top : flightR f.l + y.len ≤ 1073741824
 y0 : 0 ≤ y.len
 kd : g.tm.kd ≠ 0
 cw : g.cw = f.cw
 th : g.th = f.th
theorem again_facts {f : Fv} {c : Cf} {now : Int} (h : (againF f c now).2.2 = 0) : AgainF f c now (againF f c now).1 (againF f c now).2.1 (firstLost f.l) := by
 obtain ⟨hf, hn, hu, hi, hfit, e⟩ := again_yes h
 rw [e]
 have ha := again_ok hf hn hi
 have hw := (xmB_iff _ _ _ _).1 hf.w
 have h0 := (fly_span hf.l).1
 rw [← flight_eq hf.l] at h0
 have hp := (((smay_iff _).1 hf.l).2 _ hi).1
 have hc := ((smay_iff _).1 hf.l).2
 refine ⟨hi, rfl, fun k hk hne he => ?_, ha.lost, rfl, hp.t1, hp.t2, rfl, rfl, ha.fly, h0, ?_, ?_, ?_, rfl, rfl⟩
 ·have he2 : (ge f.l k).seq = (ge f.l (firstLost f.l)).seq := he
  rcases Nat.lt_trichotomy k (firstLost f.l) with g | g | g
  ·have := seq_lt hc g hi; omega
  ·exact hne g
  ·have := seq_lt hc g hk; omega
 ·show flightR f.l + (ge f.l (firstLost f.l)).len ≤ _; omega
 ·show 0 ≤ (ge f.l (firstLost f.l)).len; have := hp.l1; omega
 ·have hso : SetOk f.r (againFv f c now).l now c.longest := ⟨hf.r, ha.ok.l, (setOk_of hf hn).2.2⟩
  have hL : (againR f.l (ge f.l (firstLost f.l)).seq now).1 = (againFv f c now).l := rfl
  show (setR f.r (againR f.l (ge f.l (firstLost f.l)).seq now).1 f.pb now c.longest).1.kd ≠ 0
  rw [hL]
  refine timer_on hso (anyO_mem (i := firstLost f.l) (by rw [ha.l, List.length_set]; exact hi) ?_)
  rw [ha.l, ge_set hi, if_pos rfl]
  show (!(ge f.l (firstLost f.l)).came && !false) = true
  rw [ha.came]; rfl
theorem again_no {l : List Prt} {seq a : Int} (h : ¬ (smayB l = true ∧ t60 a = true)) : againR l seq a = ([], 1) := if_neg h
theorem again_none {l : List Prt} {seq a : Int} (h : smayB l = true ∧ t60 a = true) (k : ¬ findSeq l seq < l.length) : againR l seq a = ([], 3) := by unfold againR; rw [if_pos h, if_neg k]
theorem again_bad {l : List Prt} {seq a : Int} {k : Nat} (h : smayB l = true ∧ t60 a = true) (hf : findSeq l seq = k) (hk : k < l.length) (hb : (ge l k).came = true ∨ 1000 ≤ (ge l k).tries) : againR l seq a = ([], 3) := by unfold againR; rw [if_pos h, hf, if_pos hk, if_pos hb]
theorem stagain_ok {l : List Prt} {seq a : Int} {k : Nat} (h : smayB l = true ∧ t60 a = true) (hf : findSeq l seq = k) (hk : k < l.length) (hb : ¬ ((ge l k).came = true ∨ 1000 ≤ (ge l k).tries)) : againR l seq a = (l.set k (againP (ge l k) a), 0) := by unfold againR; rw [if_pos h, hf, if_pos hk, if_neg hb]
def idxR {α : Type} (p : α → Bool) (l : List α) : Int := if l.findIdx p < l.length then (l.findIdx p : Int) else -1
theorem idxR_at {α : Type} [El α] {p : α → Bool} {l : List α} {k : Nat} (hk : k < l.length) (h : ∀ i, i < k → p (ge l i) = false) (hp : p (ge l k) = true) : idxR p l = (k : Int) := by
 have hf : l.findIdx p = k := by
  rw [List.findIdx_eq hk]
  refine ⟨by rw [← ge_eq hk]; exact hp, fun j hj => ?_⟩
  rw [← ge_eq (by omega)]
  exact h j hj
 unfold idxR; rw [hf, if_pos hk]
theorem idxR_none {α : Type} [El α] {p : α → Bool} {l : List α} (h : ∀ i, i < l.length → p (ge l i) = false) : idxR p l = -1 := by
 have hf : l.findIdx p = l.length := by
  rw [List.findIdx_eq_length]
  intro x hx
  obtain ⟨i, hi, rfl⟩ := List.getElem_of_mem hx
  rw [← ge_eq hi]
  exact h i hi
 unfold idxR; rw [hf, if_neg (by omega)]
theorem idxP_any (f : Nat) (hent : ∀ args w, (callFunc f args).run Tryz.prog w = .ok (.enter f args) w) (q : Addr) (p : Prt → Bool) (A : Option Addr) (n c : Nat) (l : List Prt) (w : World) (hs : Se w A n c l)
  (hcall : Hid (∀ W, Below w.heap.size w W → ∀ i, i < n → Calls Tryz.prog f #[.agg #[.int .i64 (ge l i).seq, .int .i64 (ge l i).len, .int .i64 (ge l i).dsn, .int .i64 (ge l i).at_, .int .i64 (ge l i).tries, .bool (ge l i).came, .bool (ge l i).lost, .int .i64 (ge l i).total, .int .i64 (ge l i).last], .pointer (some q)] W fun e W' => e = .returned (.bool (p (ge l i))) ∧ Below W.heap.size W W')) :
  Calls Tryz.prog 68 #[.slice A n c, .func (.func f) #[] #[.pointer (some q)]] w fun e w' => e = .returned (.int .i64 (idxR p l)) ∧ Below w.heap.size w w' := by
 have hl := hs.rd.len
 have m1 := hs.le
 have m2 := hs.max
 have m3 : n ≤ 9223372036854775807 := by unfold maxLen at m2; omega
 clear m1 m2
 obtain ⟨x, hx⟩ : ∃ x, idxR p l = x := ⟨_, rfl⟩
 rw [hx]
 have HX := Zh hx
 have HA := Zh hs; have HL := Zh hl
 clear hx hs hl
 go_enter Tryz.func68, Tryz.ntmps68
 go_wp2_with fail
 go_loopw [8] (fun i wr => ∃ k : Nat, k ≤ n ∧ i = .int .i64 (k : Int) ∧ Hid (∀ i, i < k → p (ge l i) = false) ∧ Below w.heap.size w wr) (fun i _ => n - (intOf i).toNat)
 case atStart => exact ⟨0, Nat.zero_le _, rfl, Zh (fun i hi => absurd hi (by omega)), Below.refl _ _⟩
 case round =>
  obtain ⟨k, hk, rfl, HNO, hb⟩ := hrel
  by_cases hlt : k < n
  ·have dlt : decide (k < n) = true := Zt hlt
   have hsr : Se wr A n c l := HA.out.keep hb
   obtain ⟨b, o, rfl, hbl, hc⟩ := hsr.rd.at_ (by omega)
   have X := prt_at hc hlt
   have hkl : k < l.length := by rw [HL.out]; exact hlt
   have hf := hcall.out wr hb k hlt
   have hgo : p (ge l k) = false → ∀ i, i < k + 1 → p (ge l i) = false := fun h i hi => by
    by_cases e : i = k
    ·subst e; exact h
    ·exact HNO.out i (by omega)
   have hstop : p (ge l k) = true → x = (k : Int) := fun h => by rw [← HX.out]; exact idxR_at hkl HNO.out h
   obtain ⟨y, hy⟩ : ∃ y, ge l k = y := ⟨_, rfl⟩
   rw [hy] at X hf hgo hstop
   obtain ⟨x0, x1, x2, x3, x4, x5, x6, x7, x8⟩ := X
   have HGO := Zh hgo; have HSTOP := Zh hstop
   clear hc hy hsr hkl hgo hstop
   cases hz : p y with
   | false =>
    rw [hz] at hf
    have HGO2 := Zh (HGO.out hz)
    clear hz
    go_wp2_with (go_at_fn f; refine hf.mono ?_; rintro e wv ⟨rfl, hbv⟩)
    go_roundw
    case rel => exact ⟨k + 1, by omega, by go_num, HGO2, hb.trans (hbv.mono hb.size)⟩
    case measure => simp [intOf]; omega
   | true =>
    rw [hz] at hf
    have hF := HSTOP.out hz
    subst hF
    clear hz
    go_wp2_with (go_at_fn f; refine hf.mono ?_; rintro e wv ⟨rfl, hbv⟩)
    go_ret
    exact ⟨rfl, hb.trans (hbv.mono hb.size)⟩
  ·obtain rfl : k = n := by omega
   have hF : x = -1 := by rw [← HX.out]; exact idxR_none (by rw [HL.out]; exact HNO.out)
   subst hF
   have dlt : decide (k < k) = false := Zf (by omega)
   go_wp2_with fail
   go_ret
   exact ⟨rfl, hb⟩
theorem ent_again1 : ∀ args w, (callFunc 119 args).run Tryz.prog w = .ok (.enter 119 args) w := enters_of Tryz.func119 (by kernel_rfl) rfl
theorem again1_any (x : Prt) (seq : Int) (Q : Nat) (w : World) (hq : Bx w Q 3 [seq]) :
  Calls Tryz.prog 119 #[.agg #[x.seq, x.len, x.dsn, x.at_, x.tries, x.came, x.lost, x.total, x.last], .pointer (some ⟨Q, 0, none⟩)] w fun e w' => e = .returned (.bool (x.seq == seq)) ∧ Below w.heap.size w w' := by
 obtain ⟨B, hB⟩ : ∃ B, w.heap.size = B := ⟨_, rfl⟩
 have e0 := Bx.new w 57 [x.seq, x.len, x.dsn, x.at_, x.tries, x.came, x.lost, x.total, x.last]
 have y0 := hq.alloc (.cells #[x.seq, x.len, x.dsn, x.at_, x.tries, x.came, x.lost, x.total, x.last] 57)
 rw [hB] at e0 ⊢
 have b0 : Below B w (w.alloc (.cells #[x.seq, x.len, x.dsn, x.at_, x.tries, x.came, x.lost, x.total, x.last] 57)) := by rw [← hB]; exact (Zb).alloc Zr _
 have c0 := e0.cell 0 rfl
 have k0 := y0.cell 0 rfl
 go_enter Tryz.func119, Tryz.ntmps119
 go_wp2
 go_ret
 exact ⟨rfl, b0⟩
theorem find_idx (l : List Prt) (seq : Int) : idxR (fun x => x.seq == seq) l = if findSeq l seq < l.length then (findSeq l seq : Int) else -1 := rfl
theorem stagain_any (A : Option Addr) (n c : Nat) (l : List Prt) (seq a : Int) (w : World) (hs : Se w A n c l) (hn : n ≤ 1000) :
  Calls Tryz.prog 71 #[.slice A n c, seq, a] w fun e w' => TellS w w' e (againR l seq a) := by
 unfold TellS
 obtain ⟨B, hB⟩ : ∃ B, w.heap.size = B := ⟨_, rfl⟩
 rw [hB]
 have hl := hs.rd.len
 have e0 := Bx.new w 3 [seq]
 rw [hB] at e0
 have b0 : Below B w (w.alloc (.cells #[seq] 3)) := by rw [← hB]; exact (Zb).alloc Zr _
 have hs0 := hs.alloc (.cells #[seq] 3)
 obtain ⟨y, hy⟩ : ∃ y, againR l seq a = y := ⟨_, rfl⟩
 rw [hy]
 have HY := Zh hy
 have HL := Zh hl
 clear hy hs hl
 go_enter Tryz.func71, Tryz.ntmps71
 go_upto_region 1 with fail
 change Code.wp _ _ _ _ (w.alloc (.cells #[seq] 3))
 generalize w.alloc (.cells #[seq] 3) = w1 at e0 b0 hs0 ⊢
 have hm := stmay_any A n c l w1 hs0
 cases hk : smayB l with
 | false =>
  have hy := HY.out
  rw [again_no (fun h => by rw [hk] at h; exact absurd h.1 (by simp))] at hy
  subst hy
  rw [hk] at hm
  clear HY hk
  go_wp2_with (go_at_call 97; refine hm.mono ?_; rintro e w2 ⟨rfl, hb2⟩; have b2 := b0.trans (hb2.mono (Zl e0.lt)); have e2 := e0.kept hb2; have hs2 := hs0.keep hb2)
  go_ret2
  exact ⟨none, 0, 0, rfl, Sne.none _ _, b2⟩
 | true =>
 rw [hk] at hm
 cases ht : t60 a with
 | false =>
  have hy := HY.out
  rw [again_no (fun h => by rw [ht] at h; exact absurd h.2 (by simp))] at hy
  subst hy
  clear HY hk
  go_wp2_with (first | (go_at_call 97; refine hm.mono ?_; rintro e w2 ⟨rfl, hb2⟩; have b2 := b0.trans (hb2.mono (Zl e0.lt)); have e2 := e0.kept hb2; have hs2 := hs0.keep hb2) | (go_at_call 118; refine (within60 _ _).mono ?_; rintro e wx ⟨rfl, rfl⟩))
  go_ret2
  exact ⟨none, 0, 0, rfl, Sne.none _ _, b2⟩
 | true =>
 have hok : smayB l = true ∧ t60 a = true := ⟨hk, ht⟩
 have HOK := Zh hok
 obtain ⟨hle, hch⟩ := (smay_iff l).1 hk
 have hn5 : n ≤ 500 := by have := HL.out; omega
 have HCH := Zh hch
 clear hok hk hle hch
 go_upto_region 3 with (first | (go_at_call 97; refine hm.mono ?_; rintro e w2 ⟨rfl, hb2⟩; have b2 := b0.trans (hb2.mono (Zl e0.lt)); have e2 := e0.kept hb2; have hs2 := hs0.keep hb2) | (go_at_call 118; refine (within60 _ _).mono ?_; rintro e wx ⟨rfl, rfl⟩))
 clear hm ht
 have hfi := find_idx l seq
 obtain ⟨k, hfk⟩ : ∃ k, findSeq l seq = k := ⟨_, rfl⟩
 have HF := Zh hfk
 rw [hfk] at hfi
 clear hfk
 by_cases hkl : k < l.length
 case neg =>
  rw [if_neg hkl] at hfi
  have hy := HY.out
  rw [again_none HOK.out (by rw [HF.out]; exact hkl)] at hy
  subst hy
  have hkn : ¬ k < n := by rw [← HL.out]; exact hkl
  clear HY hkl
  go_wp2_with (go_at_call 68; refine (idxP_any 119 ent_again1 _ (fun x => x.seq == seq) A n c l _ hs2 (Zh (fun W hW i hi => again1_any _ seq _ W (e2.kept hW)))).mono ?_; rintro e w3 ⟨rfl, hb3⟩; have b3 := b2.trans (hb3.mono (Zl e2.lt)); have hs3 := hs2.keep hb3; have e3 := e2.kept hb3)
  go_ret2
  exact ⟨none, 0, 0, rfl, Sne.none _ _, b3⟩
 rw [if_pos hkl] at hfi
 have HKL := Zh hkl
 have hlt : k < n := by rw [← HL.out]; exact hkl
 have hk0 : (k : Int) < (n : Int) := by omega
 have hk1 : decide ((k : Int) < 0) = false := Zf (by omega)
 clear hkl
 go_upto_region 4 with (go_at_call 68; refine (idxP_any 119 ent_again1 _ (fun x => x.seq == seq) A n c l _ hs2 (Zh (fun W hW i hi => again1_any _ seq _ W (e2.kept hW)))).mono ?_; rintro e w3 ⟨rfl, hb3⟩; have b3 := b2.trans (hb3.mono (Zl e2.lt)); have hs3 := hs2.keep hb3; have e3 := e2.kept hb3)
 clear hfi
 have hsx := hs3
 have HS3 := Zh hs3
 obtain ⟨b, o, rfl, hbl, hc⟩ := hsx.rd.at_ (by omega)
 have X := prt_at hc hlt
 have hpk := (HCH.out k HKL.out).1
 have hpw := hs3.rd.ok.ge (i := k) HKL.out
 obtain ⟨p, hp⟩ : ∃ p, ge l k = p := ⟨_, rfl⟩
 rw [hp] at X hpk hpw
 have c4 := X.c4; have c5 := X.c5
 have HP := Zh hp; have HPK := Zh hpk; have HPW := Zh hpw
 have ht2 := hpk.t2
 clear hsx hc hp hpk hpw X hs3 hs2 hs0 e2 e0
 cases h5 : p.came with
 | true =>
  rw [h5] at c5
  have hy := HY.out
  rw [again_bad HOK.out HF.out HKL.out (by rw [HP.out]; exact .inl h5)] at hy
  subst hy
  clear HY h5
  go_wp2_with fail
  go_ret2
  exact ⟨none, 0, 0, rfl, Sne.none _ _, b3⟩
 | false =>
 rw [h5] at c5
 by_cases h6 : p.tries = 1000
 ·rw [h6] at c4
  have hy := HY.out
  rw [again_bad HOK.out HF.out HKL.out (by rw [HP.out]; exact .inr (by omega))] at hy
  subst hy
  clear HY h5 h6
  go_wp2_with fail
  go_ret2
  exact ⟨none, 0, 0, rfl, Sne.none _ _, b3⟩
 have d6 : (p.tries == 1000) = false := by simpa using h6
 have hy := HY.out
 rw [stagain_ok HOK.out HF.out HKL.out (by rw [HP.out, h5]; simp; omega), HP.out] at hy
 subst hy
 have t1 := HPK.out.t1
 have hs1 : IntKind.i64.wrap (p.tries + 1) = p.tries + 1 := IntWalk.i64_in _ (by omega)
 obtain ⟨tr, htr⟩ : ∃ t, p.tries = t := ⟨_, rfl⟩
 have h6' : p.tries ≤ 999 := by omega
 have HT6 := Zh h6'; have HH5 := Zh h5
 rw [htr] at c4 d6 hs1
 have HTR := Zh htr
 have hB3 : B ≤ w3.heap.size := Zl e3.lt
 clear HY h5 h6 h6' htr t1 ht2
 go_upto_region 7 with (go_at_call 112; refine (stclone_any (some ⟨b, o, none⟩) n c l _ HS3.out (by omega)).mono ?_; rintro e w4 ⟨R, d, rfl, hg4, hb4⟩)
 have b4 : Below B w w4 := b3.trans (hb4.mono hB3)
 have hg4' := goe_mono hg4 hB3
 obtain ⟨g, cap, hgf, hgB1, hgB2⟩ := hg4'.row.form (by omega)
 cases hgf
 clear c4 c5 hg4 hb4 hb3 hbl
 have i9 : k * 9 + 9 ≤ n * 9 := by omega
 have z3 := hg4'.row.cellAt (k * 9 + 3) (by have e9 : n * El.k Prt = n * 9 := rfl; omega)
 have f3 := hg4'.row.frozenAt (k * 9 + 3)
 have hge : ge l k = p := HP.out
 have ha64 : i64 a := by have := (t60_iff a).1 HOK.out.2; unfold i64; omega
 have ht64 : i64 (p.tries + 1) := by have := HPK.out.t1; have := HT6.out; unfold i64; omega
 have q1 := hg4'.set (i := k) (j := 3) (u := .int .i64 a) (y := { p with at_ := a }) hlt (by decide) (by rw [hge]; rfl) ⟨HPW.out.seq, HPW.out.len, HPW.out.dsn, ha64, HPW.out.tries, HPW.out.total, HPW.out.last⟩
 obtain ⟨q1a, q1b⟩ := q1
 have q2 := q1a.set (i := k) (j := 4) (u := .int .i64 (p.tries + 1)) (y := { p with at_ := a, tries := p.tries + 1 }) hlt (by decide) (by rw [ge_set HKL.out, if_pos rfl]; rfl) ⟨HPW.out.seq, HPW.out.len, HPW.out.dsn, ha64, ht64, HPW.out.total, HPW.out.last⟩
 rw [List.set_set] at q2
 obtain ⟨q2a, q2b⟩ := q2
 have q3 := q2a.set (i := k) (j := 6) (u := .bool false) (y := againP p a) hlt (by decide) (by rw [ge_set HKL.out, if_pos rfl]; rfl) ⟨HPW.out.seq, HPW.out.len, HPW.out.dsn, ha64, ht64, HPW.out.total, HPW.out.last⟩
 rw [List.set_set] at q3
 obtain ⟨q3a, q3b⟩ := q3
 rw [HTR.out] at q2a q2b q3a q3b
 change Goe (w4.setCell ⟨g, k * 9 + 3, none⟩ _) _ _ _ _ _ at q1a
 change Goe ((w4.setCell ⟨g, k * 9 + 3, none⟩ _).setCell ⟨g, k * 9 + 4, none⟩ _) _ _ _ _ _ at q2a
 change Goe (((w4.setCell ⟨g, k * 9 + 3, none⟩ _).setCell ⟨g, k * 9 + 4, none⟩ _).setCell ⟨g, k * 9 + 6, none⟩ _) _ _ _ _ _ at q3a
 have z3' := z3.trans (evals_at l k 3 (.int .i64 p.at_) HKL.out (by rw [hge]; rfl))
 have e9 : n * El.k Prt = n * 9 := rfl
 have z4 := (q1a.row.cellAt (k * 9 + 4) (by omega)).trans (evals_at _ k 4 (.int .i64 p.tries) (by rw [List.length_set]; exact HKL.out) (by rw [ge_set HKL.out, if_pos rfl]; rfl))
 rw [HTR.out] at z4
 have f4 := q1a.row.frozenAt (k * 9 + 4)
 have z6 := (q2a.row.cellAt (k * 9 + 6) (by omega)).trans (evals_at _ k 6 (.bool p.lost) (by rw [List.length_set]; exact HKL.out) (by rw [ge_set HKL.out, if_pos rfl]; rfl))
 have f6 := q2a.row.frozenAt (k * 9 + 6)
 have b5 : Below B w (w4.setCell ⟨g, k * 9 + 3, none⟩ (.int .i64 a)) := b4.setCell (p := ⟨g, k * 9 + 3, none⟩) hgB1 _
 have b6 := b5.setCell (p := ⟨g, k * 9 + 4, none⟩) hgB1 (.int .i64 (tr + 1))
 have b7 := b6.setCell (p := ⟨g, k * 9 + 6, none⟩) hgB1 (.bool false)
 have HQ3 := Zh q3a
 clear q1a q1b q2a q2b q3a q3b z3 e9 hgB1 hgB2 i9
 go_upto_region 8 with fail
 clear z3' f3 hg4'
 generalize w4.setCell ⟨g, k * 9 + 3, none⟩ (.int .i64 a) = w5 at z4 f4 z6 f6 b5 b6 b7 HQ3 ⊢
 go_upto_region 9 with fail
 clear z4 f4
 generalize w5.setCell ⟨g, k * 9 + 4, none⟩ (.int .i64 (tr + 1)) = w6 at z6 f6 b6 b7 HQ3 ⊢
 go_wp2_with fail
 obtain ⟨G, d', hG, hsn⟩ := HQ3.out.sne
 cases hG
 go_ret2
 exact ⟨_, _, _, rfl, hsn, b7⟩
end Go.Proofs.YtbijhkhkigdddaaGreat
namespace Go.Proofs.YtbijhkhkigdddaaGreat
open Go.RowKit Go.Shelf
theorem cell_isc {W : World} {b i : Nat} {u : Value} (h : W.cell? ⟨b, i, none⟩ = some u) : ∃ o, W.heap[b]? = some o ∧ o.isCells = true := by
 unfold World.cell? at h
 cases hb : W.heap[b]? with
 | none => simp [hb] at h
 | some o =>
  refine ⟨o, rfl, ?_⟩
  cases o <;> simp [hb] at h ⊢ <;> first | rfl | (simp [Obj.isCells])
section
variable {n₀ S : Nat} {l : List Nat} {X Y : World} {p : Nat → Prop} {s : Fs} {f : Fv} {c : Cf} {now e : Int} {row : Option Nat}
theorem FlM.isc (h : FlM X p s f) : FlM X (fun b => p b ∧ ∃ o, X.heap[b]? = some o ∧ o.isCells = true) s f := by
 refine ⟨h.l, h.b, h.d, h.g, h.wide, fun h0 b o q e => ⟨h.p1 h0 b o q e, ?_⟩, fun h0 b o q e => ⟨h.p2 h0 b o q e, ?_⟩, fun h0 b o q e => ⟨h.p3 h0 b o q e, ?_⟩, fun h0 b o q e => ⟨h.p4 h0 b o q e, ?_⟩⟩
 ·obtain ⟨b', o', e', _, hc⟩ := h.l.rd.at_ h0; rw [e] at e'; cases e'; exact cell_isc (hc 0 h0 0 _ rfl)
 ·obtain ⟨b', o', e', _, hc⟩ := h.b.rd.at_ h0; rw [e] at e'; cases e'; exact cell_isc (hc 0 h0).1
 ·obtain ⟨b', o', e', _, hc⟩ := h.d.rd.at_ h0; rw [e] at e'; cases e'; exact cell_isc (hc 0 h0)
 ·obtain ⟨b', o', e', _, hc⟩ := h.g.rd.at_ h0; rw [e] at e'; cases e'; exact cell_isc (hc 0 h0)
theorem St.own (h : St n₀ l X S s f c now e) (hg : X.grownBy Y row) (hr : ∀ r, row = some r → ∃ o, X.heap[r]? = some o ∧ o.isCells = false) : St n₀ l Y S s f c now e := by
 have hf := h.fm.isc
 refine ⟨h.bx.grown hg (fun e => by obtain ⟨o, ho, hc⟩ := hr S e.symm; rw [show X.heap[S]? = _ from h.bx] at ho; cases ho; cases hc), ?_, h.s0, h.off, fun b k => Nat.lt_of_lt_of_le (h.old b k) hg.size⟩
 exact (hf.grown hg (fun b hb e => by obtain ⟨o, ho, hc⟩ := hb.2; obtain ⟨o', ho', hc'⟩ := hr b e; rw [ho] at ho'; cases ho'; rw [hc] at hc'; cases hc')).imp (fun b hb => hb.1)
theorem Thaw.own (h : Thaw X s) (hs : St n₀ l X S s f c now e) (hg : X.grownBy Y row) (hr : ∀ r, row = some r → ∃ o, X.heap[r]? = some o ∧ o.isCells = false) : Thaw Y s := fun h0 b o q e i => by
 have hb := (hs.fm.isc.p1 h0 b o q e).2
 obtain ⟨ob, ho, hc⟩ := hb
 have hlt : b < X.heap.size := (Array.getElem?_eq_some_iff.1 ho).1
 rw [froz_block (hg.block b hlt (fun e => by obtain ⟨o', ho', hc'⟩ := hr b e.symm; rw [ho] at ho'; cases ho'; rw [hc] at hc'; cases hc'))]
 exact h h0 b o q e i
end
end Go.Proofs.YtbijhkhkigdddaaGreat
