/- FoSend. -/
import Derived.Test.YtbijhkhkigdddaaGreatM12
set_option linter.all false
set_option maxRecDepth 100000
set_option maxHeartbeats 32000000
namespace Go.Proofs.YtbijhkhkigdddaaGreat
open Go.RowKit
theorem timer_on {r : Rt} {l : List Prt} {pb : Bool} {now most : Int} (h : SetOk r l now most) (ho : anyO l = true) : (setR r l pb now most).1.kd ≠ 0 := by
 rw [set_ok h, (set_two h ho).kd]
 split <;> decide
theorem anyO_mem {l : List Prt} {i : Nat} (hi : i < l.length) (h : toutB (ge l i) = true) : anyO l = true := by
 unfold anyO
 rw [List.any_eq_true]
 exact ⟨_, ge_mem hi, h⟩
structure SendF (f : Fv) (c : Cf) (dsn n now : Int) (g : Fv) (x : Prt) : Prop where
 nm : n ≤ c.mss
 n0 : 1 ≤ n
 fly : flightR g.l = flightR f.l + n
 fits : flightR g.l ≤ f.cw
 f0 : 0 ≤ flightR f.l
 top : f.cw ≤ 1073741824
 seq : x.seq = f.next
 next : g.next = f.next + n
 nb : f.next + n ≤ 1152921504606846976
 n1 : 0 ≤ f.next
 len : x.len = n
 ds : x.dsn = dsn
 at_ : x.at_ = now
 kd : g.tm.kd ≠ 0
 cw : g.cw = f.cw
 th : g.th = f.th
 up : f.up = true
theorem send_facts {f : Fv} {c : Cf} {dsn n now : Int} (h : (sendF f c dsn n now).2.2 = 0) : SendF f c dsn n now (sendF f c dsn n now).1 (sendF f c dsn n now).2.1 := by
 obtain ⟨hs, hu, hl, hfit, e⟩ := send_yes h
 rw [e]
 have hf := (fmay_iff f c).1 hs.1
 have hok := sent_ok hs hl
 have hfl := sent_fly hs hl
 have hw := (xmB_iff _ _ _ _).1 hf.w
 have h0 := (fly_span hf.l).1
 rw [← flight_eq hf.l] at h0
 have hn := (t60_iff _).1 hf.next
 refine ⟨hs.2.2.1, hs.2.1, hfl, by rw [hfl]; exact hfit, h0, by omega, rfl, rfl, hs.2.2.2.2.2, hn.1, rfl, rfl, rfl, ?_, rfl, rfl, hu⟩
 have hso : SetOk f.r (f.l ++ [partF f dsn n now]) now c.longest := by
  have hk := setOk_of hok hs.2.2.2.2.1
  exact ⟨hf.r, hok.l, hk.2.2⟩
 refine timer_on hso (anyO_mem (i := f.l.length) (by simp) ?_)
 rw [ge_snoc]; rfl
structure AgainF (f : Fv) (c : Cf) (now : Int) (g : Fv) (y : Prt) (i : Nat) : Prop where
 lt : i < f.l.length
 seq : y.seq = (ge f.l i).seq
 other : ∀ k, k < f.l.length → k ≠ i → (ge f.l k).seq ≠ y.seq
 lost : (ge f.l i).lost = true
 tries : y.tries = (ge f.l i).tries + 1
 t1 : 1 ≤ (ge f.l i).tries
 t2 : (ge f.l i).tries ≤ 1000
 ylost : y.lost = false
 next : g.next = f.next
 fly : flightR g.l = flightR f.l + y.len
 f0 : 0 ≤ flightR f.l
 top : flightR f.l + y.len ≤ 1073741824
 y0 : 0 ≤ y.len
 kd : g.tm.kd ≠ 0
 cw : g.cw = f.cw
 th : g.th = f.th
theorem again_facts {f : Fv} {c : Cf} {now : Int} (h : (againF f c now).2.2 = 0) : AgainF f c now (againF f c now).1 (againF f c now).2.1 (firstLost f.l) := by
 obtain ⟨hf, hn, hu, hi, hfit, e⟩ := again_yes h
 rw [e]
 have ha := again_ok hf hn hi
 have hw := (xmB_iff _ _ _ _).1 hf.w
 have h0 := (fly_span hf.l).1
 rw [← flight_eq hf.l] at h0
 have hp := (((smay_iff _).1 hf.l).2 _ hi).1
 have hc := ((smay_iff _).1 hf.l).2
 refine ⟨hi, rfl, fun k hk hne he => ?_, ha.lost, rfl, hp.t1, hp.t2, rfl, rfl, ha.fly, h0, ?_, ?_, ?_, rfl, rfl⟩
 ·have he2 : (ge f.l k).seq = (ge f.l (firstLost f.l)).seq := he
  rcases Nat.lt_trichotomy k (firstLost f.l) with g | g | g
  ·have := seq_lt hc g hi; omega
  ·exact hne g
  ·have := seq_lt hc g hk; omega
 ·show flightR f.l + (ge f.l (firstLost f.l)).len ≤ _; omega
 ·show 0 ≤ (ge f.l (firstLost f.l)).len; have := hp.l1; omega
 ·have hso : SetOk f.r (againFv f c now).l now c.longest := ⟨hf.r, ha.ok.l, (setOk_of hf hn).2.2⟩
  have hL : (againR f.l (ge f.l (firstLost f.l)).seq now).1 = (againFv f c now).l := rfl
  show (setR f.r (againR f.l (ge f.l (firstLost f.l)).seq now).1 f.pb now c.longest).1.kd ≠ 0
  rw [hL]
  refine timer_on hso (anyO_mem (i := firstLost f.l) (by rw [ha.l, List.length_set]; exact hi) ?_)
  rw [ha.l, ge_set hi, if_pos rfl]
  show (!(ge f.l (firstLost f.l)).came && !false) = true
  rw [ha.came]; rfl
end Go.Proofs.YtbijhkhkigdddaaGreat
