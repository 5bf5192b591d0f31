/- The reference's Add and Cut: every list, every span. -/
import Derived.Test.YtgiknfmagmfniaaSpMade
import Derived.Test.YtgiknfmagmfniaaSpLawP
namespace Go.Proofs.Ytgiknfmagmfniaa
open Go.RowKit

theorem chain_same {l m : List Sp} (hl : chain (-1) l = true) (hm : chain (-1) m = true) (h : ∀ n, inL l n ↔ inL m n) : l = m := ch_unique hl hm h
theorem addL_same {l r : List Sp} {s : Sp} (hm : mayB l = true) (hv : vld s.1 s.2 = true) (hr : chain (-1) r = true) (h : ∀ n, inL r n ↔ cond false l s n) : r = addL l s := by
  have hva := vld_iff.1 hv
  rw [addL_ins (mayB_parts hm).2]
  refine chain_same hr (ins_ch (mayB_parts hm).2 hv (by omega)) (fun n => ?_)
  rw [h, ins_in (mayB_parts hm).2 hva.2.1]
  unfold cond; simp
theorem cutL_same {l r : List Sp} {s : Sp} (hm : mayB l = true) (hv : vld s.1 s.2 = true) (hr : chain (-1) r = true) (h : ∀ n, inL r n ↔ cond true l s n) : r = cutL l s := by
  have hva := vld_iff.1 hv
  refine chain_same hr (cutL_ch (mayB_parts hm).2 hva.2.1) (fun n => ?_)
  rw [h, cutL_in _ hva.2.1]
  unfold cond; simp

set_option maxRecDepth 100000 in
set_option maxHeartbeats 2000000 in
theorem radd_sq (A : Option Addr) (len cap : Nat) (l : List Sp) (a b : Int) (w : World) (hs : Ss w A len cap l) (ha : W64 a) (hb : W64 b) :
    Calls Try.prog 36 #[.slice A len cap, .agg #[.int .i64 a, .int .i64 b]] w fun e w' => ∃ R n d, e = .returned (.tuple #[.slice R n d, .int .i64 (addR l (a, b)).2]) ∧ Sq w' w.heap.size R n d (addR l (a, b)).1 ∧ Below w.heap.size w w' := by
  have s0 := Boxed2.new w 52 (.int .i64 a) (.int .i64 b)
  have hb0 : Below w.heap.size w (w.alloc (.cells #[.int .i64 a, .int .i64 b] 52)) := (Below.refl _ w).alloc (Nat.le_refl _) _
  have hs0 := hs.alloc (.cells #[.int .i64 a, .int .i64 b] 52)
  have hmay := rmay_any _ _ _ _ _ hs0
  obtain ⟨w0, hw0⟩ : ∃ w0, w.alloc (.cells #[.int .i64 a, .int .i64 b] 52) = w0 := ⟨_, rfl⟩
  rw [hw0] at hmay s0 hb0 hs0
  have hlen := hs.rd.len
  by_cases hm : mayB l = true
  case neg =>
    have hm' : mayB l = false := by simpa using hm
    have e0 : addR l (a, b) = ([], 1) := by unfold addR told; rw [hm']; rfl
    rw [hm'] at hmay
    rw [e0]
    go_enter Try.func36, Try.ntmps36
    go_wp2_with (go_at_call 48; refine hmay.mono ?_; rintro e w1 ⟨rfl, hb1⟩)
    go_ret2
    exact ⟨none, 0, 0, rfl, Sq.none _ _, hb0.trans (hb1.mono hb0.size)⟩
  case pos =>
  rw [hm] at hmay
  by_cases hv : vld a b = true
  case neg =>
    have hv' : vld a b = false := by simpa using hv
    clear hv
    have e0 : addR l (a, b) = ([], 1) := by unfold addR told; rw [hm, hv']; rfl
    have hone := rone_any a b
    rw [hv'] at hone
    rw [e0]
    go_enter Try.func36, Try.ntmps36
    go_wp2_with (first
      | (go_at_call 48; refine hmay.mono ?_; rintro e w1 ⟨rfl, hb1⟩; have a4 := s0.below hb1 s0.lt; have hc4 := a4.fst; have hc5 := a4.snd; have b1 := hb0.trans (hb1.mono hb0.size))
      | (go_at_call 55; refine (hone _).mono ?_; rintro e w2 ⟨rfl, hb2⟩; have b2 := b1.trans (hb2.mono b1.size)))
    go_ret2
    exact ⟨none, 0, 0, rfl, Sq.none _ _, b2⟩
  case pos =>
  have e0 : addR l (a, b) = told true (addL l (a, b)) := by unfold addR; rw [hm, hv]; rfl
  have hone := rone_any a b
  rw [hv] at hone
  have HM := Lib.hid hm
  have HV := Lib.hid hv
  have HSm := Lib.hid (fun r (hr : chain (-1) r = true) h => addL_same (s := (a, b)) hm hv hr h)
  rw [e0]
  clear e0 hm hv
  go_enter Try.func36, Try.ntmps36
  go_wp2_with (first
    | (go_at_call 48; refine hmay.mono ?_; rintro e w1 ⟨rfl, hb1⟩; have a4 := s0.below hb1 s0.lt; have hc4 := a4.fst; have hc5 := a4.snd; have b1 := hb0.trans (hb1.mono hb0.size))
    | (go_at_call 55; refine (hone _).mono ?_; rintro e w2 ⟨rfl, hb2⟩; have a6 := a4.below hb2 a4.lt; have hc6 := a6.fst; have hc7 := a6.snd; have b2 := b1.trans (hb2.mono b1.size))
    | (go_at_call 56; refine (made_any A len cap l a b false _ (hs.keep b2) ha hb HM.out HV.out).mono ?_; rintro e w3 ⟨R, N, d, rfl, r, s3, hch, hin, hb3⟩; have b3 := b2.trans (hb3.mono b2.size)))
  all_goals (have hr := HSm.out r hch hin; subst hr; have hN := s3.ss.rd.len)
  · have h1000 : 1000 < N := by omega
    have et : told true (addL l (a, b)) = ([], 4) := by unfold told; rw [if_pos rfl, hN, if_neg (by omega)]
    go_ret2
    rw [et]
    exact ⟨none, 0, 0, rfl, Sq.none _ _, b3⟩
  · have h1000 : N ≤ 1000 := by omega
    have et : told true (addL l (a, b)) = (addL l (a, b), 0) := by unfold told; rw [if_pos rfl, hN, if_pos h1000]
    go_ret2
    rw [et]
    exact ⟨R, N, d, rfl, s3.mono b2.size, b3⟩

set_option maxRecDepth 100000 in
set_option maxHeartbeats 2000000 in
theorem rcut_sq (A : Option Addr) (len cap : Nat) (l : List Sp) (a b : Int) (w : World) (hs : Ss w A len cap l) (ha : W64 a) (hb : W64 b) :
    Calls Try.prog 43 #[.slice A len cap, .agg #[.int .i64 a, .int .i64 b]] w fun e w' => ∃ R n d, e = .returned (.tuple #[.slice R n d, .int .i64 (cutR l (a, b)).2]) ∧ Sq w' w.heap.size R n d (cutR l (a, b)).1 ∧ Below w.heap.size w w' := by
  have s0 := Boxed2.new w 52 (.int .i64 a) (.int .i64 b)
  have hb0 : Below w.heap.size w (w.alloc (.cells #[.int .i64 a, .int .i64 b] 52)) := (Below.refl _ w).alloc (Nat.le_refl _) _
  have hs0 := hs.alloc (.cells #[.int .i64 a, .int .i64 b] 52)
  have hmay := rmay_any _ _ _ _ _ hs0
  obtain ⟨w0, hw0⟩ : ∃ w0, w.alloc (.cells #[.int .i64 a, .int .i64 b] 52) = w0 := ⟨_, rfl⟩
  rw [hw0] at hmay s0 hb0 hs0
  have hlen := hs.rd.len
  by_cases hm : mayB l = true
  case neg =>
    have hm' : mayB l = false := by simpa using hm
    have e0 : cutR l (a, b) = ([], 1) := by unfold cutR told; rw [hm']; rfl
    rw [hm'] at hmay
    rw [e0]
    go_enter Try.func43, Try.ntmps43
    go_wp2_with (go_at_call 48; refine hmay.mono ?_; rintro e w1 ⟨rfl, hb1⟩)
    go_ret2
    exact ⟨none, 0, 0, rfl, Sq.none _ _, hb0.trans (hb1.mono hb0.size)⟩
  case pos =>
  rw [hm] at hmay
  by_cases hv : vld a b = true
  case neg =>
    have hv' : vld a b = false := by simpa using hv
    clear hv
    have e0 : cutR l (a, b) = ([], 1) := by unfold cutR told; rw [hm, hv']; rfl
    have hone := rone_any a b
    rw [hv'] at hone
    rw [e0]
    go_enter Try.func43, Try.ntmps43
    go_wp2_with (first
      | (go_at_call 48; refine hmay.mono ?_; rintro e w1 ⟨rfl, hb1⟩; have a4 := s0.below hb1 s0.lt; have hc4 := a4.fst; have hc5 := a4.snd; have b1 := hb0.trans (hb1.mono hb0.size))
      | (go_at_call 55; refine (hone _).mono ?_; rintro e w2 ⟨rfl, hb2⟩; have b2 := b1.trans (hb2.mono b1.size)))
    go_ret2
    exact ⟨none, 0, 0, rfl, Sq.none _ _, b2⟩
  case pos =>
  have e0 : cutR l (a, b) = told true (cutL l (a, b)) := by unfold cutR; rw [hm, hv]; rfl
  have hone := rone_any a b
  rw [hv] at hone
  have HM := Lib.hid hm
  have HV := Lib.hid hv
  have HSm := Lib.hid (fun r (hr : chain (-1) r = true) h => cutL_same (s := (a, b)) hm hv hr h)
  rw [e0]
  clear e0 hm hv
  go_enter Try.func43, Try.ntmps43
  go_wp2_with (first
    | (go_at_call 48; refine hmay.mono ?_; rintro e w1 ⟨rfl, hb1⟩; have a4 := s0.below hb1 s0.lt; have hc4 := a4.fst; have hc5 := a4.snd; have b1 := hb0.trans (hb1.mono hb0.size))
    | (go_at_call 55; refine (hone _).mono ?_; rintro e w2 ⟨rfl, hb2⟩; have a6 := a4.below hb2 a4.lt; have hc6 := a6.fst; have hc7 := a6.snd; have b2 := b1.trans (hb2.mono b1.size))
    | (go_at_call 56; refine (made_any A len cap l a b true _ (hs.keep b2) ha hb HM.out HV.out).mono ?_; rintro e w3 ⟨R, N, d, rfl, r, s3, hch, hin, hb3⟩; have b3 := b2.trans (hb3.mono b2.size)))
  all_goals (have hr := HSm.out r hch hin; subst hr; have hN := s3.ss.rd.len)
  · have h1000 : 1000 < N := by omega
    have et : told true (cutL l (a, b)) = ([], 4) := by unfold told; rw [if_pos rfl, hN, if_neg (by omega)]
    go_ret2
    rw [et]
    exact ⟨none, 0, 0, rfl, Sq.none _ _, b3⟩
  · have h1000 : N ≤ 1000 := by omega
    have et : told true (cutL l (a, b)) = (cutL l (a, b), 0) := by unfold told; rw [if_pos rfl, hN, if_pos h1000]
    go_ret2
    rw [et]
    exact ⟨R, N, d, rfl, s3.mono b2.size, b3⟩

theorem radd_any (A : Option Addr) (len cap : Nat) (l : List Sp) (a b : Int) (w : World) (hs : Ss w A len cap l) (ha : W64 a) (hb : W64 b) :
    Calls Try.prog 36 #[.slice A len cap, .agg #[.int .i64 a, .int .i64 b]] w fun e w' => ∃ R n d, e = .returned (.tuple #[.slice R n d, .int .i64 (addR l (a, b)).2]) ∧ Ss w' R n d (addR l (a, b)).1 ∧ Below w.heap.size w w' :=
  (radd_sq A len cap l a b w hs ha hb).mono fun _ _ ⟨R, n, d, h1, h2, h3⟩ => ⟨R, n, d, h1, h2.ss, h3⟩

theorem rcut_any (A : Option Addr) (len cap : Nat) (l : List Sp) (a b : Int) (w : World) (hs : Ss w A len cap l) (ha : W64 a) (hb : W64 b) :
    Calls Try.prog 43 #[.slice A len cap, .agg #[.int .i64 a, .int .i64 b]] w fun e w' => ∃ R n d, e = .returned (.tuple #[.slice R n d, .int .i64 (cutR l (a, b)).2]) ∧ Ss w' R n d (cutR l (a, b)).1 ∧ Below w.heap.size w w' :=
  (rcut_sq A len cap l a b w hs ha hb).mono fun _ _ ⟨R, n, d, h1, h2, h3⟩ => ⟨R, n, d, h1, h2.ss, h3⟩
end Go.Proofs.Ytgiknfmagmfniaa
