/- The reference's Has, Size, Gap: every list. -/
import Derived.Test.YtnbamacdcggaeaaSpRef2
namespace Go.Proofs.Ytnbamacdcggaeaa
open Go.RowKit

theorem rsize_aux {l : List Sp} (h : chain (-1) l = true) {k : Nat} (hk : k < l.length) :
    0 ≤ size (l.take k) ∧ size (l.take k) ≤ 4611686018427387904 ∧ 0 ≤ (sp l k).1 ∧ (sp l k).1 < (sp l k).2 ∧ (sp l k).2 ≤ 4611686018427387904 ∧ size (l.take (k + 1)) = size (l.take k) + ((sp l k).2 - (sp l k).1) ∧ size (l.take k) + (sp l k).2 ≤ 9223372036854775807 := by
  have h1 := chain_take h (k + 1)
  rw [take_sp hk] at h1
  rw [chain_snoc, Bool.and_eq_true, Bool.and_eq_true, decide_eq_true_eq] at h1
  have hv := vld_iff.1 h1.2.2
  have hb := (chain_bd h1.1 (by omega)).2 (by omega)
  rw [take_sp hk, size_snoc]
  have := h1.2.1
  omega

set_option maxRecDepth 100000 in
set_option maxHeartbeats 2000000 in
theorem rhas_any (A : Option Addr) (n c : Nat) (l : List Sp) (a b : Int) (w : World) (hs : Ss w A n c l) :
    Calls Try.prog 39 #[.slice A n c, .agg #[.int .i64 a, .int .i64 b]] w fun e w' => e = .returned (.bool (hasB l a b)) ∧ Below w.heap.size w w' := by
  have hl := hs.rd.len
  have m1 := hs.le
  have m2 := hs.max
  have m3 : n ≤ 9223372036854775807 := by unfold maxLen at m2; omega
  clear m1 m2
  have hx := Boxed2.new w 37 (.int .i64 a) (.int .i64 b)
  have hb : Below w.heap.size w (w.alloc (.cells #[.int .i64 a, .int .i64 b] 37)) := (Below.refl _ _).alloc (Nat.le_refl _) _
  have hmay := rmay_any _ _ _ _ _ (hs.alloc (.cells #[.int .i64 a, .int .i64 b] 37))
  obtain ⟨w0, hw0⟩ : ∃ w0, w.alloc (.cells #[.int .i64 a, .int .i64 b] 37) = w0 := ⟨_, rfl⟩
  rw [hw0] at hmay hx hb
  by_cases hm : mayB l = true
  case neg =>
    have e0 : hasB l a b = false := by unfold hasB; rw [bool_false hm]; rfl
    rw [bool_false hm] at hmay
    rw [e0]
    clear hm e0
    go_enter Try.func39, Try.ntmps39
    go_wp2_with (go_at_call 38; refine hmay.mono ?_; rintro e w1 ⟨rfl, hb1⟩; have b1 := hb.trans (hb1.mono hb.size))
    go_loopw [6] (fun i wr => i = .int .i64 0 ∧ w1 = wr) (fun i _ => 0)
    case atStart => exact ⟨rfl, rfl⟩
    case round =>
      obtain ⟨rfl, rfl⟩ := hrel
      by_cases h0 : 0 < n
      · have h0' : (0 : Int) < (n : Int) := by omega
        go_wp2
        go_ret
        exact ⟨rfl, b1⟩
      · obtain rfl : n = 0 := by omega
        go_wp2
        go_ret
        exact ⟨rfl, b1⟩
  case pos =>
  by_cases hv : vld a b = true
  case neg =>
    have hv' := bool_false hv
    clear hv
    have e0 : hasB l a b = false := by unfold hasB; rw [hm, hv']; rfl
    rw [hm] at hmay
    rw [e0]
    have hone := rone_any a b
    rw [hv'] at hone
    clear hm e0
    go_enter Try.func39, Try.ntmps39
    go_wp2_with (go_at_call 38; refine hmay.mono ?_; rintro e w1 ⟨rfl, hb1⟩; have b1 := hb.trans (hb1.mono hb.size); have hx1 := hx.below hb1 hx.lt; have hp := hx1.fst; have hq := hx1.snd)
    go_loopw [6] (fun i wr => i = .int .i64 0 ∧ w1 = wr) (fun i _ => 0)
    case atStart => exact ⟨rfl, rfl⟩
    case round =>
      obtain ⟨rfl, rfl⟩ := hrel
      by_cases h0 : 0 < n
      · have h0' : (0 : Int) < (n : Int) := by omega
        go_wp2_with (go_at_call 47; refine (hone _).mono ?_; rintro e w2 ⟨rfl, hb2⟩)
        go_ret
        exact ⟨rfl, b1.trans (hb2.mono b1.size)⟩
      · obtain rfl : n = 0 := by omega
        go_wp2
        go_ret
        exact ⟨rfl, b1⟩
  case pos =>
  have e0 : hasB l a b = hasIn l a b := by unfold hasB; rw [hm, hv]; rfl
  rw [hm] at hmay
  rw [e0]
  have hone := rone_any a b
  rw [hv] at hone
  clear hm hv e0
  have HA := Lib.hid hs; clear hs
  go_enter Try.func39, Try.ntmps39
  go_wp2_with (go_at_call 38; refine hmay.mono ?_; rintro e w1 ⟨rfl, hb1⟩; have b1 := hb.trans (hb1.mono hb.size); have hx1 := hx.below hb1 hx.lt)
  go_loopw [6] (fun i wr => ∃ k : Nat, k ≤ n ∧ i = .int .i64 k ∧ hasIn (l.take k) a b = false ∧ Below w.heap.size w wr ∧ Boxed2 wr w.heap.size 37 (.int .i64 a) (.int .i64 b)) (fun i _ => n - (intOf i).toNat)
  case atStart => exact ⟨0, Nat.zero_le _, rfl, rfl, b1, hx1⟩
  case round =>
    clear b1 hx1 hmay
    obtain ⟨k, hk, rfl, hin, b2, hx2⟩ := hrel
    by_cases hlt : k < n
    · have hk0 : (k : Int) < (n : Int) := by omega
      have hk1 : (0 : Int) ≤ (k : Int) := by omega
      have hsn := hasIn_snoc (l.take k) (sp l k) a b
      rw [← take_sp (by omega), hin, Bool.false_or] at hsn
      have hcut := fun h => hasIn_cut (l := l) (k := k + 1) (a := a) (b := b) h
      obtain ⟨⟨p, q⟩, hp⟩ : ∃ p, sp l k = p := ⟨_, rfl⟩
      have hfst := hx2.fst
      have hsnd := hx2.snd
      obtain ⟨bb, o, rfl, hbl, hc⟩ := HA.out.rd.at_ (by omega)
      obtain ⟨z1, z2⟩ := hc k hlt
      rw [hp] at z1 z2 hsn
      simp only at z1 z2 hsn
      clear hc hp hin
      have hone2 := hone _ |>.mono (R' := fun e w' => e = .returned (.bool true) ∧ Below wr.heap.size wr w') (fun e w' h => h)
      by_cases g1 : p ≤ a
      · have d1 : decide (p ≤ a) = true := decide_eq_true g1
        by_cases g2 : b ≤ q
        · have d2 : decide (b ≤ q) = true := decide_eq_true g2
          have hr : hasIn l a b = true := hcut (by rw [hsn, d1, d2]; rfl)
          clear hsn hcut
          go_wp2_with (go_at_call 47; refine hone2.mono ?_; rintro e w3 ⟨rfl, hb3⟩; have hx3 := hx2.below hb3 hx2.lt; have hfst3 := hx3.fst; have hsnd3 := hx3.snd; have b3 := b2.trans (hb3.mono b2.size); have y1 := (b3.cell (p := ⟨bb, o + k * 2, none⟩) hbl).trans z1; have y2 := (b3.cell (p := ⟨bb, o + k * 2 + 1, none⟩) hbl).trans z2)
          go_quiet (fail)
          go_wp2
          go_ret
          exact ⟨by rw [hr]; rfl, below_drewN b3 _⟩
        · have d2 : decide (b ≤ q) = false := decide_eq_false g2
          have g2' : q < b := by omega
          rw [d1, d2] at hsn
          have HS := Lib.hid hsn; clear hsn hcut
          go_wp2_with (go_at_call 47; refine hone2.mono ?_; rintro e w3 ⟨rfl, hb3⟩; have hx3 := hx2.below hb3 hx2.lt; have hfst3 := hx3.fst; have hsnd3 := hx3.snd; have b3 := b2.trans (hb3.mono b2.size); have y1 := (b3.cell (p := ⟨bb, o + k * 2, none⟩) hbl).trans z1; have y2 := (b3.cell (p := ⟨bb, o + k * 2 + 1, none⟩) hbl).trans z2)
          go_quiet (fail)
          go_wp2
          go_roundw
          case rel => exact ⟨k + 1, by omega, by go_num, HS.out, below_drewN b3 _, hx3.below (below_drewN (Below.refl _ _) _) hx3.lt⟩
          case measure => simp [intOf]; omega
      · have d1 : decide (p ≤ a) = false := decide_eq_false g1
        have g1' : a < p := by omega
        rw [d1] at hsn
        have HS := Lib.hid hsn; clear hsn hcut
        go_wp2_with (go_at_call 47; refine hone2.mono ?_; rintro e w3 ⟨rfl, hb3⟩; have hx3 := hx2.below hb3 hx2.lt; have hfst3 := hx3.fst; have hsnd3 := hx3.snd; have b3 := b2.trans (hb3.mono b2.size); have y1 := (b3.cell (p := ⟨bb, o + k * 2, none⟩) hbl).trans z1; have y2 := (b3.cell (p := ⟨bb, o + k * 2 + 1, none⟩) hbl).trans z2)
        go_quiet (fail)
        go_wp2
        go_roundw
        case rel => exact ⟨k + 1, by omega, by go_num, HS.out, below_drewN b3 _, hx3.below (below_drewN (Below.refl _ _) _) hx3.lt⟩
        case measure => simp [intOf]; omega
    · have hkn : k = n := by omega
      subst hkn
      rw [← hl, List.take_length] at hin
      go_wp2
      go_ret
      exact ⟨by rw [hin]; rfl, b2⟩

end Go.Proofs.Ytnbamacdcggaeaa
