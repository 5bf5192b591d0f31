/- The reference of package keep: Part as a contract of the call. -/
import Derived.Test.YtmnedaholdacnaaProg
import Derived.Test.YtmnedaholdacnaaKeRef2
import Derived.WalkKit
import Derived.WalkSpells
import Derived.WalkSmall
import Derived.Lib.Hide
import Derived.Below
import Derived.Outline
namespace Go.Proofs.Ytmnedaholdacnaa
open Go.RowKit

/-- what is gathered of the first k bytes -/
def xpart (l : List Int) (P Z k : Nat) : List Int := ((l.take k).drop P).take Z
theorem xpart_zero (l : List Int) (P Z : Nat) : xpart l P Z 0 = [] := by unfold xpart; simp
theorem xpart_push {l : List Int} {P Z k : Nat} (hP : P ≤ k) (hk : k < l.length) (hz : (xpart l P Z k).length < Z) : xpart l P Z (k + 1) = xpart l P Z k ++ [byt l k] := by
  unfold xpart at *
  rw [List.length_take, List.length_drop, List.length_take] at hz
  have h1 : (List.drop P (List.take k l)).length < Z := by rw [List.length_drop, List.length_take]; omega
  rw [take_byt hk, List.drop_append_of_le_length (by rw [List.length_take]; omega), List.take_of_length_le (l := List.drop P (List.take k l) ++ [byt l k]) (by rw [List.length_append, List.length_singleton]; omega), List.take_of_length_le (l := List.drop P (List.take k l)) (by omega)]
theorem xpart_before {l : List Int} {P Z k : Nat} (hP : k < P) : xpart l P Z (k + 1) = xpart l P Z k := by
  unfold xpart
  rw [List.drop_of_length_le (by rw [List.length_take]; omega), List.drop_of_length_le (by rw [List.length_take]; omega)]
theorem xpart_full {l : List Int} {P Z k : Nat} (hk : k < l.length) (hP : P ≤ k) (hz : Z ≤ (xpart l P Z k).length) : xpart l P Z (k + 1) = xpart l P Z k := by
  unfold xpart at *
  rw [List.length_take, List.length_drop, List.length_take] at hz
  rw [take_byt hk, List.drop_append_of_le_length (by rw [List.length_take]; omega), List.take_append_of_le_length (by rw [List.length_drop, List.length_take]; omega)]
theorem xpart_len (l : List Int) (P Z k : Nat) : (xpart l P Z k).length ≤ k := by
  unfold xpart; rw [List.length_take, List.length_drop, List.length_take]; omega
theorem xpart_end {l : List Int} {P Z n : Nat} (h : l.length = n) : xpart l P Z n = (l.drop P).take Z := by
  unfold xpart; rw [List.take_of_length_le (l := l) (by omega)]
theorem rd_single (w : World) {x : Int} (h0 : 0 ≤ x) (h1 : x < 256) : Rd (w.alloc (.cells #[.int .u8 x] 5)) (some ⟨w.heap.size, 0, none⟩) 1 [x] := Rd.block w (l := [x]) (by intro y hy; simp at hy; omega) 5

set_option maxHeartbeats 2000000 in
theorem rpart_any (base : Int) (A : Option Addr) (n c : Nat) (cap : Int) (sh : Bool) (l : List Int) (p z : Int) (w : World) (hs : Sl w A n c l) (hn : n ≤ 140737488355328) (hp0 : -9223372036854775808 ≤ p) (hp1 : p ≤ 9223372036854775807) (hz1 : z ≤ 9223372036854775807) :
    Calls Try.prog 18 #[.agg #[.int .i64 base, .slice A n c, .int .i64 cap, .bool sh], .int .i64 p, .int .i64 z] w fun e w' => ∃ R m d, e = .returned (.slice R m d) ∧ Sb w' w.heap.size R m d (partR ⟨base, l, cap, sh⟩ p z) ∧ Below w.heap.size w w' := by
  obtain ⟨B, hB⟩ : ∃ B, w.heap.size = B := ⟨_, rfl⟩
  have e0 := Boxed4.new w 24 (.int .i64 base) (.slice A n c) (.int .i64 cap) (.bool sh)
  have hb : Below w.heap.size w (w.alloc (.cells #[.int .i64 base, .slice A n c, .int .i64 cap, .bool sh] 24)) := (Below.refl _ _).alloc (Nat.le_refl _) _
  rw [hB] at e0 hb
  obtain ⟨w0, hw0⟩ : ∃ w0, w.alloc (.cells #[.int .i64 base, .slice A n c, .int .i64 cap, .bool sh] 24) = w0 := ⟨_, rfl⟩
  rw [hw0] at e0 hb
  have g0 := e0.c0
  have g1 := e0.c1
  have g2 := e0.c2
  have g3 := e0.c3
  have hsk : ∀ {w' : World}, Below B w w' → Sl w' A n c l := fun h => hs.keep (by rw [hB]; exact h)
  have hm := rmay_any base A n c cap sh l w0 hs.rd.len hn
  cases hk : kmay ⟨base, l, cap, sh⟩ with
  | false =>
    rw [part_bad hk]
    rw [hk] at hm
    clear hk
    go_enter Try.func18, Try.ntmps18
    rw [hB]
    go_wp2_with (refine hm.mono ?_; rintro e w1 ⟨rfl, hb1⟩)
    go_ret
    exact ⟨none, 0, 0, rfl, Sb.none _ _, hb.trans (hb1.mono (Nat.le_of_lt e0.lt))⟩
  | true =>
    rw [hk] at hm
    by_cases hpz : base ≤ p ∧ 0 ≤ z
    · obtain ⟨q0, q1⟩ := hpz
      have he : partR ⟨base, l, cap, sh⟩ p z = xpart l (p - base).toNat z.toNat n := by unfold partR; rw [if_pos ⟨hk, q0, q1⟩, xpart_end hs.rd.len]
      have hk' := kmay_iff.1 hk
      simp only [hs.rd.len] at hk'
      obtain ⟨k2, k3, k4, k0, k1⟩ := hk'
      have hn1 : n ≤ 1000000 := by omega
      rw [he]
      clear hk he k2 k3 k4
      obtain ⟨P, hP⟩ : ∃ P : Nat, p - base = P := ⟨(p - base).toNat, by omega⟩
      obtain ⟨Z, rfl⟩ : ∃ Z : Nat, z = Z := ⟨z.toNat, by omega⟩
      obtain rfl : p = base + P := by omega
      rw [show (base + (P : Int) - base).toNat = P by omega, show ((Z : Int)).toNat = Z by omega]
      clear hP
      go_enter Try.func18, Try.ntmps18
      rw [hB]
      go_wp2_with (refine hm.mono ?_; rintro e w1 ⟨rfl, hb1⟩; have e1 := e0.kept hb1; have b1 := hb.trans (hb1.mono (Nat.le_of_lt e0.lt)); have x0 := e1.c0)
      have hlt := e1.lt
      have s1 := hsk b1
      have S1 := Lib.hid s1; clear s1
      clear x0 g0 g1 g2 g3 hs
      go_loopw [8, 9] (fun v i wr => ∃ k : Nat, k ≤ n ∧ i = .int .i64 k ∧ Got wr w1.heap.size v (xpart l P Z k).length (xpart l P Z k) ∧ Below w1.heap.size w1 wr) (fun _ i _ => n - (intOf i).toNat)
      case atStart => exact ⟨0, Nat.zero_le _, rfl, by rw [xpart_zero]; exact ⟨World.ownsRow_nil _ _ _ _, fun x hx => by simp at hx⟩, Below.refl _ _⟩
      case round =>
        obtain ⟨k, hkn, rfl, hg, hbw⟩ := hrel
        have hxl := xpart_len l P Z k
        have e2 := e1.kept hbw
        have y0 := e2.c0
        have y1 := e2.c1
        have hsz := hbw.size
        by_cases hlt2 : k < n
        · have hkl : k < l.length := by rw [S1.out.rd.len]; exact hlt2
          obtain ⟨b, o, hA, hbl, hc⟩ := S1.out.rd.spot (by omega)
          have hcell := (hbw.cell (p := ⟨b, o + k, none⟩) hbl).trans (hc.out k hlt2)
          have hbd := byt_in S1.out.rd.small hkl
          obtain ⟨bd0, bd1⟩ := hbd
          subst hA
          clear hc
          by_cases hPk : P ≤ k
          · by_cases hZ : (xpart l P Z k).length < Z
            · have hpush := xpart_push hPk hkl hZ
              obtain ⟨m, hm2⟩ : ∃ m, (xpart l P Z k).length = m := ⟨_, rfl⟩
              obtain ⟨X, hX⟩ : ∃ X, xpart l P Z k = X := ⟨_, rfl⟩
              obtain ⟨x, hx⟩ : ∃ x, byt l k = x := ⟨_, rfl⟩
              rw [hm2] at hg hZ hxl
              rw [hX] at hg hpush hm2
              rw [hx] at hpush hcell bd0 bd1
              have HP := Lib.hid hpush; clear hpush
              have HM := Lib.hid hm2; clear hm2
              clear hX hx
              obtain ⟨R, d, rfl, hsl⟩ := hg.sl
              clear hsl
              have hnl : (m : Int) < (Z : Int) := by omega
              have cond1 : base + (P : Int) ≤ base + (k : Int) := by omega
              go_wp2_with (at_builtin; go_loud (refine wpList_app _ rfl (.tmp 43) (.tmp 49) 22 rfl w1.heap.size 5 Try.underlying22 info_u8 _ m X rfl (hg.own.alloc _) rfl (fun e => by cases e) (rd_single wr bd0 bd1) (by omega) (by simp; omega) ?_); intro v1 u1 hown1 hgrow1 hat1; go_loud (have hbu := (hbw.alloc hsz (.cells #[.int .u8 x] 5)).grown hgrow1 (by simp; omega) (fun g hg' => (hg.own.lt g hg').1)))
              have hg1 : Got u1 w1.heap.size v1 (m + 1) (X ++ [x]) := ⟨hown1, small_app hg.small (by intro y hy; simp at hy; omega)⟩
              clear hown1 hgrow1 hat1
              go_roundw
              case rel => exact ⟨k + 1, by omega, by go_num, by rw [HP.out, List.length_append, HM.out]; exact hg1, hbu⟩
              case measure => simp [intOf]; omega
            · have hst := xpart_full (Z := Z) hkl hPk (by omega)
              have HS := Lib.hid hst; clear hst
              have cond1 : base + (P : Int) ≤ base + (k : Int) := by omega
              have hnl : ¬ (((xpart l P Z k).length : Int) < (Z : Int)) := by omega
              obtain ⟨m, hm2⟩ : ∃ m, (xpart l P Z k).length = m := ⟨_, rfl⟩
              rw [hm2] at hg hZ hxl hnl
              obtain ⟨R, d, rfl, hsl⟩ := hg.sl
              clear hsl
              have HM := Lib.hid hm2; clear hm2
              go_wp2_with fail
              go_roundw
              case rel => exact ⟨k + 1, by omega, by go_num, by rw [HS.out, HM.out]; exact hg, hbw⟩
              case measure => simp [intOf]; omega
          · have hst := xpart_before (l := l) (Z := Z) (show k < P by omega)
            have HS := Lib.hid hst; clear hst
            have cond1 : ¬ (base + (P : Int) ≤ base + (k : Int)) := by omega
            go_wp2_with fail
            go_roundw
            case rel => exact ⟨k + 1, by omega, by go_num, by rw [HS.out]; exact hg, hbw⟩
            case measure => simp [intOf]; omega
        · have hkn2 : k = n := by omega
          subst hkn2
          obtain ⟨R, d, rfl, hsb⟩ := hg.sb
          go_wp2_with fail
          go_ret
          exact ⟨R, _, d, rfl, hsb.mono (Nat.le_of_lt hlt), b1.trans (hbw.mono (Nat.le_of_lt hlt))⟩
    · have he : partR ⟨base, l, cap, sh⟩ p z = [] := by unfold partR; rw [if_neg (fun h => hpz h.2)]
      rw [he]
      go_enter Try.func18, Try.ntmps18
      rw [hB]
      by_cases hp : p < base
      · go_wp2_with (refine hm.mono ?_; rintro e w1 ⟨rfl, hb1⟩; have e1 := e0.kept hb1; have b1 := hb.trans (hb1.mono (Nat.le_of_lt e0.lt)); have x0 := e1.c0)
        go_ret
        exact ⟨none, 0, 0, rfl, Sb.none _ _, b1⟩
      · have hz : z < 0 := by omega
        clear hpz
        go_wp2_with (refine hm.mono ?_; rintro e w1 ⟨rfl, hb1⟩; have e1 := e0.kept hb1; have b1 := hb.trans (hb1.mono (Nat.le_of_lt e0.lt)); have x0 := e1.c0)
        go_ret
        exact ⟨none, 0, 0, rfl, Sb.none _ _, b1⟩
end Go.Proofs.Ytmnedaholdacnaa
