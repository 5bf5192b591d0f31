/- FlL1 Shelf Div Low. -/
import Derived.Test.YtbijhkhkigdddaaGreatP07
import Derived.Laws.Bits64b
import Derived.Lib.ItoaNum
import Derived.Lib.MinMax
import Derived.Lib.Mul64
import Derived.Shelf.Bits.Mul64
import Derived.Shelf.Small.Bits
import Derived.Shelf.Strconv.Itoa0
set_option linter.all false
set_option maxRecDepth 100000
set_option maxHeartbeats 32000000
namespace Go.Proofs.YtbijhkhkigdddaaGreat
open Go.RowKit
def fwinB (n lo hi : Int) : Bool := decide (lo ≤ n) && decide (n ≤ hi)
theorem fwin_iff (n lo hi : Int) : fwinB n lo hi = true ↔ lo ≤ n ∧ n ≤ hi := by unfold fwinB; simp
theorem fwin60 (n : Int) : fwinB n 0 1152921504606846976 = t60 n := by rw [Bool.eq_iff_iff, fwin_iff, t60_iff]
theorem fwin_any (n lo hi : Int) (w : World) :
  Calls Tryz.prog 38 #[n, lo, hi] w fun e w' => e = .returned (.bool (fwinB n lo hi)) ∧ w = w' := by
 by_cases h1 : lo ≤ n
 ·have e1 : fwinB n lo hi = decide (n ≤ hi) := by unfold fwinB; rw [Zt h1]; rfl
  rw [e1]
  clear e1
  have d1 : decide (lo ≤ n) = true := Zt h1
  go_enter Tryz.func38, Tryz.ntmps38
  go_wp2
  go_ret
  exact ⟨rfl, rfl⟩
 ·have e1 : fwinB n lo hi = false := by unfold fwinB; rw [Zf h1]; rfl
  rw [e1]
  clear e1
  have d1 : decide (lo ≤ n) = false := Zf h1
  go_enter Tryz.func38, Tryz.ntmps38
  go_wp2
  go_ret
  exact ⟨rfl, rfl⟩
theorem fine_win (c : Cf) : fineB c = ((fwinB c.mss 1 1460 && fwinB c.most c.mss 1073741824) && (((fwinB c.longest 1 1099511627776 && fwinB c.least 1 c.longest) && fwinB c.span 1 1099511627776) && ((fwinB c.keep 0 65536 && fwinB c.weave 0 65536) && fwinB c.total 1 1048576))) := by
 rw [Bool.eq_iff_iff, fineB_iff]
 simp only [Bool.and_eq_true, fwin_iff]
 exact ⟨fun h => ⟨⟨⟨h.m0, h.m1⟩, h.w0, h.w1⟩, ⟨⟨⟨Int.le_trans h.l0 h.l1, h.l2⟩, h.l0, h.l1⟩, h.s0, h.s1⟩, ⟨⟨h.k0, h.k1⟩, h.v0, h.v1⟩, h.t0, h.t1⟩, fun ⟨⟨⟨a, b⟩, c, d⟩, ⟨⟨⟨e, f⟩, g, h⟩, i, j⟩, ⟨⟨k, l⟩, m, n⟩, p, q⟩ => ⟨a, b, c, d, g, h, f, i, j, p, q, k, l, m, n⟩⟩
theorem flfine_any (c : Cf) (w : World) (hc : CfW c) : Calls Tryz.prog 16 #[.agg (ccs c).toArray] w fun e w' => e = .returned (.bool (fineB c)) ∧ Below w.heap.size w w' := by
 obtain ⟨B, hB⟩ : ∃ B, w.heap.size = B := ⟨_, rfl⟩
 have y0 := Bx.new w 42 (ccs c)
 rw [hB] at y0 ⊢
 have b0 : Below B w (w.alloc (.cells (ccs c).toArray 42)) := by rw [← hB]; exact (Zb).alloc Zr _
 obtain ⟨q, hq⟩ : ∃ q, fineB c = q := ⟨_, rfl⟩
 rw [hq]
 rw [fine_win] at hq
 have HQ := Zh hq
 clear hq hc
 go_enter Tryz.func16, Tryz.ntmps16
 go_upto_region 1 with fail
 change Code.wp _ _ _ _ (w.alloc (.cells (ccs c).toArray 42))
 generalize w.alloc (.cells (ccs c).toArray 42) = w1 at y0 b0 ⊢
 have c0 := y0.cell 0 rfl
 have c1 := y0.cell 1 rfl
 have c2 := y0.cell 2 rfl
 have c3 := y0.cell 3 rfl
 have c4 := y0.cell 4 rfl
 have c5 := y0.cell 5 rfl
 have c6 := y0.cell 6 rfl
 have c7 := y0.cell 7 rfl
 have c8 := y0.cell 8 rfl
 clear hB
 go_upto_region 1 with fail
 go_cut [3] (fun s wx => s = .bool (fwinB c.mss 1 1460 && fwinB c.most c.mss 1073741824) ∧ wx = w1)
 case first =>
  cases h1 : fwinB c.mss 1 1460 with
  | false =>
   go_wp2_with (go_at_call 38; refine (fwin_any _ _ _ _).mono ?_; rintro e wx ⟨rfl, rfl⟩)
   go_meet
   case rel => exact ⟨by simp [*], rfl⟩
  | true =>
  go_wp2_with (go_at_call 38; refine (fwin_any _ _ _ _).mono ?_; rintro e wx ⟨rfl, rfl⟩)
  go_meet
  case rel => exact ⟨by simp [*], rfl⟩
 case rest =>
 obtain ⟨rfl, hwx⟩ := hcut
 rw [hwx]
 clear hwx
 go_upto_region 2 with fail
 go_cut [4] (fun s wx => s = .bool ((fwinB c.longest 1 1099511627776 && fwinB c.least 1 c.longest) && fwinB c.span 1 1099511627776) ∧ wx = w1)
 case first =>
  cases h2 : fwinB c.longest 1 1099511627776 with
  | false =>
   go_wp2_with (go_at_call 38; refine (fwin_any _ _ _ _).mono ?_; rintro e wx ⟨rfl, rfl⟩)
   go_meet
   case rel => exact ⟨by simp [*], rfl⟩
  | true =>
  cases h1 : fwinB c.least 1 c.longest with
  | false =>
   go_wp2_with (go_at_call 38; refine (fwin_any _ _ _ _).mono ?_; rintro e wx ⟨rfl, rfl⟩)
   go_meet
   case rel => exact ⟨by simp [*], rfl⟩
  | true =>
  go_wp2_with (go_at_call 38; refine (fwin_any _ _ _ _).mono ?_; rintro e wx ⟨rfl, rfl⟩)
  go_meet
  case rel => exact ⟨by simp [*], rfl⟩
 case rest =>
 obtain ⟨rfl, hwx⟩ := hcut
 rw [hwx]
 clear hwx
 go_upto_region 3 with fail
 go_cut [5] (fun s wx => s = .bool (fwinB c.keep 0 65536 && fwinB c.weave 0 65536) ∧ wx = w1)
 case first =>
  cases h1 : fwinB c.keep 0 65536 with
  | false =>
   go_wp2_with (go_at_call 38; refine (fwin_any _ _ _ _).mono ?_; rintro e wx ⟨rfl, rfl⟩)
   go_meet
   case rel => exact ⟨by simp [*], rfl⟩
  | true =>
  go_wp2_with (go_at_call 38; refine (fwin_any _ _ _ _).mono ?_; rintro e wx ⟨rfl, rfl⟩)
  go_meet
  case rel => exact ⟨by simp [*], rfl⟩
 case rest =>
 obtain ⟨rfl, hwx⟩ := hcut
 rw [hwx]
 clear hwx
 have hq := HQ.out
 clear HQ
 cases k1 : (fwinB c.mss 1 1460 && fwinB c.most c.mss 1073741824) with
 | false =>
  have hF : q = false := by rw [← hq, k1]; rfl
  subst hF
  clear hq
  go_wp2_with (go_at_call 38; refine (fwin_any _ _ _ _).mono ?_; rintro e wx ⟨rfl, rfl⟩)
  go_ret
  exact ⟨rfl, b0⟩
 | true =>
 cases k2 : ((fwinB c.longest 1 1099511627776 && fwinB c.least 1 c.longest) && fwinB c.span 1 1099511627776) with
 | false =>
  have hF : q = false := by rw [← hq, k1, k2]; rfl
  subst hF
  clear hq
  go_wp2_with (go_at_call 38; refine (fwin_any _ _ _ _).mono ?_; rintro e wx ⟨rfl, rfl⟩)
  go_ret
  exact ⟨rfl, b0⟩
 | true =>
 cases k3 : (fwinB c.keep 0 65536 && fwinB c.weave 0 65536) with
 | false =>
  have hF : q = false := by rw [← hq, k1, k2, k3]; rfl
  subst hF
  clear hq
  go_wp2_with (go_at_call 38; refine (fwin_any _ _ _ _).mono ?_; rintro e wx ⟨rfl, rfl⟩)
  go_ret
  exact ⟨rfl, b0⟩
 | true =>
 have hF : q = fwinB c.total 1 1048576 := by rw [← hq, k1, k2, k3]; rfl
 subst hF
 clear hq k1 k2 k3
 go_wp2_with (go_at_call 38; refine (fwin_any _ _ _ _).mono ?_; rintro e wx ⟨rfl, rfl⟩)
 go_ret
 exact ⟨rfl, b0⟩
theorem new_min {c : Cf} (h : CfOk c) : IntKind.i64.wrap (10 * c.mss) = 10 * c.mss := IntWalk.i64_in _ (by have := h.m0; have := h.m1; omega)
theorem flnew_any (p : Nat → Prop) (c : Cf) (w : World) (hp : NewP w p) (hc : CfW c) : Calls Tryz.prog 13 #[.agg (ccs c).toArray] w fun e w' => TellF2 p w w' e (newF c) := by
 unfold TellF2
 obtain ⟨B, hB⟩ : ∃ B, w.heap.size = B := ⟨_, rfl⟩
 have y0 := (Bx.new w 42 (ccs c)).alloc (.cells (fcs zfs zfv).toArray 40)
 have r0 := Bx.new (w.alloc (.cells (ccs c).toArray 42)) 40 (fcs zfs zfv)
 rw [World.size_alloc] at r0
 rw [hB] at y0 r0 ⊢
 have b0 : Below B w ((w.alloc (.cells (ccs c).toArray 42)).alloc (.cells (fcs zfs zfv).toArray 40)) := by rw [← hB]; exact ((Zb).alloc Zr _).alloc (by simp) _
 obtain ⟨x, hx⟩ : ∃ x, newF c = x := ⟨_, rfl⟩
 rw [hx]
 have HX := Zh hx
 have HC := Zh hc
 clear hc hx
 go_enter Tryz.func13, Tryz.ntmps13
 go_upto_region 1 with fail
 change Code.wp _ _ _ _ ((w.alloc (.cells (ccs c).toArray 42)).alloc (.cells (fcs zfs zfv).toArray 40))
 generalize (w.alloc (.cells (ccs c).toArray 42)).alloc (.cells (fcs zfs zfv).toArray 40) = w1 at y0 r0 b0 ⊢
 have zB : B ≤ w1.heap.size := Zl y0.lt
 clear hB
 go_wp2_with (refine cf_load rfl (.tmp 1) rfl rfl y0 rfl ?_)
 refine (flfine_any c _ HC.out).mono ?_
 rintro e w2 ⟨rfl, hb⟩
 have y2 := y0.kept hb; have r2 := r0.kept hb; have b2 := b0.trans (hb.mono zB); have zB2 : B ≤ w2.heap.size := Zn zB hb.size
 clear y0 r0 b0 zB hb
 cases hk : fineB c with
 | false =>
  have hn : x = (zfv, 1) := by rw [← HX.out]; unfold newF; rw [hk]; rfl
  subst hn
  clear HX hk
  go_wp2_with (refine fl_store rfl (.tmp 2) (.tmp 7) rfl rfl (fcs zfs zfv) rfl r2 rfl rfl rfl ?_)
  refine fl_end2 (by rfl) (by rfl) (by rfl) (fl_put r2 (fcs zfs zfv)) rfl rfl ?_
  exact ⟨zfs, rfl, FlM.zero _ _, b2.grown (fl_grown _ (B + 1) _) zB2 (fun k hk => by cases hk; omega)⟩
 | true =>
  have hok := (fineB_iff c).1 hk
  have hn : x = (newFv c, 0) := by rw [← HX.out]; unfold newF; rw [hk]; rfl
  have hw := new_min hok
  subst hn
  clear HX
  have HW := Zh (w_valid (new_ok hok))
  have c0 := y2.cell 0 rfl; have c1 := y2.cell 1 rfl; have c4 := y2.cell 4 rfl
  clear hk hok
  go_wp2_with (refine fl_store rfl (.tmp 2) (.tmp 20) rfl rfl (fcs zfs (newFv c)) rfl r2 rfl rfl rfl ?_)
  refine fl_end2 (by rfl) (by rfl) (by rfl) (fl_put r2 (fcs zfs (newFv c))) rfl rfl ?_
  exact ⟨zfs, rfl, ⟨Se.none _, Ss.none _, Si.none _, Si.none _, HW.out, In1.zero _ _, In1.zero _ _, In1.zero _ _, In1.zero _ _⟩, b2.grown (fl_grown _ (B + 1) _) zB2 (fun k hk => by cases hk; omega)⟩
end Go.Proofs.YtbijhkhkigdddaaGreat
namespace Go.Proofs
open Go.Shelf
def Tryz.lays134_ren : Go.Shelf.Ren := ⟨fun | 134 => 234 | 129 => 236 | n => n, fun | 53 => 211 | 3 => 3 | 4 => 4 | 46 => 221 | 5 => 5 | 9 => 9 | n => n, fun | n => n⟩
theorem Tryz.lays134 : Go.Proofs.Lays.n134 Tryz.prog Tryz.lays134_ren := {
  mixed := by kernel_rfl
  f129 := Tryz.func236.trans (congrArg some (by kernel_rfl))
  f134 := Tryz.func234.trans (congrArg some (by kernel_rfl))
  t3 := Tryz.underlying3
  a3 := Tryz.isAgg3
  z3 := Tryz.sizeOf3
  v3 := Tryz.zeroValue3
  t4 := Tryz.underlying4
  a4 := Tryz.isAgg4
  z4 := Tryz.sizeOf4
  v4 := Tryz.zeroValue4
  t5 := Tryz.underlying5
  a5 := Tryz.isAgg5
  z5 := Tryz.sizeOf5
  v5 := Tryz.zeroValue5
  t9 := Tryz.underlying9
  a9 := Tryz.isAgg9
  z9 := Tryz.sizeOf9
  v9 := Tryz.zeroValue9
  t46 := Tryz.underlying221
  a46 := Tryz.isAgg221
  z46 := Tryz.sizeOf221
  v46 := Tryz.zeroValue221
  t53 := Tryz.underlying211
  a53 := Tryz.isAgg211
  z53 := Tryz.sizeOf211
  v53 := Tryz.zeroValue211 }
theorem Tryz.bits_LeadingZeros64 (x : Int) (w : World) (h0 : 0 ≤ x) (h1 : x ≤ 18446744073709551615) :
    Calls Tryz.prog 234 #[.int .u64 x] w fun e w' => e = .returned (.int .i64 (64 - (Lib.bitLen x.toNat : Int))) ∧ w' = w := Any.bits_LeadingZeros64 Tryz.lays134 x w h0 h1
def Tryz.lays129_ren : Go.Shelf.Ren := ⟨fun | 129 => 236 | n => n, fun | 53 => 211 | 3 => 3 | 4 => 4 | 46 => 221 | 5 => 5 | 9 => 9 | n => n, fun | n => n⟩
theorem Tryz.lays129 : Go.Proofs.Lays.n129 Tryz.prog Tryz.lays129_ren := {
  mixed := by kernel_rfl
  f129 := Tryz.func236.trans (congrArg some (by kernel_rfl))
  t3 := Tryz.underlying3
  a3 := Tryz.isAgg3
  z3 := Tryz.sizeOf3
  v3 := Tryz.zeroValue3
  t4 := Tryz.underlying4
  a4 := Tryz.isAgg4
  z4 := Tryz.sizeOf4
  v4 := Tryz.zeroValue4
  t5 := Tryz.underlying5
  a5 := Tryz.isAgg5
  z5 := Tryz.sizeOf5
  v5 := Tryz.zeroValue5
  t9 := Tryz.underlying9
  a9 := Tryz.isAgg9
  z9 := Tryz.sizeOf9
  v9 := Tryz.zeroValue9
  t46 := Tryz.underlying221
  a46 := Tryz.isAgg221
  z46 := Tryz.sizeOf221
  v46 := Tryz.zeroValue221
  t53 := Tryz.underlying211
  a53 := Tryz.isAgg211
  z53 := Tryz.sizeOf211
  v53 := Tryz.zeroValue211 }
theorem Tryz.bits_Len64 (x : Int) (w : World) (h0 : 0 ≤ x) (h1 : x ≤ 18446744073709551615) :
    Calls Tryz.prog 236 #[.int .u64 x] w fun e w' => e = .returned (.int .i64 (Lib.bitLen x.toNat)) ∧ w' = w := Any.bits_Len64 Tryz.lays129 x w h0 h1
def Tryz.lays264_ren : Go.Shelf.Ren := ⟨fun | 264 => 212 | n => n, fun | 53 => 211 | 46 => 221 | n => n, fun | n => n⟩
theorem Tryz.lays264 : Go.Proofs.Lays.n264 Tryz.prog Tryz.lays264_ren := {
  mixed := by kernel_rfl
  f264 := Tryz.func212.trans (congrArg some (by kernel_rfl))
  t46 := Tryz.underlying221
  a46 := Tryz.isAgg221
  z46 := Tryz.sizeOf221
  v46 := Tryz.zeroValue221
  t53 := Tryz.underlying211
  a53 := Tryz.isAgg211
  z53 := Tryz.sizeOf211
  v53 := Tryz.zeroValue211 }
open Go.RowKit Go.Lib in
theorem Tryz.bits_Mul64 (x y : Nat) (hx : x < 18446744073709551616) (hy : y < 18446744073709551616) (w : World) :
    Calls Tryz.prog 212 #[.int .u64 x, .int .u64 y] w fun e w' => e = .returned (.tuple #[.int .u64 ((x * y / 18446744073709551616 : Nat) : Int), .int .u64 ((x * y % 18446744073709551616 : Nat) : Int)]) ∧ w' = w := Any.bits_Mul64 Tryz.lays264 x y hx hy w
end Go.Proofs
namespace Go.Proofs.YtbijhkhkigdddaaGreat
open Go.RowKit
theorem div64_low (lo y : Nat) (hl : lo < 18446744073709551616) (hy : 0 < y) (hy2 : y < 18446744073709551616) (w : World) :
  Calls Tryz.prog 231 #[.int .u64 0, .int .u64 lo, .int .u64 y] w fun e w' => e = .returned (.tuple #[.int .u64 ((lo / y : Nat) : Int), .int .u64 ((lo % y : Nat) : Int)]) ∧ Below w.heap.size w w' := by
 have hy' : (0 : Int) < (y : Int) := by omega
 have h1 : ((y : Int) == 0) = false := by simp; omega
 have h2 : ¬ ((y : Int) ≤ 0) := by omega
 go_enter Tryz.func231, Tryz.ntmps231
 go_wp2
 go_quiet (fail)
 go_wp2
 go_ret2
 have e1 : IntKind.u64.wrap ((lo : Int) / (y : Int)) = ((lo / y : Nat) : Int) := by
  rw [← Int.natCast_ediv]; exact Mul64.wrapN _ (by have := Nat.div_le_self lo y; omega)
 have e2 : (lo : Int) % (y : Int) = ((lo % y : Nat) : Int) := (Int.natCast_emod lo y).symm
 exact ⟨congrArg Ending.returned (congrArg Value.tuple (by show #[Value.int .u64 (IntKind.u64.wrap ((lo : Int) / (y : Int))), Value.int .u64 ((lo : Int) % (y : Int))] = _; rw [e1, e2])), below_drewN (Zb) _⟩
theorem lz64 (y : Nat) (hy : 0 < y) (hy2 : y < 18446744073709551616) : ∃ s : Nat, s ≤ 63 ∧ 9223372036854775808 ≤ y * 2 ^ s ∧ y * 2 ^ s < 18446744073709551616 ∧
  ∀ w : World, Calls Tryz.prog 234 #[.int .u64 y] w fun e w' => e = .returned (.int .i64 s) ∧ w = w' := by
 have hb := Lib.bitLenAux_bounds 64 y hy2 (by omega)
 have hle := Lib.bitLen_le y 64 (by omega) hy2
 change 1 ≤ Lib.bitLen y ∧ 2 ^ (Lib.bitLen y - 1) ≤ y ∧ y < 2 ^ Lib.bitLen y at hb
 have hc : ∀ w, Calls Tryz.prog 234 #[.int .u64 y] w fun e w' => e = .returned (.int .i64 (64 - (Lib.bitLen y : Int))) ∧ w' = w := fun w => Tryz.bits_LeadingZeros64 y w (by omega) (by omega)
 generalize Lib.bitLen y = b at *
 obtain ⟨b1, b2, b3⟩ := hb
 refine ⟨64 - b, by omega, ?_, ?_, fun w => (hc w).mono fun e w' ⟨he, hw⟩ => ⟨by rw [he]; congr 2; omega, hw.symm⟩⟩
 ·calc 9223372036854775808 = 2 ^ (b - 1) * 2 ^ (64 - b) := by rw [← Nat.pow_add, show b - 1 + (64 - b) = 63 from by omega]
   _ ≤ y * 2 ^ (64 - b) := Nat.mul_le_mul_right _ b2
 ·calc y * 2 ^ (64 - b) < 2 ^ b * 2 ^ (64 - b) := Nat.mul_lt_mul_of_pos_right b3 (Nat.two_pow_pos _)
   _ = 18446744073709551616 := by rw [← Nat.pow_add, show b + (64 - b) = 64 from by omega]
theorem mul_name (a c : Nat) (hc : c < 4294967296) : ∃ m : Nat, Hid (m = a * c ∧ (a < 4294967296 → IntKind.u64.wrap (↑a * ↑c) = (m : Int))) := by
 refine ⟨a * c, rfl, fun ha => ?_⟩
 have hle : a * c ≤ 4294967296 * c := Nat.mul_le_mul_right _ (by omega)
 rw [← Int.natCast_mul]
 exact Mul64.wrapN _ (by omega)
theorem digit {Y yn1 yn0 u un Q a b m c : Nat} (HY : Hid (Y = yn1 * 4294967296 + yn0)) (hu : u < Y) (h1 : un < 4294967296) (h0 : yn0 < 4294967296) (HQ : Hid (Q = (u * 4294967296 + un) / Y)) (hc : Hid (c = b + yn1))
  (hm : Hid (m = a * yn0 ∧ (a < 4294967296 → IntKind.u64.wrap (↑a * ↑yn0) = (m : Int)))) (hK : Hid (KnuthDiv.Keeps Y yn1 u un a b ∧ a ≤ 4294967297 ∧ b < 4294967296 ∧ (a ≤ 4294967296 ∨ b < yn1))) :
  (¬ ((4294967296 : Int) ≤ c) ∧ (4294967296 : Int) ≤ a ∧ Hid (1 ≤ a ∧ KnuthDiv.Keeps Y yn1 u un (a - 1) c ∧ a - 1 ≤ 4294967297 ∧ c < 4294967296 ∧ (a - 1 ≤ 4294967296 ∨ c < yn1))) ∨
  (¬ ((4294967296 : Int) ≤ c) ∧ ¬ ((4294967296 : Int) ≤ a) ∧ IntKind.u64.wrap (↑a * ↑yn0) = (m : Int) ∧ (4294967296 : Int) * b + un < m ∧ Hid (1 ≤ a ∧ KnuthDiv.Keeps Y yn1 u un (a - 1) c ∧ a - 1 ≤ 4294967297 ∧ c < 4294967296 ∧ (a - 1 ≤ 4294967296 ∨ c < yn1))) ∨
  ((4294967296 : Int) ≤ (c : Int) ∧ (4294967296 : Int) ≤ a ∧ (a : Int) - 1 = Q ∧ 1 ≤ (a : Int)) ∨
  ((4294967296 : Int) ≤ (c : Int) ∧ ¬ ((4294967296 : Int) ≤ a) ∧ IntKind.u64.wrap (↑a * ↑yn0) = (m : Int) ∧ (4294967296 : Int) * b + un < m ∧ (a : Int) - 1 = Q ∧ 1 ≤ (a : Int)) ∨
  (¬ ((4294967296 : Int) ≤ a) ∧ IntKind.u64.wrap (↑a * ↑yn0) = (m : Int) ∧ ¬ ((4294967296 : Int) * b + un < m) ∧ a = Q) := by
 obtain ⟨k, ka, kb, kab⟩ := hK.out
 obtain ⟨hm0, hm1⟩ := hm.out
 have hc' := hc.out
 by_cases hbig : 4294967296 ≤ a
 ·have k' := KnuthDiv.round_big k hu h1 hbig
  rw [← hc'] at k'
  by_cases hr : c < 4294967296
  ·exact .inl ⟨by omega, by omega, by omega, k', by omega, by omega, by omega⟩
  ·refine .inr (.inr (.inl ⟨by omega, by omega, ?_, by omega⟩))
   have e := KnuthDiv.end_rest HY.out h0 k' hu (by omega) (by omega)
   rw [HQ.out]; omega
 ·have hm2 := hm1 (by omega)
  by_cases ht : 4294967296 * b + un < m
  ·have hmm : 4294967296 * b + un < a * yn0 := by omega
   have hp : 1 ≤ a := by
    rcases Nat.eq_zero_or_pos a with h | h
    ·subst h; omega
    ·exact h
   have k' := KnuthDiv.round_gt HY.out k hu hmm
   rw [← hc'] at k'
   by_cases hr : c < 4294967296
   ·exact .inr (.inl ⟨by omega, by omega, hm2, by omega, hp, k', by omega, by omega, by omega⟩)
   ·refine .inr (.inr (.inr (.inl ⟨by omega, by omega, hm2, by omega, ?_, by omega⟩)))
    have e := KnuthDiv.end_rest HY.out h0 k' hu (by omega) (by omega)
    rw [HQ.out]; omega
  ·refine .inr (.inr (.inr (.inr ⟨by omega, hm2, by omega, ?_⟩)))
   rw [HQ.out]
   exact KnuthDiv.end_test HY.out k hu (by omega)
theorem div64_core (hi lo y s Y yn1 yn0 u32 u10 un1 un0 q1 p1 r1 Q v q0 p0 r0 Q0 rr : Nat) (hh : 0 < hi) (hhy : hi < y) (hs : s ≤ 63)
  (hlz : Hid (∀ w : World, Calls Tryz.prog 234 #[.int .u64 y] w fun e w' => e = .returned (.int .i64 s) ∧ w = w'))
  (hY : IntKind.u64.wrap (↑y * 2 ^ s) = (Y : Int)) (hyn1 : (Y : Int) / 4294967296 = (yn1 : Int)) (hyn1p : 0 < (yn1 : Int)) (hyn0 : bits .and .u64 (Y : Int) 4294967295 = (yn0 : Int))
  (hu32 : bits .or .u64 (IntKind.u64.wrap (↑hi * 2 ^ s)) (↑lo / 2 ^ (64 - s)) = (u32 : Int)) (hu10 : IntKind.u64.wrap (↑lo * 2 ^ s) = (u10 : Int))
  (hun1 : (u10 : Int) / 4294967296 = un1) (hun0 : bits .and .u64 (u10 : Int) 4294967295 = (un0 : Int))
  (hq1 : (u32 : Int) / (yn1 : Int) = q1) (hp1 : IntKind.u64.wrap (↑q1 * ↑yn1) = (p1 : Int)) (hr1 : (u32 : Int) - (p1 : Int) = (r1 : Int))
  (hv : IntKind.u64.wrap (IntKind.u64.wrap (IntKind.u64.wrap (↑u32 * 4294967296) + ↑un1) - IntKind.u64.wrap (↑Q * ↑Y)) = (v : Int))
  (hq0 : (v : Int) / (yn1 : Int) = q0) (hp0 : IntKind.u64.wrap (↑q0 * ↑yn1) = (p0 : Int)) (hr0 : (v : Int) - (p0 : Int) = (r0 : Int))
  (hrr : IntKind.u64.wrap (IntKind.u64.wrap (IntKind.u64.wrap (↑v * 4294967296) + ↑un0) - IntKind.u64.wrap (↑Q0 * ↑Y)) = (rr : Int))
  (hyn1b : yn1 < 4294967296) (hyn0b : yn0 < 4294967296) (hun1b : un1 < 4294967296) (hun0b : un0 < 4294967296) (hu32b : u32 < Y) (hYb : Y < 18446744073709551616) (hvb : v < Y)
  (_hp1b : p1 ≤ u32) (_hp0b : p0 ≤ v) (hq1b : q1 ≤ 4294967297) (hq0b : q0 ≤ 4294967297) (hr1b : r1 < yn1) (hr0b : r0 < yn1) (hQb : Q < 4294967296) (hQ0b : Q0 < 4294967296)
  (HY : Hid (Y = yn1 * 4294967296 + yn0)) (K1 : Hid (KnuthDiv.Keeps Y yn1 u32 un1 q1 r1)) (K0 : Hid (KnuthDiv.Keeps Y yn1 v un0 q0 r0))
  (HQ : Hid (Q = (u32 * 4294967296 + un1) / Y)) (HQ0 : Hid (Q0 = (v * 4294967296 + un0) / Y)) (w : World) :
  Calls Tryz.prog 231 #[.int .u64 hi, .int .u64 lo, .int .u64 y] w fun e w' => e = .returned (.tuple #[.int .u64 ((Q : Int) * 4294967296 + (Q0 : Int)), .int .u64 ((rr : Int) / 2 ^ s)]) ∧ w = w' := by
 have hy' : (0 : Int) < (y : Int) := by omega
 have h1 : ((y : Int) == 0) = false := by simp; omega
 have h2 : ¬ ((y : Int) ≤ (hi : Int)) := by omega
 have h3 : ((hi : Int) == 0) = false := by simp; omega
 have hm : min s 64 = s := by omega
 have hz : ((yn1 : Int) = 0) = False := by simp; omega
 go_enter Tryz.func231, Tryz.ntmps231
 go_wp2_with (go_at_call 234; refine (hlz.out _).mono ?_; rintro e w' ⟨rfl, rfl⟩)
 go_loop [15, 16] (fun q r => ∃ a b : Nat, q = .int .u64 a ∧ r = .int .u64 b ∧ Hid (KnuthDiv.Keeps Y yn1 u32 un1 a b ∧ a ≤ 4294967297 ∧ b < 4294967296 ∧ (a ≤ 4294967296 ∨ b < yn1))) (fun q _ => (intOf q).toNat)
 case atStart => exact ⟨q1, r1, rfl, rfl, K1.out, by omega, by omega, by omega⟩
 case round =>
  clear K1
  obtain ⟨a, b, rfl, rfl, hK⟩ := hrel
  obtain ⟨m, hm1⟩ := mul_name a yn0 hyn0b
  have ha' : (a : Int) ≤ 4294967297 := by have := hK.out; omega
  have hb' : (b : Int) < 4294967296 := by have := hK.out; omega
  obtain ⟨c, hc, hc0⟩ : ∃ c : Nat, (b : Int) + (yn1 : Int) = (c : Int) ∧ Hid (c = b + yn1) := ⟨b + yn1, by omega, rfl⟩
  have hst := digit HY hu32b hun1b hyn0b HQ hc0 hm1 hK
  clear hm1
  rcases hst with ⟨hr, hbig, hn⟩ | ⟨hr, hbig, hm2, ht, hn⟩ | ⟨hr, hbig, hq, ha1⟩ | ⟨hr, hbig, hm2, ht, hq, ha1⟩ | ⟨hbig, hm2, ht, hq⟩
  ·go_wp2
   go_round
   case rel => exact ⟨a - 1, c, by congr 1; omega, rfl, hn.out.2⟩
   case measure => simp [intOf]; omega
  ·have hn1 : (1 : Int) ≤ (a : Int) := by have := hn.out.1; omega
   go_wp2
   go_round
   case rel => exact ⟨a - 1, c, by congr 1; omega, rfl, hn.out.2⟩
   case measure => simp [intOf]; omega
  ·go_wp2
   clear hr hbig hq ha1 ha' hb' hc hc0 hK
   go_loop [18, 16] (fun q r => ∃ a b : Nat, q = .int .u64 a ∧ r = .int .u64 b ∧ Hid (KnuthDiv.Keeps Y yn1 v un0 a b ∧ a ≤ 4294967297 ∧ b < 4294967296 ∧ (a ≤ 4294967296 ∨ b < yn1))) (fun q _ => (intOf q).toNat)
   case atStart => exact ⟨q0, r0, rfl, rfl, K0.out, by omega, by omega, by omega⟩
   case round =>
    clear K0
    obtain ⟨a', b', rfl, rfl, hK⟩ := hrel
    obtain ⟨m', hm1⟩ := mul_name a' yn0 hyn0b
    have ha' : (a' : Int) ≤ 4294967297 := by have := hK.out; omega
    have hb' : (b' : Int) < 4294967296 := by have := hK.out; omega
    obtain ⟨c', hc', hc0⟩ : ∃ c : Nat, (b' : Int) + (yn1 : Int) = (c : Int) ∧ Hid (c = b' + yn1) := ⟨b' + yn1, by omega, rfl⟩
    have hst := digit HY hvb hun0b hyn0b HQ0 hc0 hm1 hK
    clear hm1
    rcases hst with ⟨hr, hbig, hn⟩ | ⟨hr, hbig, hm2, ht, hn⟩ | ⟨hr, hbig, hq, ha1⟩ | ⟨hr, hbig, hm2, ht, hq, ha1⟩ | ⟨hbig, hm2, ht, hq⟩
    ·go_wp2
     go_round
     case rel => exact ⟨a' - 1, c', by congr 1; omega, rfl, hn.out.2⟩
     case measure => simp [intOf]; omega
    ·have hn1 : (1 : Int) ≤ (a' : Int) := by have := hn.out.1; omega
     go_wp2
     go_round
     case rel => exact ⟨a' - 1, c', by congr 1; omega, rfl, hn.out.2⟩
     case measure => simp [intOf]; omega
    ·go_wp2
     go_ret2
     exact ⟨rfl, rfl⟩
    ·go_wp2
     go_ret2
     exact ⟨rfl, rfl⟩
    ·obtain rfl := hq
     go_wp2
     go_ret2
     exact ⟨rfl, rfl⟩
  ·go_wp2
   clear hr hbig hm2 ht hq ha1 ha' hb' hc hc0 hK
   go_loop [18, 16] (fun q r => ∃ a b : Nat, q = .int .u64 a ∧ r = .int .u64 b ∧ Hid (KnuthDiv.Keeps Y yn1 v un0 a b ∧ a ≤ 4294967297 ∧ b < 4294967296 ∧ (a ≤ 4294967296 ∨ b < yn1))) (fun q _ => (intOf q).toNat)
   case atStart => exact ⟨q0, r0, rfl, rfl, K0.out, by omega, by omega, by omega⟩
   case round =>
    clear K0
    obtain ⟨a', b', rfl, rfl, hK⟩ := hrel
    obtain ⟨m', hm1⟩ := mul_name a' yn0 hyn0b
    have ha' : (a' : Int) ≤ 4294967297 := by have := hK.out; omega
    have hb' : (b' : Int) < 4294967296 := by have := hK.out; omega
    obtain ⟨c', hc', hc0⟩ : ∃ c : Nat, (b' : Int) + (yn1 : Int) = (c : Int) ∧ Hid (c = b' + yn1) := ⟨b' + yn1, by omega, rfl⟩
    have hst := digit HY hvb hun0b hyn0b HQ0 hc0 hm1 hK
    clear hm1
    rcases hst with ⟨hr, hbig, hn⟩ | ⟨hr, hbig, hm2, ht, hn⟩ | ⟨hr, hbig, hq, ha1⟩ | ⟨hr, hbig, hm2, ht, hq, ha1⟩ | ⟨hbig, hm2, ht, hq⟩
    ·go_wp2
     go_round
     case rel => exact ⟨a' - 1, c', by congr 1; omega, rfl, hn.out.2⟩
     case measure => simp [intOf]; omega
    ·have hn1 : (1 : Int) ≤ (a' : Int) := by have := hn.out.1; omega
     go_wp2
     go_round
     case rel => exact ⟨a' - 1, c', by congr 1; omega, rfl, hn.out.2⟩
     case measure => simp [intOf]; omega
    ·go_wp2
     go_ret2
     exact ⟨rfl, rfl⟩
    ·go_wp2
     go_ret2
     exact ⟨rfl, rfl⟩
    ·obtain rfl := hq
     go_wp2
     go_ret2
     exact ⟨rfl, rfl⟩
  ·obtain rfl := hq
   go_wp2
   clear hbig hm2 ht ha' hb' hc hc0 hK
   go_loop [18, 16] (fun q r => ∃ a b : Nat, q = .int .u64 a ∧ r = .int .u64 b ∧ Hid (KnuthDiv.Keeps Y yn1 v un0 a b ∧ a ≤ 4294967297 ∧ b < 4294967296 ∧ (a ≤ 4294967296 ∨ b < yn1))) (fun q _ => (intOf q).toNat)
   case atStart => exact ⟨q0, r0, rfl, rfl, K0.out, by omega, by omega, by omega⟩
   case round =>
    clear K0
    obtain ⟨a', b', rfl, rfl, hK⟩ := hrel
    obtain ⟨m', hm1⟩ := mul_name a' yn0 hyn0b
    have ha' : (a' : Int) ≤ 4294967297 := by have := hK.out; omega
    have hb' : (b' : Int) < 4294967296 := by have := hK.out; omega
    obtain ⟨c', hc', hc0⟩ : ∃ c : Nat, (b' : Int) + (yn1 : Int) = (c : Int) ∧ Hid (c = b' + yn1) := ⟨b' + yn1, by omega, rfl⟩
    have hst := digit HY hvb hun0b hyn0b HQ0 hc0 hm1 hK
    clear hm1
    rcases hst with ⟨hr, hbig, hn⟩ | ⟨hr, hbig, hm2, ht, hn⟩ | ⟨hr, hbig, hq, ha1⟩ | ⟨hr, hbig, hm2, ht, hq, ha1⟩ | ⟨hbig, hm2, ht, hq⟩
    ·go_wp2
     go_round
     case rel => exact ⟨a' - 1, c', by congr 1; omega, rfl, hn.out.2⟩
     case measure => simp [intOf]; omega
    ·have hn1 : (1 : Int) ≤ (a' : Int) := by have := hn.out.1; omega
     go_wp2
     go_round
     case rel => exact ⟨a' - 1, c', by congr 1; omega, rfl, hn.out.2⟩
     case measure => simp [intOf]; omega
    ·go_wp2
     go_ret2
     exact ⟨rfl, rfl⟩
    ·go_wp2
     go_ret2
     exact ⟨rfl, rfl⟩
    ·obtain rfl := hq
     go_wp2
     go_ret2
     exact ⟨rfl, rfl⟩
theorem wrap_rest (u un p v : Nat) (hv : v = u * 4294967296 + un - p) (hp : p ≤ u * 4294967296 + un) (hb : v < 18446744073709551616) :
  IntKind.u64.wrap (IntKind.u64.wrap (IntKind.u64.wrap (↑u * 4294967296) + ↑un) - IntKind.u64.wrap (p : Int)) = (v : Int) := by
 simp only [IntKind.wrap_u64]; omega
theorem or_name (hi lo s : Nat) (hs : s ≤ 63) (hl : lo < 18446744073709551616) (hh : hi * 2 ^ s < 18446744073709551616) :
  bits .or .u64 (IntKind.u64.wrap (↑hi * 2 ^ s)) (↑lo / 2 ^ (64 - s)) = ((hi * 2 ^ s + lo / 2 ^ (64 - s) : Nat) : Int) := by
 have e1 : ((hi : Int) * 2 ^ s) = ((hi * 2 ^ s : Nat) : Int) := by simp
 have e2 : ((lo : Int) / 2 ^ (64 - s)) = ((lo / 2 ^ (64 - s) : Nat) : Int) := by simp
 rw [e1, e2, Mul64.wrapN _ hh]
 have hlt : lo / 2 ^ (64 - s) < 2 ^ s := by
  rw [Nat.div_lt_iff_lt_mul (Nat.two_pow_pos _), ← Nat.pow_add, show s + (64 - s) = 64 from by omega]
  exact hl
 have hle : lo / 2 ^ (64 - s) ≤ lo := Nat.div_le_self _ _
 have h := bits_or_u64_nat (hi * 2 ^ s) (lo / 2 ^ (64 - s)) hh (by omega)
 rw [h, Nat.mul_comm hi, ← Nat.two_pow_add_eq_or_of_lt hlt]
theorem shl_split (lo s : Nat) (hs : s ≤ 63) : lo * 2 ^ s = lo / 2 ^ (64 - s) * 18446744073709551616 + lo * 2 ^ s % 18446744073709551616 := by
 have h : lo * 2 ^ s / 18446744073709551616 = lo / 2 ^ (64 - s) := by
  have e : 18446744073709551616 = 2 ^ (64 - s) * 2 ^ s := by rw [← Nat.pow_add, show 64 - s + s = 64 from by omega]
  rw [e]
  exact Nat.mul_div_mul_right _ _ (Nat.two_pow_pos _)
 have := Nat.div_add_mod (lo * 2 ^ s) 18446744073709551616
 rw [h] at this
 omega
theorem div64_high (hi lo y : Nat) (hh : 0 < hi) (hhy : hi < y) (hl : lo < 18446744073709551616) (hy2 : y < 18446744073709551616) (w : World) :
  Calls Tryz.prog 231 #[.int .u64 hi, .int .u64 lo, .int .u64 y] w fun e w' => e = .returned (.tuple #[.int .u64 (((hi * 18446744073709551616 + lo) / y : Nat) : Int), .int .u64 (((hi * 18446744073709551616 + lo) % y : Nat) : Int)]) ∧ w = w' := by
 obtain ⟨s, hs, hY1, hY2, hlz⟩ := lz64 y (by omega) hy2
 have hpos := Nat.two_pow_pos s
 generalize hY : y * 2 ^ s = Y at hY1 hY2
 have hhs : hi * 2 ^ s + 2 ^ s ≤ Y := by rw [← hY, ← Nat.succ_mul]; exact Nat.mul_le_mul_right _ hhy
 have hlo : lo / 2 ^ (64 - s) < 2 ^ s := by
  rw [Nat.div_lt_iff_lt_mul (Nat.two_pow_pos _), ← Nat.pow_add, show s + (64 - s) = 64 from by omega]
  exact hl
 have hsplit := shl_split lo s hs
 have hor := or_name hi lo s hs hl (by omega)
 have hN : (hi * 18446744073709551616 + lo) * 2 ^ s = hi * 2 ^ s * 18446744073709551616 + lo * 2 ^ s := by rw [Nat.add_mul, Nat.mul_right_comm]
 have hYw : IntKind.u64.wrap (↑y * 2 ^ s) = (Y : Int) := by
  have e : ((y : Int) * 2 ^ s) = ((y * 2 ^ s : Nat) : Int) := by simp
  rw [e, hY]; exact Mul64.wrapN _ hY2
 have h10 : IntKind.u64.wrap (↑lo * 2 ^ s) = ((lo * 2 ^ s % 18446744073709551616 : Nat) : Int) := by
  have e : ((lo : Int) * 2 ^ s) = ((lo * 2 ^ s : Nat) : Int) := by simp
  rw [e]; exact Mul64.wrapM _
 generalize hu10 : lo * 2 ^ s % 18446744073709551616 = u10 at *
 generalize hu32 : hi * 2 ^ s + lo / 2 ^ (64 - s) = u32 at *
 have hu32b : u32 < Y := by omega
 have hu10b : u10 < 18446744073709551616 := by omega
 have hNN : (hi * 18446744073709551616 + lo) * 2 ^ s = (u32 * 4294967296 + u10 / 4294967296) * 4294967296 + u10 % 4294967296 := by
  rw [hN, hsplit, ← hu32]
  omega
 have HY : Y = Y / 4294967296 * 4294967296 + Y % 4294967296 := by omega
 generalize hn1 : Y / 4294967296 = yn1 at *
 generalize hn0 : Y % 4294967296 = yn0 at *
 generalize hun1 : u10 / 4294967296 = un1 at *
 generalize hun0 : u10 % 4294967296 = un0 at *
 have hQb := KnuthDiv.quo_lt hu32b (by omega : un1 < 4294967296)
 have hU := Nat.div_mul_le_self (u32 * 4294967296 + un1) Y
 have hvm : u32 * 4294967296 + un1 - (u32 * 4294967296 + un1) / Y * Y < Y := by
  have := Nat.mod_lt (u32 * 4294967296 + un1) (show 0 < Y by omega)
  have e := Nat.div_add_mod (u32 * 4294967296 + un1) Y
  rw [Nat.mul_comm] at e
  omega
 obtain ⟨Q, hQ⟩ : ∃ Q, Q = (u32 * 4294967296 + un1) / Y := ⟨_, rfl⟩
 rw [← hQ] at hQb hU hvm
 obtain ⟨v, hv⟩ : ∃ v, v = u32 * 4294967296 + un1 - Q * Y := ⟨_, rfl⟩
 rw [← hv] at hvm
 have hQ0b := KnuthDiv.quo_lt hvm (by omega : un0 < 4294967296)
 have hU0 := Nat.div_mul_le_self (v * 4294967296 + un0) Y
 have hrm : v * 4294967296 + un0 - (v * 4294967296 + un0) / Y * Y < Y := by
  have := Nat.mod_lt (v * 4294967296 + un0) (show 0 < Y by omega)
  have e := Nat.div_add_mod (v * 4294967296 + un0) Y
  rw [Nat.mul_comm] at e
  omega
 obtain ⟨Q0, hQ0⟩ : ∃ Q0, Q0 = (v * 4294967296 + un0) / Y := ⟨_, rfl⟩
 rw [← hQ0] at hQ0b hU0 hrm
 obtain ⟨f1, f2⟩ := KnuthDiv.whole (by omega : 0 < y) hpos hY.symm hNN hQ hv hQ0
 have K1 := KnuthDiv.start (u := u32) HY (by omega) (by omega : un1 < 4294967296)
 have K0 := KnuthDiv.start (u := v) HY (by omega) (by omega : un0 < 4294967296)
 have hq1b := KnuthDiv.first_le HY (by omega) (by omega) hu32b
 have hq0b := KnuthDiv.first_le HY (by omega) (by omega) hvm
 have hp1 : u32 / yn1 * yn1 ≤ u32 := Nat.div_mul_le_self _ _
 have hp0 : v / yn1 * yn1 ≤ v := Nat.div_mul_le_self _ _
 have hm1 := Nat.mod_lt u32 (show 0 < yn1 by omega)
 have hm0 := Nat.mod_lt v (show 0 < yn1 by omega)
 have e1 := Nat.div_add_mod u32 yn1
 have e0 := Nat.div_add_mod v yn1
 rw [Nat.mul_comm] at e1 e0
 rw [f1, ← f2]
 have e3 : (((v * 4294967296 + un0 - Q0 * Y) / 2 ^ s : Nat) : Int) = ((v * 4294967296 + un0 - Q0 * Y : Nat) : Int) / 2 ^ s := by simp
 rw [e3, Int.natCast_add, Int.natCast_mul]
 refine div64_core hi lo y s Y yn1 yn0 u32 u10 un1 un0 (u32 / yn1) (u32 / yn1 * yn1) (u32 % yn1) Q v (v / yn1) (v / yn1 * yn1) (v % yn1) Q0 (v * 4294967296 + un0 - Q0 * Y) hh hhy hs hlz hYw (by omega) (by omega) ?_ hor h10 (by omega) ?_ (by simp) ?_ (by omega) ?_ (by simp) ?_ (by omega) ?_
  (by omega) (by omega) (by omega) (by omega) hu32b hY2 hvm hp1 hp0 hq1b hq0b hm1 hm0 hQb hQ0b HY K1 K0 hQ hQ0 w
 ·rw [Mul64.maskN Y hY2, hn0]
 ·rw [Mul64.maskN u10 hu10b, hun0]
 ·rw [← Int.natCast_mul]; exact Mul64.wrapN _ (by omega)
 ·rw [← Int.natCast_mul]; exact wrap_rest u32 un1 (Q * Y) v hv hU (by omega)
 ·rw [← Int.natCast_mul]; exact Mul64.wrapN _ (by omega)
 ·rw [← Int.natCast_mul]; exact wrap_rest v un0 (Q0 * Y) _ rfl hU0 (by omega)
theorem div64 (hi lo y : Nat) (hhy : hi < y) (hl : lo < 18446744073709551616) (hy2 : y < 18446744073709551616) (w : World) :
  Calls Tryz.prog 231 #[.int .u64 hi, .int .u64 lo, .int .u64 y] w fun e w' => e = .returned (.tuple #[.int .u64 (((hi * 18446744073709551616 + lo) / y : Nat) : Int), .int .u64 (((hi * 18446744073709551616 + lo) % y : Nat) : Int)]) ∧ Below w.heap.size w w' := by
 rcases Nat.eq_zero_or_pos hi with h | h
 ·subst h
  rw [Nat.zero_mul, Nat.zero_add]
  exact div64_low lo y hl hhy hy2 w
 ·refine (div64_high hi lo y h hhy hl hy2 w).mono ?_
  rintro e w' ⟨rfl, rfl⟩
  exact ⟨rfl, Below.refl _ _⟩
def inB (a : Int) : Bool := decide (-4611686018427387904 ≤ a ∧ a ≤ 4611686018427387904)
theorem inB_iff (a : Int) : inB a = true ↔ -4611686018427387904 ≤ a ∧ a ≤ 4611686018427387904 := by simp [inB]
theorem inB_not (a : Int) : inB a = false ↔ ¬ (-4611686018427387904 ≤ a ∧ a ≤ 4611686018427387904) := by simp only [inB, decide_eq_false_iff_not]
theorem in_any (a : Int) (w : World) :
  Calls Tryz.prog 230 #[a] w fun e w' => e = .returned (.bool (inB a)) ∧ w = w' := by
 by_cases h1 : -4611686018427387904 ≤ a
 ·by_cases h2 : a ≤ 4611686018427387904
  ·have e : inB a = true := by rw [inB_iff]; omega
   rw [e]; clear e
   go_enter Tryz.func230, Tryz.ntmps230
   go_wp2
   go_ret
   exact ⟨rfl, rfl⟩
  ·have e : inB a = false := by rw [inB_not]; omega
   rw [e]; clear e
   go_enter Tryz.func230, Tryz.ntmps230
   go_wp2
   go_ret
   exact ⟨rfl, rfl⟩
 ·have e : inB a = false := by rw [inB_not]; omega
  rw [e]; clear e
  go_enter Tryz.func230, Tryz.ntmps230
  go_wp2
  go_ret
  exact ⟨rfl, rfl⟩
theorem in_yes (a : Int) (w : World) (h : inB a = true) :
  Calls Tryz.prog 230 #[a] w fun e w' => e = .returned (.bool true) ∧ w = w' := by
 have := in_any a w; rw [h] at this; exact this
theorem in_no (a : Int) (w : World) (h : inB a = false) :
  Calls Tryz.prog 230 #[a] w fun e w' => e = .returned (.bool false) ∧ w = w' := by
 have := in_any a w; rw [h] at this; exact this
theorem mag_any (a : Int) (w : World) (h1 : -4611686018427387904 ≤ a) (h2 : a ≤ 4611686018427387904) :
  Calls Tryz.prog 213 #[a] w fun e w' => e = .returned (.int .u64 (a.natAbs : Int)) ∧ w = w' := by
 by_cases h : a < 0
 ·have e : ((a.natAbs : Nat) : Int) = -a := by omega
  rw [e]; clear e
  go_enter Tryz.func213, Tryz.ntmps213
  go_wp2
  go_ret
  exact ⟨rfl, rfl⟩
 ·have e : ((a.natAbs : Nat) : Int) = a := by omega
  rw [e]; clear e
  go_enter Tryz.func213, Tryz.ntmps213
  go_wp2
  go_ret
  exact ⟨rfl, rfl⟩
def quoR (N c : Nat) (neg : Bool) : Int × Bool :=
 if 4611686018427387904 < N / c then (0, false) else if neg then (-(((N / c + (if 0 < N % c then 1 else 0) : Nat)) : Int), true) else ((N / c : Nat), true)
theorem quo_big (hi lo c : Nat) (neg : Bool) (w : World) (hl : lo < 18446744073709551616) (hcb : c < 18446744073709551616)
  (hN : 4611686018427387904 < (hi * 18446744073709551616 + lo) / c) :
  Calls Tryz.prog 214 #[.int .u64 hi, .int .u64 lo, .int .u64 c, neg] w fun e w' => e = .returned (.tuple #[.int .i64 0, .bool false]) ∧ Below w.heap.size w w' := by
 by_cases h : hi < c
 ·have hn : ¬ ((c : Int) ≤ (hi : Int)) := by omega
  obtain ⟨q, hq⟩ : ∃ q, q = (hi * 18446744073709551616 + lo) / c := ⟨_, rfl⟩
  have hd := div64 hi lo c h hl hcb
  rw [← hq] at hN hd
  have hqq : ((4611686018427387904 : Int) < (q : Int)) := by omega
  have H := Zh hd; clear hd hq hN
  go_enter Tryz.func214, Tryz.ntmps214
  go_wp2_with (go_at_call 231; refine (H.out _).mono ?_; rintro e w' ⟨rfl, hb⟩)
  go_ret2
  exact ⟨rfl, hb⟩
 ·have hn : ((c : Int) ≤ (hi : Int)) := by omega
  clear hN
  go_enter Tryz.func214, Tryz.ntmps214
  go_wp2
  go_ret2
  exact ⟨rfl, Below.refl _ _⟩
theorem quo_pos (hi lo c : Nat) (w : World) (hc : 0 < c) (hl : lo < 18446744073709551616) (hcb : c < 18446744073709551616)
  (hN : (hi * 18446744073709551616 + lo) / c ≤ 4611686018427387904) :
  Calls Tryz.prog 214 #[.int .u64 hi, .int .u64 lo, .int .u64 c, .bool false] w fun e w' => e = .returned (.tuple #[.int .i64 (((hi * 18446744073709551616 + lo) / c : Nat) : Int), .bool true]) ∧ Below w.heap.size w w' := by
 have h : hi < c := by
  have h1 := Nat.div_add_mod (hi * 18446744073709551616 + lo) c
  have h2 := Nat.mod_lt (hi * 18446744073709551616 + lo) hc
  have h3 : c * ((hi * 18446744073709551616 + lo) / c) ≤ c * 4611686018427387904 := Nat.mul_le_mul_left _ hN
  omega
 have hn : ¬ ((c : Int) ≤ (hi : Int)) := by omega
 obtain ⟨q, hq⟩ : ∃ q, q = (hi * 18446744073709551616 + lo) / c := ⟨_, rfl⟩
 have hd := div64 hi lo c h hl hcb
 rw [← hq] at hN hd ⊢
 have hqq : ¬ ((4611686018427387904 : Int) < (q : Int)) := by omega
 have H := Zh hd; clear hd hq
 go_enter Tryz.func214, Tryz.ntmps214
 go_wp2_with (go_at_call 231; refine (H.out _).mono ?_; rintro e w' ⟨rfl, hb⟩)
 go_ret2
 exact ⟨rfl, hb⟩
theorem quo_neg (hi lo c : Nat) (w : World) (hc : 0 < c) (hl : lo < 18446744073709551616) (hcb : c < 18446744073709551616)
  (hN : (hi * 18446744073709551616 + lo) / c ≤ 4611686018427387904) :
  Calls Tryz.prog 214 #[.int .u64 hi, .int .u64 lo, .int .u64 c, .bool true] w fun e w' => e = .returned (.tuple #[.int .i64 (-(((hi * 18446744073709551616 + lo) / c + (if 0 < (hi * 18446744073709551616 + lo) % c then 1 else 0) : Nat) : Int)), .bool true]) ∧ Below w.heap.size w w' := by
 have h : hi < c := by
  have h1 := Nat.div_add_mod (hi * 18446744073709551616 + lo) c
  have h2 := Nat.mod_lt (hi * 18446744073709551616 + lo) hc
  have h3 : c * ((hi * 18446744073709551616 + lo) / c) ≤ c * 4611686018427387904 := Nat.mul_le_mul_left _ hN
  omega
 have hn : ¬ ((c : Int) ≤ (hi : Int)) := by omega
 obtain ⟨q, hq⟩ : ∃ q, q = (hi * 18446744073709551616 + lo) / c := ⟨_, rfl⟩
 obtain ⟨r, hr⟩ : ∃ r, r = (hi * 18446744073709551616 + lo) % c := ⟨_, rfl⟩
 have hd := div64 hi lo c h hl hcb
 rw [← hq] at hN hd ⊢
 rw [← hr] at hd ⊢
 have hqq : ¬ ((4611686018427387904 : Int) < (q : Int)) := by omega
 have H := Zh hd; clear hd hq hr
 by_cases hz : 0 < r
 ·have hz1 : (0 : Int) < (r : Int) := by omega
  have e : (-((q + (if 0 < r then 1 else 0) : Nat) : Int)) = -((q : Int) + 1) := by rw [if_pos hz]; omega
  rw [e]; clear e hz
  go_enter Tryz.func214, Tryz.ntmps214
  go_wp2_with (go_at_call 231; refine (H.out _).mono ?_; rintro e w' ⟨rfl, hb⟩)
  go_ret2
  exact ⟨rfl, hb⟩
 ·have hz1 : ¬ ((0 : Int) < (r : Int)) := by omega
  have e : (-((q + (if 0 < r then 1 else 0) : Nat) : Int)) = -(q : Int) := by rw [if_neg hz]; omega
  rw [e]; clear e hz
  go_enter Tryz.func214, Tryz.ntmps214
  go_wp2_with (go_at_call 231; refine (H.out _).mono ?_; rintro e w' ⟨rfl, hb⟩)
  go_ret2
  exact ⟨rfl, hb⟩
end Go.Proofs.YtbijhkhkigdddaaGreat
