/- math/bits.Div64, by its own Go text: for hi < y it returns the quotient and the rest of hi * 2^64 + lo by y; what was in memory stays as it was. Condition: hi < y (beyond it the call panics). -/
import Derived.Test.YtmclffbjdkoneaaProg
import Derived.Test.YtmclffbjdkoneaaShelf
import Derived.Test.YtmclffbjdkoneaaKnuth
import Derived.WalkKit
import Derived.WalkSpells
import Derived.Laws.Bits64b
import Derived.Lib.Mul64
import Derived.Lib.ItoaNum
import Derived.Deep.QuietTactic
import Derived.BigQuiet
import Derived.WalkSmall
import Derived.Lib.Hide
namespace Go.Proofs.Ytmclffbjdkoneaa
open Go.RowKit

set_option maxHeartbeats 1000000 in
theorem div64_low (lo y : Nat) (hl : lo < 18446744073709551616) (hy : 0 < y) (hy2 : y < 18446744073709551616) (w : World) :
    Calls Try.prog 33 #[.int .u64 0, .int .u64 lo, .int .u64 y] w fun e w' => e = .returned (.tuple #[.int .u64 ((lo / y : Nat) : Int), .int .u64 ((lo % y : Nat) : Int)]) ∧ Below w.heap.size w w' := by
  have hy' : (0 : Int) < (y : Int) := by omega
  have h1 : ((y : Int) == 0) = false := by simp; omega
  have h2 : ¬ ((y : Int) ≤ 0) := by omega
  go_enter Try.func33, Try.ntmps33
  go_wp2
  go_quiet (fail)
  go_wp2
  go_ret2
  have e1 : IntKind.u64.wrap ((lo : Int) / (y : Int)) = ((lo / y : Nat) : Int) := by
    rw [← Int.natCast_ediv]; exact Mul64.wrapN _ (by have := Nat.div_le_self lo y; omega)
  have e2 : (lo : Int) % (y : Int) = ((lo % y : Nat) : Int) := (Int.natCast_emod lo y).symm
  exact ⟨congrArg Ending.returned (congrArg Value.tuple (by show #[Value.int .u64 (IntKind.u64.wrap ((lo : Int) / (y : Int))), Value.int .u64 ((lo : Int) % (y : Int))] = _; rw [e1, e2])), below_drewN (Below.refl _ _) _⟩

theorem lz64 (y : Nat) (hy : 0 < y) (hy2 : y < 18446744073709551616) : ∃ s : Nat, s ≤ 63 ∧ 9223372036854775808 ≤ y * 2 ^ s ∧ y * 2 ^ s < 18446744073709551616 ∧
    ∀ w : World, Calls Try.prog 34 #[.int .u64 y] w fun e w' => e = .returned (.int .i64 s) ∧ w = w' := by
  have hb := Lib.bitLenAux_bounds 64 y hy2 (by omega)
  have hle := Lib.bitLen_le y 64 (by omega) hy2
  change 1 ≤ Lib.bitLen y ∧ 2 ^ (Lib.bitLen y - 1) ≤ y ∧ y < 2 ^ Lib.bitLen y at hb
  have hc : ∀ w, Calls Try.prog 34 #[.int .u64 y] w fun e w' => e = .returned (.int .i64 (64 - (Lib.bitLen y : Int))) ∧ w' = w := fun w => Try.bits_LeadingZeros64 y w (by omega) (by omega)
  generalize Lib.bitLen y = b at *
  obtain ⟨b1, b2, b3⟩ := hb
  refine ⟨64 - b, by omega, ?_, ?_, fun w => (hc w).mono fun e w' ⟨he, hw⟩ => ⟨by rw [he]; congr 2; omega, hw.symm⟩⟩
  · calc 9223372036854775808 = 2 ^ (b - 1) * 2 ^ (64 - b) := by rw [← Nat.pow_add, show b - 1 + (64 - b) = 63 from by omega]
      _ ≤ y * 2 ^ (64 - b) := Nat.mul_le_mul_right _ b2
  · calc y * 2 ^ (64 - b) < 2 ^ b * 2 ^ (64 - b) := Nat.mul_lt_mul_of_pos_right b3 (Nat.two_pow_pos _)
      _ = 18446744073709551616 := by rw [← Nat.pow_add, show b + (64 - b) = 64 from by omega]

theorem mul_name (a c : Nat) (hc : c < 4294967296) : ∃ m : Nat, Hid (m = a * c ∧ (a < 4294967296 → IntKind.u64.wrap (↑a * ↑c) = (m : Int))) := by
  refine ⟨a * c, rfl, fun ha => ?_⟩
  have hle : a * c ≤ 4294967296 * c := Nat.mul_le_mul_right _ (by omega)
  rw [← Int.natCast_mul]
  exact Mul64.wrapN _ (by omega)

/-- the ways through a round of the loop that corrects a digit -/
theorem digit {Y yn1 yn0 u un Q a b m c : Nat} (HY : Hid (Y = yn1 * 4294967296 + yn0)) (hu : u < Y) (h1 : un < 4294967296) (h0 : yn0 < 4294967296) (HQ : Hid (Q = (u * 4294967296 + un) / Y)) (hc : Hid (c = b + yn1))
    (hm : Hid (m = a * yn0 ∧ (a < 4294967296 → IntKind.u64.wrap (↑a * ↑yn0) = (m : Int)))) (hK : Hid (KnuthDiv.Keeps Y yn1 u un a b ∧ a ≤ 4294967297 ∧ b < 4294967296 ∧ (a ≤ 4294967296 ∨ b < yn1))) :
    (¬ ((4294967296 : Int) ≤ c) ∧ (4294967296 : Int) ≤ a ∧ Hid (1 ≤ a ∧ KnuthDiv.Keeps Y yn1 u un (a - 1) c ∧ a - 1 ≤ 4294967297 ∧ c < 4294967296 ∧ (a - 1 ≤ 4294967296 ∨ c < yn1))) ∨
    (¬ ((4294967296 : Int) ≤ c) ∧ ¬ ((4294967296 : Int) ≤ a) ∧ IntKind.u64.wrap (↑a * ↑yn0) = (m : Int) ∧ (4294967296 : Int) * b + un < m ∧ Hid (1 ≤ a ∧ KnuthDiv.Keeps Y yn1 u un (a - 1) c ∧ a - 1 ≤ 4294967297 ∧ c < 4294967296 ∧ (a - 1 ≤ 4294967296 ∨ c < yn1))) ∨
    ((4294967296 : Int) ≤ (c : Int) ∧ (4294967296 : Int) ≤ a ∧ (a : Int) - 1 = Q ∧ 1 ≤ (a : Int)) ∨
    ((4294967296 : Int) ≤ (c : Int) ∧ ¬ ((4294967296 : Int) ≤ a) ∧ IntKind.u64.wrap (↑a * ↑yn0) = (m : Int) ∧ (4294967296 : Int) * b + un < m ∧ (a : Int) - 1 = Q ∧ 1 ≤ (a : Int)) ∨
    (¬ ((4294967296 : Int) ≤ a) ∧ IntKind.u64.wrap (↑a * ↑yn0) = (m : Int) ∧ ¬ ((4294967296 : Int) * b + un < m) ∧ a = Q) := by
  obtain ⟨k, ka, kb, kab⟩ := hK.out
  obtain ⟨hm0, hm1⟩ := hm.out
  have hc' := hc.out
  by_cases hbig : 4294967296 ≤ a
  · have k' := KnuthDiv.round_big k hu h1 hbig
    rw [← hc'] at k'
    by_cases hr : c < 4294967296
    · exact .inl ⟨by omega, by omega, by omega, k', by omega, by omega, by omega⟩
    · refine .inr (.inr (.inl ⟨by omega, by omega, ?_, by omega⟩))
      have e := KnuthDiv.end_rest HY.out h0 k' hu (by omega) (by omega)
      rw [HQ.out]; omega
  · have hm2 := hm1 (by omega)
    by_cases ht : 4294967296 * b + un < m
    · have hmm : 4294967296 * b + un < a * yn0 := by omega
      have hp : 1 ≤ a := by
        rcases Nat.eq_zero_or_pos a with h | h
        · subst h; omega
        · exact h
      have k' := KnuthDiv.round_gt HY.out k hu hmm
      rw [← hc'] at k'
      by_cases hr : c < 4294967296
      · exact .inr (.inl ⟨by omega, by omega, hm2, by omega, hp, k', by omega, by omega, by omega⟩)
      · refine .inr (.inr (.inr (.inl ⟨by omega, by omega, hm2, by omega, ?_, by omega⟩)))
        have e := KnuthDiv.end_rest HY.out h0 k' hu (by omega) (by omega)
        rw [HQ.out]; omega
    · refine .inr (.inr (.inr (.inr ⟨by omega, hm2, by omega, ?_⟩)))
      rw [HQ.out]
      exact KnuthDiv.end_test HY.out k hu (by omega)

set_option maxRecDepth 100000 in
set_option maxHeartbeats 2000000 in
theorem div64_core (hi lo y s Y yn1 yn0 u32 u10 un1 un0 q1 p1 r1 Q v q0 p0 r0 Q0 rr : Nat) (hh : 0 < hi) (hhy : hi < y) (hs : s ≤ 63)
    (hlz : Hid (∀ w : World, Calls Try.prog 34 #[.int .u64 y] w fun e w' => e = .returned (.int .i64 s) ∧ w = w'))
    (hY : IntKind.u64.wrap (↑y * 2 ^ s) = (Y : Int)) (hyn1 : (Y : Int) / 4294967296 = (yn1 : Int)) (hyn1p : 0 < (yn1 : Int)) (hyn0 : bits .and .u64 (Y : Int) 4294967295 = (yn0 : Int))
    (hu32 : bits .or .u64 (IntKind.u64.wrap (↑hi * 2 ^ s)) (↑lo / 2 ^ (64 - s)) = (u32 : Int)) (hu10 : IntKind.u64.wrap (↑lo * 2 ^ s) = (u10 : Int))
    (hun1 : (u10 : Int) / 4294967296 = un1) (hun0 : bits .and .u64 (u10 : Int) 4294967295 = (un0 : Int))
    (hq1 : (u32 : Int) / (yn1 : Int) = q1) (hp1 : IntKind.u64.wrap (↑q1 * ↑yn1) = (p1 : Int)) (hr1 : (u32 : Int) - (p1 : Int) = (r1 : Int))
    (hv : IntKind.u64.wrap (IntKind.u64.wrap (IntKind.u64.wrap (↑u32 * 4294967296) + ↑un1) - IntKind.u64.wrap (↑Q * ↑Y)) = (v : Int))
    (hq0 : (v : Int) / (yn1 : Int) = q0) (hp0 : IntKind.u64.wrap (↑q0 * ↑yn1) = (p0 : Int)) (hr0 : (v : Int) - (p0 : Int) = (r0 : Int))
    (hrr : IntKind.u64.wrap (IntKind.u64.wrap (IntKind.u64.wrap (↑v * 4294967296) + ↑un0) - IntKind.u64.wrap (↑Q0 * ↑Y)) = (rr : Int))
    (hyn1b : yn1 < 4294967296) (hyn0b : yn0 < 4294967296) (hun1b : un1 < 4294967296) (hun0b : un0 < 4294967296) (hu32b : u32 < Y) (hYb : Y < 18446744073709551616) (hvb : v < Y)
    (_hp1b : p1 ≤ u32) (_hp0b : p0 ≤ v) (hq1b : q1 ≤ 4294967297) (hq0b : q0 ≤ 4294967297) (hr1b : r1 < yn1) (hr0b : r0 < yn1) (hQb : Q < 4294967296) (hQ0b : Q0 < 4294967296)
    (HY : Hid (Y = yn1 * 4294967296 + yn0)) (K1 : Hid (KnuthDiv.Keeps Y yn1 u32 un1 q1 r1)) (K0 : Hid (KnuthDiv.Keeps Y yn1 v un0 q0 r0))
    (HQ : Hid (Q = (u32 * 4294967296 + un1) / Y)) (HQ0 : Hid (Q0 = (v * 4294967296 + un0) / Y)) (w : World) :
    Calls Try.prog 33 #[.int .u64 hi, .int .u64 lo, .int .u64 y] w fun e w' => e = .returned (.tuple #[.int .u64 ((Q : Int) * 4294967296 + (Q0 : Int)), .int .u64 ((rr : Int) / 2 ^ s)]) ∧ w = w' := by
  have hy' : (0 : Int) < (y : Int) := by omega
  have h1 : ((y : Int) == 0) = false := by simp; omega
  have h2 : ¬ ((y : Int) ≤ (hi : Int)) := by omega
  have h3 : ((hi : Int) == 0) = false := by simp; omega
  have hm : min s 64 = s := by omega
  have hz : ((yn1 : Int) = 0) = False := by simp; omega
  go_enter Try.func33, Try.ntmps33
  go_wp2_with (go_at_call 34; refine (hlz.out _).mono ?_; rintro e w' ⟨rfl, rfl⟩)
  go_loop [15, 16] (fun q r => ∃ a b : Nat, q = .int .u64 a ∧ r = .int .u64 b ∧ Hid (KnuthDiv.Keeps Y yn1 u32 un1 a b ∧ a ≤ 4294967297 ∧ b < 4294967296 ∧ (a ≤ 4294967296 ∨ b < yn1))) (fun q _ => (intOf q).toNat)
  case atStart => exact ⟨q1, r1, rfl, rfl, K1.out, by omega, by omega, by omega⟩
  case round =>
    clear K1
    obtain ⟨a, b, rfl, rfl, hK⟩ := hrel
    obtain ⟨m, hm1⟩ := mul_name a yn0 hyn0b
    have ha' : (a : Int) ≤ 4294967297 := by have := hK.out; omega
    have hb' : (b : Int) < 4294967296 := by have := hK.out; omega
    obtain ⟨c, hc, hc0⟩ : ∃ c : Nat, (b : Int) + (yn1 : Int) = (c : Int) ∧ Hid (c = b + yn1) := ⟨b + yn1, by omega, rfl⟩
    have hst := digit HY hu32b hun1b hyn0b HQ hc0 hm1 hK
    clear hm1
    rcases hst with ⟨hr, hbig, hn⟩ | ⟨hr, hbig, hm2, ht, hn⟩ | ⟨hr, hbig, hq, ha1⟩ | ⟨hr, hbig, hm2, ht, hq, ha1⟩ | ⟨hbig, hm2, ht, hq⟩
    · go_wp2
      go_round
      case rel => exact ⟨a - 1, c, by congr 1; omega, rfl, hn.out.2⟩
      case measure => simp [intOf]; omega
    · have hn1 : (1 : Int) ≤ (a : Int) := by have := hn.out.1; omega
      go_wp2
      go_round
      case rel => exact ⟨a - 1, c, by congr 1; omega, rfl, hn.out.2⟩
      case measure => simp [intOf]; omega
    · go_wp2
      clear hr hbig hq ha1 ha' hb' hc hc0 hK
      go_loop [18, 16] (fun q r => ∃ a b : Nat, q = .int .u64 a ∧ r = .int .u64 b ∧ Hid (KnuthDiv.Keeps Y yn1 v un0 a b ∧ a ≤ 4294967297 ∧ b < 4294967296 ∧ (a ≤ 4294967296 ∨ b < yn1))) (fun q _ => (intOf q).toNat)
      case atStart => exact ⟨q0, r0, rfl, rfl, K0.out, by omega, by omega, by omega⟩
      case round =>
        clear K0
        obtain ⟨a', b', rfl, rfl, hK⟩ := hrel
        obtain ⟨m', hm1⟩ := mul_name a' yn0 hyn0b
        have ha' : (a' : Int) ≤ 4294967297 := by have := hK.out; omega
        have hb' : (b' : Int) < 4294967296 := by have := hK.out; omega
        obtain ⟨c', hc', hc0⟩ : ∃ c : Nat, (b' : Int) + (yn1 : Int) = (c : Int) ∧ Hid (c = b' + yn1) := ⟨b' + yn1, by omega, rfl⟩
        have hst := digit HY hvb hun0b hyn0b HQ0 hc0 hm1 hK
        clear hm1
        rcases hst with ⟨hr, hbig, hn⟩ | ⟨hr, hbig, hm2, ht, hn⟩ | ⟨hr, hbig, hq, ha1⟩ | ⟨hr, hbig, hm2, ht, hq, ha1⟩ | ⟨hbig, hm2, ht, hq⟩
        · go_wp2
          go_round
          case rel => exact ⟨a' - 1, c', by congr 1; omega, rfl, hn.out.2⟩
          case measure => simp [intOf]; omega
        · have hn1 : (1 : Int) ≤ (a' : Int) := by have := hn.out.1; omega
          go_wp2
          go_round
          case rel => exact ⟨a' - 1, c', by congr 1; omega, rfl, hn.out.2⟩
          case measure => simp [intOf]; omega
        · go_wp2
          go_ret2
          exact ⟨rfl, rfl⟩
        · go_wp2
          go_ret2
          exact ⟨rfl, rfl⟩
        · obtain rfl := hq
          go_wp2
          go_ret2
          exact ⟨rfl, rfl⟩
    · go_wp2
      clear hr hbig hm2 ht hq ha1 ha' hb' hc hc0 hK
      go_loop [18, 16] (fun q r => ∃ a b : Nat, q = .int .u64 a ∧ r = .int .u64 b ∧ Hid (KnuthDiv.Keeps Y yn1 v un0 a b ∧ a ≤ 4294967297 ∧ b < 4294967296 ∧ (a ≤ 4294967296 ∨ b < yn1))) (fun q _ => (intOf q).toNat)
      case atStart => exact ⟨q0, r0, rfl, rfl, K0.out, by omega, by omega, by omega⟩
      case round =>
        clear K0
        obtain ⟨a', b', rfl, rfl, hK⟩ := hrel
        obtain ⟨m', hm1⟩ := mul_name a' yn0 hyn0b
        have ha' : (a' : Int) ≤ 4294967297 := by have := hK.out; omega
        have hb' : (b' : Int) < 4294967296 := by have := hK.out; omega
        obtain ⟨c', hc', hc0⟩ : ∃ c : Nat, (b' : Int) + (yn1 : Int) = (c : Int) ∧ Hid (c = b' + yn1) := ⟨b' + yn1, by omega, rfl⟩
        have hst := digit HY hvb hun0b hyn0b HQ0 hc0 hm1 hK
        clear hm1
        rcases hst with ⟨hr, hbig, hn⟩ | ⟨hr, hbig, hm2, ht, hn⟩ | ⟨hr, hbig, hq, ha1⟩ | ⟨hr, hbig, hm2, ht, hq, ha1⟩ | ⟨hbig, hm2, ht, hq⟩
        · go_wp2
          go_round
          case rel => exact ⟨a' - 1, c', by congr 1; omega, rfl, hn.out.2⟩
          case measure => simp [intOf]; omega
        · have hn1 : (1 : Int) ≤ (a' : Int) := by have := hn.out.1; omega
          go_wp2
          go_round
          case rel => exact ⟨a' - 1, c', by congr 1; omega, rfl, hn.out.2⟩
          case measure => simp [intOf]; omega
        · go_wp2
          go_ret2
          exact ⟨rfl, rfl⟩
        · go_wp2
          go_ret2
          exact ⟨rfl, rfl⟩
        · obtain rfl := hq
          go_wp2
          go_ret2
          exact ⟨rfl, rfl⟩
    · obtain rfl := hq
      go_wp2
      clear hbig hm2 ht ha' hb' hc hc0 hK
      go_loop [18, 16] (fun q r => ∃ a b : Nat, q = .int .u64 a ∧ r = .int .u64 b ∧ Hid (KnuthDiv.Keeps Y yn1 v un0 a b ∧ a ≤ 4294967297 ∧ b < 4294967296 ∧ (a ≤ 4294967296 ∨ b < yn1))) (fun q _ => (intOf q).toNat)
      case atStart => exact ⟨q0, r0, rfl, rfl, K0.out, by omega, by omega, by omega⟩
      case round =>
        clear K0
        obtain ⟨a', b', rfl, rfl, hK⟩ := hrel
        obtain ⟨m', hm1⟩ := mul_name a' yn0 hyn0b
        have ha' : (a' : Int) ≤ 4294967297 := by have := hK.out; omega
        have hb' : (b' : Int) < 4294967296 := by have := hK.out; omega
        obtain ⟨c', hc', hc0⟩ : ∃ c : Nat, (b' : Int) + (yn1 : Int) = (c : Int) ∧ Hid (c = b' + yn1) := ⟨b' + yn1, by omega, rfl⟩
        have hst := digit HY hvb hun0b hyn0b HQ0 hc0 hm1 hK
        clear hm1
        rcases hst with ⟨hr, hbig, hn⟩ | ⟨hr, hbig, hm2, ht, hn⟩ | ⟨hr, hbig, hq, ha1⟩ | ⟨hr, hbig, hm2, ht, hq, ha1⟩ | ⟨hbig, hm2, ht, hq⟩
        · go_wp2
          go_round
          case rel => exact ⟨a' - 1, c', by congr 1; omega, rfl, hn.out.2⟩
          case measure => simp [intOf]; omega
        · have hn1 : (1 : Int) ≤ (a' : Int) := by have := hn.out.1; omega
          go_wp2
          go_round
          case rel => exact ⟨a' - 1, c', by congr 1; omega, rfl, hn.out.2⟩
          case measure => simp [intOf]; omega
        · go_wp2
          go_ret2
          exact ⟨rfl, rfl⟩
        · go_wp2
          go_ret2
          exact ⟨rfl, rfl⟩
        · obtain rfl := hq
          go_wp2
          go_ret2
          exact ⟨rfl, rfl⟩

theorem wrap_rest (u un p v : Nat) (hv : v = u * 4294967296 + un - p) (hp : p ≤ u * 4294967296 + un) (hb : v < 18446744073709551616) :
    IntKind.u64.wrap (IntKind.u64.wrap (IntKind.u64.wrap (↑u * 4294967296) + ↑un) - IntKind.u64.wrap (p : Int)) = (v : Int) := by
  simp only [IntKind.wrap_u64]; omega

theorem or_name (hi lo s : Nat) (hs : s ≤ 63) (hl : lo < 18446744073709551616) (hh : hi * 2 ^ s < 18446744073709551616) :
    bits .or .u64 (IntKind.u64.wrap (↑hi * 2 ^ s)) (↑lo / 2 ^ (64 - s)) = ((hi * 2 ^ s + lo / 2 ^ (64 - s) : Nat) : Int) := by
  have e1 : ((hi : Int) * 2 ^ s) = ((hi * 2 ^ s : Nat) : Int) := by simp
  have e2 : ((lo : Int) / 2 ^ (64 - s)) = ((lo / 2 ^ (64 - s) : Nat) : Int) := by simp
  rw [e1, e2, Mul64.wrapN _ hh]
  have hlt : lo / 2 ^ (64 - s) < 2 ^ s := by
    rw [Nat.div_lt_iff_lt_mul (Nat.two_pow_pos _), ← Nat.pow_add, show s + (64 - s) = 64 from by omega]
    exact hl
  have hle : lo / 2 ^ (64 - s) ≤ lo := Nat.div_le_self _ _
  have h := bits_or_u64_nat (hi * 2 ^ s) (lo / 2 ^ (64 - s)) hh (by omega)
  rw [h, Nat.mul_comm hi, ← Nat.two_pow_add_eq_or_of_lt hlt]

theorem shl_split (lo s : Nat) (hs : s ≤ 63) : lo * 2 ^ s = lo / 2 ^ (64 - s) * 18446744073709551616 + lo * 2 ^ s % 18446744073709551616 := by
  have h : lo * 2 ^ s / 18446744073709551616 = lo / 2 ^ (64 - s) := by
    have e : 18446744073709551616 = 2 ^ (64 - s) * 2 ^ s := by rw [← Nat.pow_add, show 64 - s + s = 64 from by omega]
    rw [e]
    exact Nat.mul_div_mul_right _ _ (Nat.two_pow_pos _)
  have := Nat.div_add_mod (lo * 2 ^ s) 18446744073709551616
  rw [h] at this
  omega

theorem div64_high (hi lo y : Nat) (hh : 0 < hi) (hhy : hi < y) (hl : lo < 18446744073709551616) (hy2 : y < 18446744073709551616) (w : World) :
    Calls Try.prog 33 #[.int .u64 hi, .int .u64 lo, .int .u64 y] w fun e w' => e = .returned (.tuple #[.int .u64 (((hi * 18446744073709551616 + lo) / y : Nat) : Int), .int .u64 (((hi * 18446744073709551616 + lo) % y : Nat) : Int)]) ∧ w = w' := by
  obtain ⟨s, hs, hY1, hY2, hlz⟩ := lz64 y (by omega) hy2
  have hpos := Nat.two_pow_pos s
  generalize hY : y * 2 ^ s = Y at hY1 hY2
  have hhs : hi * 2 ^ s + 2 ^ s ≤ Y := by rw [← hY, ← Nat.succ_mul]; exact Nat.mul_le_mul_right _ hhy
  have hlo : lo / 2 ^ (64 - s) < 2 ^ s := by
    rw [Nat.div_lt_iff_lt_mul (Nat.two_pow_pos _), ← Nat.pow_add, show s + (64 - s) = 64 from by omega]
    exact hl
  have hsplit := shl_split lo s hs
  have hor := or_name hi lo s hs hl (by omega)
  have hN : (hi * 18446744073709551616 + lo) * 2 ^ s = hi * 2 ^ s * 18446744073709551616 + lo * 2 ^ s := by rw [Nat.add_mul, Nat.mul_right_comm]
  have hYw : IntKind.u64.wrap (↑y * 2 ^ s) = (Y : Int) := by
    have e : ((y : Int) * 2 ^ s) = ((y * 2 ^ s : Nat) : Int) := by simp
    rw [e, hY]; exact Mul64.wrapN _ hY2
  have h10 : IntKind.u64.wrap (↑lo * 2 ^ s) = ((lo * 2 ^ s % 18446744073709551616 : Nat) : Int) := by
    have e : ((lo : Int) * 2 ^ s) = ((lo * 2 ^ s : Nat) : Int) := by simp
    rw [e]; exact Mul64.wrapM _
  generalize hu10 : lo * 2 ^ s % 18446744073709551616 = u10 at *
  generalize hu32 : hi * 2 ^ s + lo / 2 ^ (64 - s) = u32 at *
  have hu32b : u32 < Y := by omega
  have hu10b : u10 < 18446744073709551616 := by omega
  have hNN : (hi * 18446744073709551616 + lo) * 2 ^ s = (u32 * 4294967296 + u10 / 4294967296) * 4294967296 + u10 % 4294967296 := by
    rw [hN, hsplit, ← hu32]
    omega
  have HY : Y = Y / 4294967296 * 4294967296 + Y % 4294967296 := by omega
  generalize hn1 : Y / 4294967296 = yn1 at *
  generalize hn0 : Y % 4294967296 = yn0 at *
  generalize hun1 : u10 / 4294967296 = un1 at *
  generalize hun0 : u10 % 4294967296 = un0 at *
  have hQb := KnuthDiv.quo_lt hu32b (by omega : un1 < 4294967296)
  have hU := Nat.div_mul_le_self (u32 * 4294967296 + un1) Y
  have hvm : u32 * 4294967296 + un1 - (u32 * 4294967296 + un1) / Y * Y < Y := by
    have := Nat.mod_lt (u32 * 4294967296 + un1) (show 0 < Y by omega)
    have e := Nat.div_add_mod (u32 * 4294967296 + un1) Y
    rw [Nat.mul_comm] at e
    omega
  obtain ⟨Q, hQ⟩ : ∃ Q, Q = (u32 * 4294967296 + un1) / Y := ⟨_, rfl⟩
  rw [← hQ] at hQb hU hvm
  obtain ⟨v, hv⟩ : ∃ v, v = u32 * 4294967296 + un1 - Q * Y := ⟨_, rfl⟩
  rw [← hv] at hvm
  have hQ0b := KnuthDiv.quo_lt hvm (by omega : un0 < 4294967296)
  have hU0 := Nat.div_mul_le_self (v * 4294967296 + un0) Y
  have hrm : v * 4294967296 + un0 - (v * 4294967296 + un0) / Y * Y < Y := by
    have := Nat.mod_lt (v * 4294967296 + un0) (show 0 < Y by omega)
    have e := Nat.div_add_mod (v * 4294967296 + un0) Y
    rw [Nat.mul_comm] at e
    omega
  obtain ⟨Q0, hQ0⟩ : ∃ Q0, Q0 = (v * 4294967296 + un0) / Y := ⟨_, rfl⟩
  rw [← hQ0] at hQ0b hU0 hrm
  obtain ⟨f1, f2⟩ := KnuthDiv.whole (by omega : 0 < y) hpos hY.symm hNN hQ hv hQ0
  have K1 := KnuthDiv.start (u := u32) HY (by omega) (by omega : un1 < 4294967296)
  have K0 := KnuthDiv.start (u := v) HY (by omega) (by omega : un0 < 4294967296)
  have hq1b := KnuthDiv.first_le HY (by omega) (by omega) hu32b
  have hq0b := KnuthDiv.first_le HY (by omega) (by omega) hvm
  have hp1 : u32 / yn1 * yn1 ≤ u32 := Nat.div_mul_le_self _ _
  have hp0 : v / yn1 * yn1 ≤ v := Nat.div_mul_le_self _ _
  have hm1 := Nat.mod_lt u32 (show 0 < yn1 by omega)
  have hm0 := Nat.mod_lt v (show 0 < yn1 by omega)
  have e1 := Nat.div_add_mod u32 yn1
  have e0 := Nat.div_add_mod v yn1
  rw [Nat.mul_comm] at e1 e0
  rw [f1, ← f2]
  have e3 : (((v * 4294967296 + un0 - Q0 * Y) / 2 ^ s : Nat) : Int) = ((v * 4294967296 + un0 - Q0 * Y : Nat) : Int) / 2 ^ s := by simp
  rw [e3, Int.natCast_add, Int.natCast_mul]
  refine div64_core hi lo y s Y yn1 yn0 u32 u10 un1 un0 (u32 / yn1) (u32 / yn1 * yn1) (u32 % yn1) Q v (v / yn1) (v / yn1 * yn1) (v % yn1) Q0 (v * 4294967296 + un0 - Q0 * Y) hh hhy hs hlz hYw (by omega) (by omega) ?_ hor h10 (by omega) ?_ (by simp) ?_ (by omega) ?_ (by simp) ?_ (by omega) ?_
    (by omega) (by omega) (by omega) (by omega) hu32b hY2 hvm hp1 hp0 hq1b hq0b hm1 hm0 hQb hQ0b HY K1 K0 hQ hQ0 w
  · rw [Mul64.maskN Y hY2, hn0]
  · rw [Mul64.maskN u10 hu10b, hun0]
  · rw [← Int.natCast_mul]; exact Mul64.wrapN _ (by omega)
  · rw [← Int.natCast_mul]; exact wrap_rest u32 un1 (Q * Y) v hv hU (by omega)
  · rw [← Int.natCast_mul]; exact Mul64.wrapN _ (by omega)
  · rw [← Int.natCast_mul]; exact wrap_rest v un0 (Q0 * Y) _ rfl hU0 (by omega)

theorem div64 (hi lo y : Nat) (hhy : hi < y) (hl : lo < 18446744073709551616) (hy2 : y < 18446744073709551616) (w : World) :
    Calls Try.prog 33 #[.int .u64 hi, .int .u64 lo, .int .u64 y] w fun e w' => e = .returned (.tuple #[.int .u64 (((hi * 18446744073709551616 + lo) / y : Nat) : Int), .int .u64 (((hi * 18446744073709551616 + lo) % y : Nat) : Int)]) ∧ Below w.heap.size w w' := by
  rcases Nat.eq_zero_or_pos hi with h | h
  · subst h
    rw [Nat.zero_mul, Nat.zero_add]
    exact div64_low lo y hl hhy hy2 w
  · refine (div64_high hi lo y h hhy hl hy2 w).mono ?_
    rintro e w' ⟨rfl, rfl⟩
    exact ⟨rfl, Below.refl _ _⟩

end Go.Proofs.Ytmclffbjdkoneaa
