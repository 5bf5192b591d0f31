/- Package group as it landed: Alike as contracts of the calls. -/
import Derived.Test.YtbaaglgoodckmaaGrL2
import Derived.WalkKit
import Derived.WalkLawsBesides
import Derived.Deep.RegionWith
import Derived.Lib.MinMax
import Derived.WalkSpells
import Derived.WalkSmall
import Derived.Lib.Hide
import Derived.Below
import Derived.Outline
import Derived.OrdersHeld
import Derived.Deep.QuietTactic
import Derived.BigQuiet
import Derived.IntWalk
import Derived.Deep.DeepCutAuto
import Derived.Deep.AppendLies
namespace Go.Proofs.Ytbaaglgoodckmaa
open Go.RowKit
set_option linter.unusedVariables false
set_option linter.unusedSimpArgs false

theorem fl_gt {a b : Nat} {m n : Int} (ha : Fl a m) (hb : Fl b n) : (FloatKind.f64.format.order a b == some .gt) = decide (n < m) := by
  rw [fl_order ha hb, Bool.eq_iff_iff, decide_eq_true_eq]
  rcases Int.lt_trichotomy m n with h | h | h
  · rw [Int.compare_eq_lt.2 h]; exact ⟨fun g => by simp at g, fun g => by omega⟩
  · rw [Int.compare_eq_eq.2 h]; exact ⟨fun g => by simp at g, fun g => by omega⟩
  · rw [Int.compare_eq_gt.2 h]; exact ⟨fun _ => h, fun _ => rfl⟩
theorem fl_ge {a b : Nat} {m n : Int} (ha : Fl a m) (hb : Fl b n) : (FloatKind.f64.format.order a b == some .gt || FloatKind.f64.format.order a b == some .eq) = decide (n ≤ m) := by
  rw [fl_order ha hb, Bool.eq_iff_iff, decide_eq_true_eq]
  rcases Int.lt_trichotomy m n with h | h | h
  · rw [Int.compare_eq_lt.2 h]; exact ⟨fun g => by simp at g, fun g => by omega⟩
  · rw [Int.compare_eq_eq.2 h]; exact ⟨fun _ => by omega, fun _ => rfl⟩
  · rw [Int.compare_eq_gt.2 h]; exact ⟨fun _ => by omega, fun _ => rfl⟩
/-- the product of the first k of the last n -/
def pG (a b : List Int) (n k : Nat) : Int := prodTo a b n (sumTo a n n) (sumTo b n n) k
theorem pG_bd {a b : List Int} (ha : mayG a = true) (hb : mayG b = true) {n : Nat} (hn : n ≤ 16) {k : Nat} (hk : k ≤ n) : -281474976710656 ≤ pG a b n k ∧ pG a b n k ≤ 281474976710656 := by
  have := prod_bd ha hb hn k
  unfold pG; omega
theorem pG_succ (a b : List Int) (n k : Nat) : pG a b n (k + 1) = pG a b n k + dv (a.drop (a.length - n)) n k * dv (b.drop (b.length - n)) n k := by
  rw [← dev_drop, ← dev_drop]; rfl
theorem dv_bd {a : List Int} (ha : mayG a = true) {n : Nat} (hn : n ≤ 16) (k : Nat) : -4194304 ≤ dv (a.drop (a.length - n)) n k ∧ dv (a.drop (a.length - n)) n k ≤ 4194304 := by
  rw [← dev_drop]; exact dev_bd ha hn k
theorem alike_yes {a b : List Int} {n : Nat} (ha : mayG a = true) (hb : mayG b = true) (h4 : 4 ≤ a.length ∧ 4 ≤ b.length) (hn : min a.length b.length = n) (q : Bool) (h : q = true ↔ 0 < pG a b n n ∧ pG a a n n ≤ 2 * pG a b n n ∧ pG b b n n ≤ 2 * pG a b n n) : alikeG a b = q := by
  rw [Bool.eq_iff_iff, alike_iff, h, hn]
  exact ⟨fun ⟨_, _, _, _, h1, h2, h3⟩ => ⟨h1, h2, h3⟩, fun ⟨h1, h2, h3⟩ => ⟨ha, hb, h4.1, h4.2, h1, h2, h3⟩⟩

set_option maxRecDepth 100000 in
set_option maxHeartbeats 8000000 in
theorem ggalike_any (A : Option Addr) (na ca : Nat) (a : List Int) (A2 : Option Addr) (nb cb : Nat) (b : List Int) (w : World) (hs : Si w A na ca a) (ht : Si w A2 nb cb b) : Calls Try.prog 15 #[.slice A na ca, .slice A2 nb cb] w fun e w' => e = .returned (.bool (alikeG a b)) ∧ Below w.heap.size w w' := by
  have hl := hs.rd.len; have hl2 := ht.rd.len
  have m1 := hs.le; have m2 := hs.max; have m3 := ht.le; have m4 := ht.max
  unfold maxLen at m2 m4
  obtain ⟨m, hmn⟩ : ∃ m, min na nb = m := ⟨_, rfl⟩
  have hmin : min (na : Int) (nb : Int) = (m : Int) := by omega
  obtain ⟨q, hq⟩ : ∃ q, alikeG a b = q := ⟨_, rfl⟩
  rw [hq]
  have HQ := Lib.hid hq; have HL := Lib.hid hl; have HL2 := Lib.hid hl2; have HS := Lib.hid hs; have HT := Lib.hid ht
  clear hq hl hl2 hs ht
  by_cases c4 : m < 4
  case pos =>
    have d4 : decide (m < 4) = true := decide_eq_true c4
    have d4' : decide ((m : Int) < 4) = true := decide_eq_true (by omega)
    have hF : q = false := by rw [← HQ.out, Bool.eq_false_iff]; intro h; have h1 := (alike_iff a b).1 h; have h2 := HL.out; have h3 := HL2.out; have := h1.2.2.1; have := h1.2.2.2.1; omega
    subst hF
    clear HQ
    go_enter Try.func15, Try.ntmps15
    go_wp2_with (first | (go_at_call_of 13 (Value.slice A na ca); refine (gmay_same A na ca a _ HS.out).mono ?_; rintro e wy ⟨rfl, rfl⟩) | (go_at_call_of 13 (Value.slice A2 nb cb); refine (gmay_same A2 nb cb b _ HT.out).mono ?_; rintro e wy ⟨rfl, rfl⟩))
    go_ret
    exact ⟨rfl, Below.refl _ _⟩
  case neg =>
  have d4 : decide (m < 4) = false := decide_eq_false c4
  have d4' : decide ((m : Int) < 4) = false := decide_eq_false (by omega)
  cases hka : mayG a with
  | false =>
    have hF : q = false := by rw [← HQ.out, Bool.eq_false_iff]; intro h; have h1 := (alike_iff a b).1 h; rw [hka] at h1; cases h1.1
    subst hF
    clear HQ
    go_enter Try.func15, Try.ntmps15
    go_wp2_with (first | (go_at_call_of 13 (Value.slice A na ca); refine (gmay_same A na ca a _ HS.out).mono ?_; rintro e wy ⟨rfl, rfl⟩) | (go_at_call_of 13 (Value.slice A2 nb cb); refine (gmay_same A2 nb cb b _ HT.out).mono ?_; rintro e wy ⟨rfl, rfl⟩))
    go_ret
    exact ⟨rfl, Below.refl _ _⟩
  | true =>
  cases hkb : mayG b with
  | false =>
    have hF : q = false := by rw [← HQ.out, Bool.eq_false_iff]; intro h; have h1 := (alike_iff a b).1 h; rw [hkb] at h1; cases h1.2.1
    subst hF
    clear HQ
    go_enter Try.func15, Try.ntmps15
    go_wp2_with (first | (go_at_call_of 13 (Value.slice A na ca); refine (gmay_same A na ca a _ HS.out).mono ?_; rintro e wy ⟨rfl, rfl⟩) | (go_at_call_of 13 (Value.slice A2 nb cb); refine (gmay_same A2 nb cb b _ HT.out).mono ?_; rintro e wy ⟨rfl, rfl⟩))
    go_ret
    exact ⟨rfl, Below.refl _ _⟩
  | true =>
  have l1 : na ≤ 16 := by have := ((mayG_iff a).1 hka).2; rw [HL.out] at this; exact this
  have l2 : nb ≤ 16 := by have := ((mayG_iff b).1 hkb).2; rw [HL2.out] at this; exact this
  obtain ⟨ka, hna⟩ : ∃ ka, na = m + ka := ⟨na - m, by omega⟩
  obtain ⟨kb, hnb⟩ : ∃ kb, nb = m + kb := ⟨nb - m, by omega⟩
  obtain ⟨da, hca⟩ : ∃ da, ca = da + ka := ⟨ca - ka, by omega⟩
  obtain ⟨db, hcb⟩ : ∃ db, cb = db + kb := ⟨cb - kb, by omega⟩
  have eA : (na : Int) - (m : Int) = (ka : Int) := by omega
  have eB : (nb : Int) - (m : Int) = (kb : Int) := by omega
  have hcA : ∀ w, (Instr.slice 25 (.slice A na ca) (some (.int .i64 (ka : Int))) none none).run Try.prog w = .ok (.slice (cutI A ka ca) m da) w := fun w => by
    rw [hna, hca]; exact run_cutI Try.prog 25 3 Try.underlying25 info_int A ka m da w (by omega) (by omega)
  have hcB : ∀ w, (Instr.slice 25 (.slice A2 nb cb) (some (.int .i64 (kb : Int))) none none).run Try.prog w = .ok (.slice (cutI A2 kb cb) m db) w := fun w => by
    rw [hnb, hcb]; exact run_cutI Try.prog 25 3 Try.underlying25 info_int A2 kb m db w (by omega) (by omega)
  have sA := (HS.out.cut hna hca).keep ((Below.refl _ w).drew)
  have sB := (HT.out.cut hnb hcb).keep ((Below.refl _ w).drew)
  have SA := Lib.hid sA; have SB := Lib.hid sB
  have xa : a.length - m = ka := by rw [HL.out]; omega
  have xb : b.length - m = kb := by rw [HL2.out]; omega
  have XA := Lib.hid xa; have XB := Lib.hid xb
  have HMA := Lib.hid hka; have HMB := Lib.hid hkb
  have hm16 : m ≤ 16 := by omega
  have hka16 : ka ≤ 16 := by omega
  have hkb16 : kb ≤ 16 := by omega
  have wA : IntKind.i64.wrap (ka : Int) = (ka : Int) := IntWalk.i64_in _ (by omega)
  have wB : IntKind.i64.wrap (kb : Int) = (kb : Int) := IntWalk.i64_in _ (by omega)
  clear sA sB xa xb hna hnb hca hcb m1 m2 m3 m4
  go_enter Try.func15, Try.ntmps15
  go_upto_region 5 with (first | (go_at_call_of 13 (Value.slice A na ca); refine (gmay_same A na ca a _ HS.out).mono ?_; rintro e wy ⟨rfl, rfl⟩) | (go_at_call_of 13 (Value.slice A2 nb cb); refine (gmay_same A2 nb cb b _ HT.out).mono ?_; rintro e wy ⟨rfl, rfl⟩))
  go_region_with (go_at_call 20; refine (gdev_any (cutI A ka ca) da (a.drop ka) (cutI A2 kb cb) db (b.drop kb) m _ SA.out SB.out (in18_drop HMA.out ka) (in18_drop HMB.out kb) hm16).mono ?_; rintro e w5 ⟨g, rfl, hz5, hb5⟩)
  simp only [List.getElem_toArray, List.getElem_cons_succ, List.getElem_cons_zero, Act.put, List.setIfInBounds_toArray, List.set_cons_zero, List.set_cons_succ]
  go_wp2_with fail
  have Z5 := Lib.hid hz5
  have B5 : Hid (Below w.heap.size w w5) := Lib.hid (((Below.refl _ w).drew).trans hb5)
  clear hz5 hb5 hka hkb hmin eA eB hcA hcB wA wB
  go_loopw [6, 7, 8, 42] (fun s6 s7 s8 i wr => ∃ k x y z : Nat, k ≤ m ∧ i = .int .i64 (k : Int) ∧ s6 = .float .f64 x ∧ s7 = .float .f64 y ∧ s8 = .float .f64 z ∧ Hid (Fl x (pG a a m k)) ∧ Hid (Fl y (pG b b m k)) ∧ Hid (Fl z (pG a b m k)) ∧ w5 = wr) (fun _ _ _ i _ => m - (intOf i).toNat)
  case atStart => exact ⟨0, 0, 0, 0, Nat.zero_le _, rfl, rfl, rfl, rfl, fl_zero, fl_zero, fl_zero, rfl⟩
  case round =>
    obtain ⟨k, x, y, z, hk, rfl, rfl, rfl, rfl, hx, hy, hz, rfl⟩ := hrel
    by_cases hlt : k < m
    · have dlt : decide (k < m) = true := decide_eq_true hlt
      obtain ⟨u, v, c1, fu, fv⟩ := Z5.out.cell hlt
      have ea := dv_bd HMA.out hm16 k; have eb := dv_bd HMB.out hm16 k
      have ga := pG_succ a a m k; have gb := pG_succ b b m k; have gab := pG_succ a b m k
      have ba := pG_bd HMA.out HMA.out hm16 hk; have bb := pG_bd HMB.out HMB.out hm16 hk; have bab := pG_bd HMA.out HMB.out hm16 hk
      rw [XA.out] at ea ga gab; rw [XB.out] at eb gb gab
      have maa := mul_bd ea ea; have mbb := mul_bd eb eb; have mab := mul_bd ea eb
      obtain ⟨r1, h1, f1⟩ := fl_mul fu fu (by omega)
      obtain ⟨r2, h2, f2⟩ := fl_mul fv fv (by omega)
      obtain ⟨r3, h3, f3⟩ := fl_mul fu fv (by omega)
      obtain ⟨x', h4, f4⟩ := fl_add hx.out f1 (by omega)
      obtain ⟨y', h5, f5⟩ := fl_add hy.out f2 (by omega)
      obtain ⟨z', h6, f6⟩ := fl_add hz.out f3 (by omega)
      rw [← ga] at f4; rw [← gb] at f5; rw [← gab] at f6
      have i1 : ∀ w, (binOp .mul 36 (.float .f64 u) (.float .f64 u)).run Try.prog w = .ok (.float .f64 r1) w := fun w => run_float_arith w .mul 36 .f64 _ _ _ h1
      have i2 : ∀ w, (binOp .mul 36 (.float .f64 v) (.float .f64 v)).run Try.prog w = .ok (.float .f64 r2) w := fun w => run_float_arith w .mul 36 .f64 _ _ _ h2
      have i3 : ∀ w, (binOp .mul 36 (.float .f64 u) (.float .f64 v)).run Try.prog w = .ok (.float .f64 r3) w := fun w => run_float_arith w .mul 36 .f64 _ _ _ h3
      have i4 : ∀ w, (binOp .add 36 (.float .f64 x) (.float .f64 r1)).run Try.prog w = .ok (.float .f64 x') w := fun w => run_float_arith w .add 36 .f64 _ _ _ h4
      have i5 : ∀ w, (binOp .add 36 (.float .f64 y) (.float .f64 r2)).run Try.prog w = .ok (.float .f64 y') w := fun w => run_float_arith w .add 36 .f64 _ _ _ h5
      have i6 : ∀ w, (binOp .add 36 (.float .f64 z) (.float .f64 r3)).run Try.prog w = .ok (.float .f64 z') w := fun w => run_float_arith w .add 36 .f64 _ _ _ h6
      have F4 := Lib.hid f4; have F5 := Lib.hid f5; have F6 := Lib.hid f6
      clear ea eb ga gb gab ba bb bab maa mbb mab h1 h2 h3 h4 h5 h6 f1 f2 f3 f4 f5 f6 fu fv hx hy hz
      go_wp2_with fail
      go_roundw
      case rel => exact ⟨k + 1, x', y', z', by omega, by go_num, rfl, rfl, rfl, F4, F5, F6, by first | rfl | trivial⟩
      case measure => simp [intOf]; omega
    · obtain rfl : k = m := by omega
      have dlt : decide (k < k) = false := decide_eq_false (by omega)
      have ba := pG_bd HMA.out HMA.out hm16 (Nat.le_refl k); have bb := pG_bd HMB.out HMB.out hm16 (Nat.le_refl k); have bab := pG_bd HMA.out HMB.out hm16 (Nat.le_refl k)
      obtain ⟨t, h1, ft⟩ := fl_mul fl_two hz.out (by omega)
      have i1 : ∀ w, (binOp .mul 36 (.float .f64 4611686018427387904) (.float .f64 z)).run Try.prog w = .ok (.float .f64 t) w := fun w => run_float_arith w .mul 36 .f64 _ _ _ h1
      have o1 := fl_gt hz.out fl_zero
      have o2 := fl_ge ft hx.out
      have o3 := fl_ge ft hy.out
      have bw := B5.out
      have xy := fun q h => alike_yes (n := k) HMA.out HMB.out ⟨by rw [HL.out]; omega, by rw [HL2.out]; omega⟩ (by rw [HL.out, HL2.out]; exact hmn) q h
      rw [HQ.out] at xy
      have XY := Lib.hid xy
      clear ba bb bab h1 ft hx hy hz xy
      by_cases q1 : 0 < pG a b k k
      case neg =>
        have hF : q = false := XY.out false ⟨fun h => (by cases h), fun h => absurd h.1 q1⟩
        subst hF
        rw [decide_eq_false q1] at o1
        clear o2 o3 XY q1
        go_wp2_with fail
        go_ret
        exact ⟨rfl, bw⟩
      case pos =>
      rw [decide_eq_true q1] at o1
      by_cases q2 : pG a a k k ≤ 2 * pG a b k k
      case neg =>
        have hF : q = false := XY.out false ⟨fun h => (by cases h), fun h => absurd h.2.1 q2⟩
        subst hF
        rw [decide_eq_false q2] at o2
        clear o3 XY q1 q2
        go_wp2_with fail
        go_ret
        exact ⟨rfl, bw⟩
      case pos =>
      rw [decide_eq_true q2] at o2
      by_cases q3 : pG b b k k ≤ 2 * pG a b k k
      case neg =>
        have hF : q = false := XY.out false ⟨fun h => (by cases h), fun h => absurd h.2.2 q3⟩
        subst hF
        rw [decide_eq_false q3] at o3
        clear XY q1 q2 q3
        go_wp2_with fail
        go_ret
        exact ⟨rfl, bw⟩
      case pos =>
      have hF : q = true := XY.out true ⟨fun _ => ⟨q1, q2, q3⟩, fun _ => rfl⟩
      subst hF
      rw [decide_eq_true q3] at o3
      clear XY q1 q2 q3
      go_wp2_with fail
      go_ret
      exact ⟨rfl, bw⟩
end Go.Proofs.Ytbaaglgoodckmaa
