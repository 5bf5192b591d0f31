/- Fix Mul More RtRef2 RtLo1 MsRef2 MsRef3. -/
import Derived.Test.YtbijhkhkigdddaaGreatP20
import Derived.Shelf.Abstract
set_option linter.all false
set_option maxRecDepth 100000
set_option maxHeartbeats 32000000
namespace Go.Proofs.YtbijhkhkigdddaaGreat
open Go.RowKit
def RowOf (B : Nat) (zs : List Int) (w : World) : Prop := ∀ i (h : i < zs.length), w.cell? ⟨B, i, none⟩ = some (.int .i64 zs[i])
theorem checked_yes (n : Nat) (f : Nat) (hent : ∀ args w, (callFunc f args).run Tryz.prog w = .ok (.enter f args) w) (caps : Array Value) (B : Nat) (zs : List Int) (r : Int) (w : World) (hn : zs.length = n) (hz : zs.length ≤ 3) (hin : ∀ z ∈ zs, inB z = true) (hrow : RowOf B zs w)
  (hcall : Hid (Calls Tryz.prog f caps w fun e w' => e = .returned (.tuple #[r, .bool true]) ∧ Below w.heap.size w w')) (hr : inB r = true) :
  Calls Tryz.prog 210 #[.func (.func f) #[] caps, .slice (some ⟨B, 0, none⟩) n n] w fun e w' => e = .returned (.tuple #[r, .bool true]) ∧ Below w.heap.size w w' := by
 subst hn
 have Hin := Zh hin; clear hin
 have Hrow := Zh hrow; clear hrow
 go_enter Tryz.func210, Tryz.ntmps210
 go_wp2_with fail
 go_loop [12] (fun i => ∃ k : Nat, k ≤ zs.length ∧ i = .int .i64 k) (fun i => zs.length - (intOf i).toNat)
 case atStart => exact ⟨0, Nat.zero_le _, rfl⟩
 case round =>
  obtain ⟨k, hk, rfl⟩ := hrel
  by_cases hlt : k < zs.length
  ·have hcell := Hrow.out k hlt
   have hi := Hin.out _ (List.getElem_mem hlt)
   go_wp2_with (go_at_call 230; refine (in_yes _ _ (by assumption)).mono ?_; rintro e w' ⟨rfl, rfl⟩)
   go_round
   case rel => exact ⟨k + 1, by omega, by go_num⟩
   case measure => simp [intOf]; omega
  ·go_wp2_with (first | (go_at_fn f; refine hcall.out.mono ?_; rintro e w' ⟨rfl, hb⟩) | (go_at_call 230; refine (in_yes _ _ hr).mono ?_; rintro e w' ⟨rfl, rfl⟩))
   go_ret2
   exact ⟨rfl, hb⟩
theorem checked_no (n : Nat) (f : Nat) (hent : ∀ args w, (callFunc f args).run Tryz.prog w = .ok (.enter f args) w) (caps : Array Value) (B : Nat) (zs : List Int) (r : Int) (w : World) (hn : zs.length = n) (hz : zs.length ≤ 3) (hin : ∀ z ∈ zs, inB z = true) (hrow : RowOf B zs w)
  (ok : Bool) (hcall : Hid (Calls Tryz.prog f caps w fun e w' => e = .returned (.tuple #[r, ok]) ∧ Below w.heap.size w w')) (hr : ok = false ∨ inB r = false) :
  Calls Tryz.prog 210 #[.func (.func f) #[] caps, .slice (some ⟨B, 0, none⟩) n n] w fun e w' => e = .returned (.tuple #[.int .i64 0, .bool false]) ∧ Below w.heap.size w w' := by
 subst hn
 have Hin := Zh hin; clear hin
 have Hrow := Zh hrow; clear hrow
 go_enter Tryz.func210, Tryz.ntmps210
 go_wp2_with fail
 go_loop [12] (fun i => ∃ k : Nat, k ≤ zs.length ∧ i = .int .i64 k) (fun i => zs.length - (intOf i).toNat)
 case atStart => exact ⟨0, Nat.zero_le _, rfl⟩
 case round =>
  obtain ⟨k, hk, rfl⟩ := hrel
  by_cases hlt : k < zs.length
  ·have hcell := Hrow.out k hlt
   have hi := Hin.out _ (List.getElem_mem hlt)
   go_wp2_with (go_at_call 230; refine (in_yes _ _ (by assumption)).mono ?_; rintro e w' ⟨rfl, rfl⟩)
   go_round
   case rel => exact ⟨k + 1, by omega, by go_num⟩
   case measure => simp [intOf]; omega
  ·cases ok with
   | false =>
    clear hr
    go_wp2_with (go_at_fn f; refine hcall.out.mono ?_; rintro e w' ⟨rfl, hb⟩)
    go_ret2
    exact ⟨rfl, hb⟩
   | true =>
    have hr' := hr.resolve_left (by decide)
    clear hr
    go_wp2_with (first | (go_at_fn f; refine hcall.out.mono ?_; rintro e w' ⟨rfl, hb⟩) | (go_at_call 230; refine (in_no _ _ hr').mono ?_; rintro e w' ⟨rfl, rfl⟩))
    go_ret2
    exact ⟨rfl, hb⟩
theorem checked_bad (n : Nat) (F : Value) (B : Nat) (zs : List Int) (w : World) (hn : zs.length = n) (hz : zs.length ≤ 3) (hin : ¬ ∀ z ∈ zs, inB z = true) (hrow : RowOf B zs w) :
  Calls Tryz.prog 210 #[F, .slice (some ⟨B, 0, none⟩) n n] w fun e w' => e = .returned (.tuple #[.int .i64 0, .bool false]) ∧ Below w.heap.size w w' := by
 subst hn
 have Hin := Zh hin; clear hin
 have Hrow := Zh hrow; clear hrow
 go_enter Tryz.func210, Tryz.ntmps210
 go_wp2_with fail
 go_loop [12] (fun i => ∃ k : Nat, k ≤ zs.length ∧ Hid (∀ j (h : j < zs.length), j < k → inB zs[j] = true) ∧ i = .int .i64 k) (fun i => zs.length - (intOf i).toNat)
 case atStart => exact ⟨0, Nat.zero_le _, fun _ _ h => absurd h (by omega), rfl⟩
 case round =>
  obtain ⟨k, hk, hkk, rfl⟩ := hrel
  by_cases hlt : k < zs.length
  ·have hcell := Hrow.out k hlt
   by_cases hi : inB zs[k] = true
   ·go_wp2_with (go_at_call 230; refine (in_yes _ _ (by assumption)).mono ?_; rintro e w' ⟨rfl, rfl⟩)
    go_round
    case rel =>
     refine ⟨k + 1, by omega, ?_, by go_num⟩
     intro j h hj
     by_cases e : j = k
     ·subst e; exact hi
     ·exact hkk.out j h (by omega)
    case measure => simp [intOf]; omega
   ·have hi' : inB zs[k] = false := by simpa using hi
    clear hi
    go_wp2_with (go_at_call 230; refine (in_no _ _ (by assumption)).mono ?_; rintro e w' ⟨rfl, rfl⟩)
    go_ret2
    exact ⟨rfl, Below.refl _ _⟩
  ·refine (Hin.out ?_).elim
   intro z hz'
   obtain ⟨j, hj, rfl⟩ := List.getElem_of_mem hz'
   exact hkk.out j hj (by omega)
theorem ent_add : ∀ args w, (callFunc 232 args).run Tryz.prog w = .ok (.enter 232 args) w := enters_of Tryz.func232 (by kernel_rfl) rfl
theorem ent_mul : ∀ args w, (callFunc 211 args).run Tryz.prog w = .ok (.enter 211 args) w := enters_of Tryz.func211 (by kernel_rfl) rfl
theorem ent_ewma : ∀ args w, (callFunc 215 args).run Tryz.prog w = .ok (.enter 215 args) w := enters_of Tryz.func215 (by kernel_rfl) rfl
theorem add_fn (p q : Addr) (a b : Int) (w : World) (ha : w.cell? p = some (.int .i64 a)) (hb : w.cell? q = some (.int .i64 b)) :
  Calls Tryz.prog 232 #[.pointer (some p), .pointer (some q)] w fun e w' => e = .returned (.tuple #[.int .i64 (wrap64 (a + b)), .bool true]) ∧ Below w.heap.size w w' := by
 go_enter Tryz.func232, Tryz.ntmps232
 go_wp2
 go_ret2
 exact ⟨rfl, Below.refl _ _⟩
theorem wrap_add (a b : Int) (ha : inB a = true) (hb : inB b = true) : inB (wrap64 (a + b)) = inB (a + b) ∧ (inB (a + b) = true → wrap64 (a + b) = a + b) := by
 rw [inB_iff] at ha hb
 by_cases h : a + b ≤ 9223372036854775807
 ·have e : wrap64 (a + b) = a + b := IntWalk.wrap64_in _ ⟨by omega, by omega⟩
  rw [e]; exact ⟨rfl, fun _ => rfl⟩
 ·have e : wrap64 (a + b) = -9223372036854775808 := by
   have : a + b = 9223372036854775808 := by omega
   simp only [wrap64]; omega
  have e2 : inB (a + b) = false := by rw [inB_not]; omega
  rw [e, e2]
  exact ⟨by decide, fun h => by cases h⟩
def tell (r : Int) (ok : Bool) : Int := if ok then r else 0
def okAll (zs : List Int) (r : Int) (ok : Bool) : Bool := zs.all inB && ok && inB r
theorem checked_any (n : Nat) (f : Nat) (hent : ∀ args w, (callFunc f args).run Tryz.prog w = .ok (.enter f args) w) (caps : Array Value) (B : Nat) (zs : List Int) (r : Int) (ok : Bool) (w : World) (hn : zs.length = n) (hz : zs.length ≤ 3) (hrow : RowOf B zs w)
  (hcall : (∀ z ∈ zs, inB z = true) → Calls Tryz.prog f caps w fun e w' => e = .returned (.tuple #[r, ok]) ∧ Below w.heap.size w w') :
  Calls Tryz.prog 210 #[.func (.func f) #[] caps, .slice (some ⟨B, 0, none⟩) n n] w fun e w' => e = .returned (.tuple #[.int .i64 (tell r (okAll zs r ok)), .bool (okAll zs r ok)]) ∧ Below w.heap.size w w' := by
 by_cases h : ∀ z ∈ zs, inB z = true
 ·have hall : zs.all inB = true := by simpa using h
  by_cases h2 : ok = true ∧ inB r = true
  ·obtain ⟨rfl, h3⟩ := h2
   have e : okAll zs r true = true := by simp [okAll, hall, h3]
   rw [e]
   exact checked_yes n f hent caps B zs r w hn hz h hrow (hcall h) h3
  ·have h3 : ok = false ∨ inB r = false := by
    cases ok
    ·exact .inl rfl
    ·right; simpa using h2
   have e : okAll zs r ok = false := by
    rcases h3 with h3 | h3 <;> simp [okAll, h3]
   rw [e]
   exact checked_no n f hent caps B zs r w hn hz h hrow ok (hcall h) h3
 ·have e : okAll zs r ok = false := by
   have : zs.all inB = false := by simpa using h
   simp [okAll, this]
  rw [e]
  exact checked_bad n (.func (.func f) #[] caps) B zs w hn hz h hrow
def addOk (a b : Int) : Bool := inB a && inB b && inB (a + b)
theorem add_eq (a b : Int) : okAll [a, b] (wrap64 (a + b)) true = addOk a b ∧ tell (wrap64 (a + b)) (addOk a b) = tell (a + b) (addOk a b) := by
 by_cases h1 : inB a = true
 ·by_cases h2 : inB b = true
  ·obtain ⟨e1, e2⟩ := wrap_add a b h1 h2
   refine ⟨by simp [okAll, addOk, h1, h2, e1], ?_⟩
   by_cases h3 : inB (a + b) = true
   ·rw [e2 h3]
   ·simp [tell, addOk, h3]
  ·simp [okAll, addOk, h2, tell]
 ·simp [okAll, addOk, h1, tell]
theorem row2 (a b : Int) (w : World) (T B : Nat) (hB : B = w.heap.size) : RowOf B [a, b] (w.alloc (.cells #[a, b] T)) := by
 subst hB
 intro i h
 match i, h with
 | 0, _ => go_simp
 | 1, _ => go_simp
theorem row3 (a b c : Int) (w : World) (T B : Nat) (hB : B = w.heap.size) : RowOf B [a, b, c] (w.alloc (.cells #[a, b, c] T)) := by
 subst hB
 intro i h
 match i, h with
 | 0, _ => go_simp
 | 1, _ => go_simp
 | 2, _ => go_simp
theorem add_any (a b : Int) (w : World) :
  Calls Tryz.prog 216 #[a, b] w fun e w' => e = .returned (.tuple #[.int .i64 (tell (a + b) (addOk a b)), .bool (addOk a b)]) ∧ Below w.heap.size w w' := by
 obtain ⟨e1, e2⟩ := add_eq a b
 rw [← e2, ← e1]; clear e1 e2
 go_enter Tryz.func216, Tryz.ntmps216
 go_wp2_with fail
 refine (checked_any 2 232 ent_add _ _ [a, b] (wrap64 (a + b)) true _ rfl (by simp) ?_ ?_).mono ?_
 ·exact row2 a b _ _ _ (by simp)
 ·intro _
  refine add_fn _ _ a b _ ?_ ?_
  ·go_simp
  ·go_simp
 ·rintro e w' ⟨rfl, hb⟩
  go_wp2
  go_ret2
  exact ⟨rfl, (((Below.refl _ w).alloc Zr _).alloc (by simp) _).alloc (by simp; omega) _ |>.trans (hb.mono (by simp; omega))⟩
theorem halves (N : Nat) : N / 18446744073709551616 * 18446744073709551616 + N % 18446744073709551616 = N := by omega
theorem neg_ediv (N c : Nat) (hc : 0 < c) : (-(N : Int)) / (c : Int) = -(((N / c + (if 0 < N % c then 1 else 0) : Nat)) : Int) := by
 have h1 := Nat.div_add_mod N c
 have h2 := Nat.mod_lt N hc
 generalize hq : N / c = q at *
 generalize hr : N % c = r at *
 have e : (N : Int) = (c : Int) * q + r := by exact_mod_cast h1.symm
 by_cases h : 0 < r
 ·rw [if_pos h, e]
  have : -((c : Int) * q + r) = ((c : Int) - r) + c * (-(q : Int) - 1) := by rw [Int.mul_sub, Int.mul_neg]; omega
  rw [this, Int.add_mul_ediv_left _ _ (by omega), Int.ediv_eq_zero_of_lt (by omega) (by omega)]
  omega
 ·have hr0 : r = 0 := by omega
  subst hr0
  rw [if_neg h, e]
  have : -((c : Int) * q + ((0 : Nat) : Int)) = 0 + c * (-(q : Int)) := by rw [Int.mul_neg]; omega
  rw [this, Int.add_mul_ediv_left _ _ (by omega)]
  simp
def bigB (a b c : Int) : Bool := decide (4611686018427387904 < a.natAbs * b.natAbs / c.toNat)
def mdFnOk (a b c : Int) : Bool := decide (1 ≤ c) && !bigB a b c
def mdFnR (a b c : Int) : Int := if mdFnOk a b c then a * b / c else 0
theorem mul_sign (a b : Int) : a * b = if (!(decide (a < 0) == decide (b < 0))) = true then -((a.natAbs * b.natAbs : Nat) : Int) else ((a.natAbs * b.natAbs : Nat) : Int) := by
 rw [Int.natCast_mul]
 by_cases ha : a < 0
 ·by_cases hb : b < 0
  ·have e1 : (a.natAbs : Int) = -a := by omega
   have e2 : (b.natAbs : Int) = -b := by omega
   simp [ha, hb, e1, e2, Int.neg_mul, Int.mul_neg]
  ·have e1 : (a.natAbs : Int) = -a := by omega
   have e2 : (b.natAbs : Int) = b := by omega
   simp [ha, hb, e1, e2, Int.neg_mul]
 ·by_cases hb : b < 0
  ·have e1 : (a.natAbs : Int) = a := by omega
   have e2 : (b.natAbs : Int) = -b := by omega
   simp [ha, hb, e1, e2, Int.mul_neg]
  ·have e1 : (a.natAbs : Int) = a := by omega
   have e2 : (b.natAbs : Int) = b := by omega
   simp [ha, hb, e1, e2]
theorem abs_mul_lt (a b : Int) (ha : inB a = true) (hb : inB b = true) : a.natAbs * b.natAbs ≤ 4611686018427387904 * 4611686018427387904 := by
 rw [inB_iff] at ha hb
 exact Nat.mul_le_mul (by omega) (by omega)
theorem md_fn_low (p q r : Addr) (a b c : Int) (w : World) (hc : w.cell? p = some (.int .i64 c)) (h : c < 1) :
  Calls Tryz.prog 211 #[.pointer (some p), .pointer (some q), .pointer (some r)] w fun e w' => e = .returned (.tuple #[.int .i64 (mdFnR a b c), .bool (mdFnOk a b c)]) ∧ Below w.heap.size w w' := by
 have e : mdFnOk a b c = false := by simp [mdFnOk]; omega
 have e2 : mdFnR a b c = 0 := by simp [mdFnR, e]
 rw [e, e2]; clear e e2
 go_enter Tryz.func211, Tryz.ntmps211
 go_wp2
 go_ret2
 exact ⟨rfl, Below.refl _ _⟩
theorem quo_any (hi lo c : Nat) (neg : Bool) (w : World) (hc : 0 < c) (hl : lo < 18446744073709551616) (hcb : c < 18446744073709551616) :
  Calls Tryz.prog 214 #[.int .u64 hi, .int .u64 lo, .int .u64 c, neg] w fun e w' => e = .returned (.tuple #[.int .i64 (quoR (hi * 18446744073709551616 + lo) c neg).1, .bool (quoR (hi * 18446744073709551616 + lo) c neg).2]) ∧ Below w.heap.size w w' := by
 by_cases h : 4611686018427387904 < (hi * 18446744073709551616 + lo) / c
 ·simp only [quoR, if_pos h]
  exact quo_big hi lo c neg w hl hcb h
 ·simp only [quoR, if_neg h]
  cases neg
  ·exact quo_pos hi lo c w hc hl hcb (by omega)
  ·exact quo_neg hi lo c w hc hl hcb (by omega)
theorem quo_is (a b c : Int) (h1 : 1 ≤ c) : quoR (a.natAbs * b.natAbs) c.toNat (!(decide (a < 0) == decide (b < 0))) = (mdFnR a b c, mdFnOk a b c) := by
 have hs := mul_sign a b
 have hok : mdFnOk a b c = !bigB a b c := by simp [mdFnOk, h1]
 obtain ⟨n, rfl⟩ : ∃ n : Nat, c = n := ⟨c.toNat, by omega⟩
 have hc0 : 0 < n := by omega
 rw [Int.toNat_natCast]
 unfold quoR
 by_cases h : 4611686018427387904 < a.natAbs * b.natAbs / n
 ·have e : mdFnOk a b n = false := by rw [hok]; simp [bigB, h]
  rw [if_pos h]; simp [mdFnR, e]
 ·have e : mdFnOk a b n = true := by rw [hok]; simp only [bigB, Int.toNat_natCast, Zf h]; rfl
  rw [if_neg h]
  simp only [mdFnR, e, if_true]
  generalize (!(decide (a < 0) == decide (b < 0))) = neg at *
  cases neg
  ·simp only [Bool.false_eq_true, if_false] at hs ⊢
   rw [hs, ← Int.natCast_ediv]
  ·simp only [if_true] at hs ⊢
   rw [hs, neg_ediv _ _ hc0]
theorem md_fn_high (p q r : Addr) (a b c : Int) (w : World) (hc : w.cell? p = some (.int .i64 c)) (ha : w.cell? q = some (.int .i64 a)) (hb : w.cell? r = some (.int .i64 b))
  (h : 1 ≤ c) (hcb : c ≤ 4611686018427387904) (ha1 : -4611686018427387904 ≤ a) (ha2 : a ≤ 4611686018427387904) (hb1 : -4611686018427387904 ≤ b) (hb2 : b ≤ 4611686018427387904) :
  Calls Tryz.prog 211 #[.pointer (some p), .pointer (some q), .pointer (some r)] w fun e w' => e = .returned (.tuple #[.int .i64 (mdFnR a b c), .bool (mdFnOk a b c)]) ∧ Below w.heap.size w w' := by
 have hq := quo_is a b c h
 have hN := abs_mul_lt a b (by rw [inB_iff]; omega) (by rw [inB_iff]; omega)
 have hlt : a.natAbs < 18446744073709551616 := by omega
 have hltb : b.natAbs < 18446744073709551616 := by omega
 have hm := Tryz.bits_Mul64 a.natAbs b.natAbs hlt hltb
 have hqc := fun w => quo_any (a.natAbs * b.natAbs / 18446744073709551616) (a.natAbs * b.natAbs % 18446744073709551616) c.toNat (!(decide (a < 0) == decide (b < 0))) w (by omega) (by omega) (by omega)
 rw [halves, hq] at hqc
 generalize hhi : a.natAbs * b.natAbs / 18446744073709551616 = hi at *
 generalize hlo : a.natAbs * b.natAbs % 18446744073709551616 = lo at *
 have hcc : ((c.toNat : Nat) : Int) = c := by omega
 rw [hcc] at hqc
 clear hq hN hhi hlo hcc
 have Hm := Zh hm; clear hm
 have Hq := Zh hqc; clear hqc
 have hn : ¬ c < 1 := by omega
 go_enter Tryz.func211, Tryz.ntmps211
 go_wp2
 go_quiet ((first | (go_at_call 213; exact Calls.quiet_of_same ((mag_any _ _ (by assumption) (by assumption)).mono fun _ _ h => ⟨h.1, h.2.symm⟩)) | (go_at_call 212; exact Calls.quiet_of_same (Hm.out _))))
 go_wp2_with (go_at_call 214; refine (Hq.out _).mono ?_; rintro e w' ⟨rfl, hbw⟩)
 go_ret2
 exact ⟨rfl, (below_drewN (Zb) _).trans (hbw.mono Zr)⟩
def mdOk (a b c : Int) : Bool := inB a && inB b && inB c && decide (1 ≤ c) && inB (a * b / c)
theorem big_out (a b c : Int) (h1 : 1 ≤ c) (h : bigB a b c = true) : inB (a * b / c) = false := by
 have hs := mul_sign a b
 obtain ⟨n, rfl⟩ : ∃ n : Nat, c = n := ⟨c.toNat, by omega⟩
 have hc0 : 0 < n := by omega
 simp only [bigB, Int.toNat_natCast, decide_eq_true_eq] at h
 rw [inB_not]
 generalize (!(decide (a < 0) == decide (b < 0))) = neg at *
 cases neg
 ·simp only [Bool.false_eq_true, if_false] at hs
  rw [hs, ← Int.natCast_ediv]
  omega
 ·simp only [if_true] at hs
  rw [hs, neg_ediv _ _ hc0]
  omega
theorem md_eq (a b c : Int) : okAll [a, b, c] (mdFnR a b c) (mdFnOk a b c) = mdOk a b c ∧ tell (mdFnR a b c) (mdOk a b c) = tell (a * b / c) (mdOk a b c) := by
 by_cases h1 : 1 ≤ c
 ·by_cases h : bigB a b c = true
  ·have h2 := big_out a b c h1 h
   have e : mdOk a b c = false := by simp [mdOk, h2]
   have e2 : mdFnOk a b c = false := by simp [mdFnOk, h]
   simp [okAll, e, e2, tell]
  ·have e2 : mdFnOk a b c = true := by simp [mdFnOk, h, h1]
   have e3 : mdFnR a b c = a * b / c := by simp [mdFnR, e2]
   simp [okAll, mdOk, e2, e3, h1, Bool.and_assoc]
 ·have e : mdOk a b c = false := by simp [mdOk, h1]
  have e2 : mdFnOk a b c = false := by simp [mdFnOk, h1]
  simp [okAll, e, e2, tell]
theorem md_any (a b c : Int) (w : World) :
  Calls Tryz.prog 184 #[a, b, c] w fun e w' => e = .returned (.tuple #[.int .i64 (tell (a * b / c) (mdOk a b c)), .bool (mdOk a b c)]) ∧ Below w.heap.size w w' := by
 obtain ⟨e1, e2⟩ := md_eq a b c
 rw [← e2, ← e1]; clear e1 e2
 go_enter Tryz.func184, Tryz.ntmps184
 go_wp2_with fail
 refine (checked_any 3 211 ent_mul _ _ [a, b, c] (mdFnR a b c) (mdFnOk a b c) _ rfl (by simp) ?_ ?_).mono ?_
 ·exact row3 a b c _ _ _ (by simp)
 ·intro hall
  have ha := (inB_iff _).1 (hall a (by simp))
  have hb := (inB_iff _).1 (hall b (by simp))
  have hc := (inB_iff _).1 (hall c (by simp))
  by_cases h : 1 ≤ c
  ·refine md_fn_high _ _ _ a b c _ ?_ ?_ ?_ h hc.2 ha.1 ha.2 hb.1 hb.2
   ·go_simp
   ·go_simp
   ·go_simp
  ·refine md_fn_low _ _ _ a b c _ ?_ (by omega)
   go_simp
 ·rintro e w' ⟨rfl, hb⟩
  go_wp2
  go_ret2
  exact ⟨rfl, ((((Below.refl _ w).alloc Zr _).alloc (by simp) _).alloc (by simp; omega) _).alloc (by simp; omega) _ |>.trans (hb.mono (by simp; omega))⟩
theorem div_any (a b : Int) (w : World) :
  Calls Tryz.prog 173 #[a, b] w fun e w' => e = .returned (.tuple #[.int .i64 (tell (a / b) (mdOk a 1 b)), .bool (mdOk a 1 b)]) ∧ Below w.heap.size w w' := by
 have h := md_any a 1 b
 rw [Int.mul_one] at h
 have H := Zh h; clear h
 go_enter Tryz.func173, Tryz.ntmps173
 go_wp2_with (go_at_call 184; refine (H.out _).mono ?_; rintro e w' ⟨rfl, hb⟩)
 go_ret2
 exact ⟨rfl, hb⟩
theorem clamp_any (n low high : Int) (w : World) :
  Calls Tryz.prog 157 #[n, low, high] w fun e w' => e = .returned (.int .i64 (if n < low ∨ high < low then low else if high < n then high else n)) ∧ w = w' := by
 by_cases h1 : n < low
 ·rw [if_pos (.inl h1)]
  go_enter Tryz.func157, Tryz.ntmps157
  go_wp2
  go_ret
  exact ⟨rfl, rfl⟩
 ·by_cases h2 : high < low
  ·rw [if_pos (.inr h2)]
   go_enter Tryz.func157, Tryz.ntmps157
   go_wp2
   go_ret
   exact ⟨rfl, rfl⟩
  ·rw [if_neg (by omega)]
   by_cases h3 : high < n
   ·rw [if_pos h3]
    have h4 : min n high = high := by omega
    go_enter Tryz.func157, Tryz.ntmps157
    go_wp2
    go_ret
    exact ⟨rfl, rfl⟩
   ·rw [if_neg h3]
    have h4 : min n high = n := by omega
    go_enter Tryz.func157, Tryz.ntmps157
    go_wp2
    go_ret
    exact ⟨rfl, rfl⟩
def ewOk (old sample shift : Int) : Bool := inB old && inB sample && inB (sample - old) && decide (0 ≤ shift) && decide (shift ≤ 30)
def ewR (old sample shift : Int) : Int := old + (sample - old) / 2 ^ shift.toNat
theorem ew_between (old sample : Int) (k : Nat) : (old ≤ sample → old ≤ old + (sample - old) / 2 ^ k ∧ old + (sample - old) / 2 ^ k ≤ sample) ∧ (sample ≤ old → sample ≤ old + (sample - old) / 2 ^ k ∧ old + (sample - old) / 2 ^ k ≤ old) := by
 have hp : (1 : Int) ≤ 2 ^ k := by exact_mod_cast Nat.two_pow_pos k
 generalize (2 : Int) ^ k = t at *
 have h1 := Int.emod_nonneg (sample - old) (show t ≠ 0 by omega)
 have h2 := Int.emod_lt_of_pos (sample - old) (show 0 < t by omega)
 have h3 := Int.mul_ediv_add_emod (sample - old) t
 constructor
 ·intro h
  have h4 : 0 ≤ (sample - old) / t := Int.ediv_nonneg (by omega) (by omega)
  have h5 : (sample - old) / t ≤ sample - old := Int.ediv_le_self _ (by omega)
  omega
 ·intro h
  have h4 : (sample - old) / t ≤ 0 := by
   have := Int.ediv_le_ediv (show 0 < t by omega) (show sample - old ≤ 0 by omega)
   simpa using this
  have h5 : sample - old ≤ (sample - old) / t := by
   rw [Int.le_ediv_iff_mul_le (by omega)]
   have h6 : (sample - old) * t ≤ (sample - old) * 1 := Int.mul_le_mul_of_nonpos_left (by omega) hp
   omega
  omega
def shB (shift : Int) : Bool := decide (0 ≤ shift) && decide (shift ≤ 30)
def ewFnOk (old sample shift : Int) : Bool := shB shift && addOk sample (-old)
def ewFnR (old sample shift : Int) : Int := if shB shift then old + tell (sample + -old) (addOk sample (-old)) / 2 ^ shift.toNat else 0
theorem ewma_low (p q r : Addr) (old sample shift : Int) (w : World) (hp : w.cell? p = some (.int .i64 shift)) (h : shB shift = false) :
  Calls Tryz.prog 215 #[.pointer (some p), .pointer (some q), .pointer (some r)] w fun e w' => e = .returned (.tuple #[.int .i64 (ewFnR old sample shift), .bool (ewFnOk old sample shift)]) ∧ Below w.heap.size w w' := by
 have e1 : ewFnR old sample shift = 0 := by simp [ewFnR, h]
 have e2 : ewFnOk old sample shift = false := by simp [ewFnOk, h]
 rw [e1, e2]; clear e1 e2
 by_cases h0 : shift < 0
 ·clear h
  go_enter Tryz.func215, Tryz.ntmps215
  go_wp2
  go_ret2
  exact ⟨rfl, Below.refl _ _⟩
 ·have h1 : 30 < shift := by simp [shB] at h; omega
  clear h
  go_enter Tryz.func215, Tryz.ntmps215
  go_wp2
  go_ret2
  exact ⟨rfl, Below.refl _ _⟩
theorem way_bounds (old sample : Int) (k : Nat) (h1 : -4611686018427387904 ≤ old) (h2 : old ≤ 4611686018427387904) (h3 : -4611686018427387904 ≤ sample) (h4 : sample ≤ 4611686018427387904) :
  ∃ d : Int, tell (sample + -old) (addOk sample (-old)) / 2 ^ k = d ∧ -4611686018427387904 ≤ old + d ∧ old + d ≤ 4611686018427387904 := by
 refine ⟨_, rfl, ?_⟩
 unfold tell
 by_cases h : addOk sample (-old) = true
 ·rw [if_pos h, ← Int.sub_eq_add_neg]
  obtain ⟨a, b⟩ := ew_between old sample k
  rcases Int.le_total old sample with h5 | h5
  ·have := a h5; omega
  ·have := b h5; omega
 ·rw [if_neg h, Int.zero_ediv]; omega
theorem ewma_high (p q r : Addr) (old sample : Int) (k : Nat) (w : World) (hk : k ≤ 30) (hp : w.cell? p = some (.int .i64 k)) (hq : w.cell? q = some (.int .i64 sample)) (hr : w.cell? r = some (.int .i64 old))
  (hpb : p.block < w.heap.size) (hrb : r.block < w.heap.size)
  (h1 : -4611686018427387904 ≤ old) (h2 : old ≤ 4611686018427387904) (h3 : -4611686018427387904 ≤ sample) (h4 : sample ≤ 4611686018427387904) :
  Calls Tryz.prog 215 #[.pointer (some p), .pointer (some q), .pointer (some r)] w fun e w' => e = .returned (.tuple #[.int .i64 (ewFnR old sample k), .bool (ewFnOk old sample k)]) ∧ Below w.heap.size w w' := by
 have hs : shB k = true := by simp [shB]; omega
 have e1 : ewFnR old sample k = old + tell (sample + -old) (addOk sample (-old)) / 2 ^ k := by simp [ewFnR, hs]
 have e2 : ewFnOk old sample k = addOk sample (-old) := by simp [ewFnOk, hs]
 rw [e1, e2]; clear e1 e2 hs
 obtain ⟨d, hd, hd1, hd2⟩ := way_bounds old sample k h1 h2 h3 h4
 rw [hd]
 have hk0 : ¬ ((k : Int) < 0) := by omega
 have hk1 : ¬ (30 < (k : Int)) := by omega
 have hm : min k 64 = k := by omega
 go_enter Tryz.func215, Tryz.ntmps215
 go_wp2_with (go_at_call 216; refine (add_any _ _ _).mono ?_; rintro e w1 ⟨rfl, hb⟩; have hp1 := (hb.cell hpb).trans hp; have hr1 := (hb.cell hrb).trans hr)
 go_quiet (fail)
 go_wp2
 go_ret2
 exact ⟨rfl, below_drewN hb _⟩
theorem ew_eq (old sample shift : Int) : okAll [old, sample] (ewFnR old sample shift) (ewFnOk old sample shift) = ewOk old sample shift ∧ tell (ewFnR old sample shift) (ewOk old sample shift) = tell (ewR old sample shift) (ewOk old sample shift) := by
 by_cases h1 : inB old = true
 ·by_cases h2 : inB sample = true
  ·by_cases hs : shB shift = true
   ·have hn : inB (-old) = true := by rw [inB_iff] at *; omega
    have ha : addOk sample (-old) = inB (sample - old) := by simp [addOk, h2, hn, Int.sub_eq_add_neg]
    have e1 : ewOk old sample shift = inB (sample - old) := by
     simp only [shB, Bool.and_eq_true, decide_eq_true_eq] at hs
     simp [ewOk, h1, h2, hs.1, hs.2]
    have e2 : ewFnOk old sample shift = inB (sample - old) := by simp [ewFnOk, hs, ha]
    rw [e1, e2]
    by_cases h3 : inB (sample - old) = true
    ·have e3 : ewFnR old sample shift = ewR old sample shift := by
      simp only [ewFnR, ewR, hs, ha, h3, tell, if_true]
      rw [Int.sub_eq_add_neg]
     have e4 : inB (ewR old sample shift) = true := by
      rw [inB_iff] at h1 h2 ⊢
      obtain ⟨a, b⟩ := ew_between old sample shift.toNat
      unfold ewR
      rcases Int.le_total old sample with h5 | h5
      ·have := a h5; omega
      ·have := b h5; omega
     rw [e3]
     simp [okAll, h1, h2, h3, e4]
    ·simp [okAll, h3, tell]
   ·have e1 : ewOk old sample shift = false := by
     simp only [shB, Bool.and_eq_true, decide_eq_true_eq] at hs
     simp [ewOk]; intros; omega
    have e2 : ewFnOk old sample shift = false := by simp [ewFnOk, hs]
    simp [okAll, e1, e2, tell]
  ·simp [okAll, ewOk, h2, tell]
 ·simp [okAll, ewOk, h1, tell]
theorem ewma_any (old sample shift : Int) (w : World) :
  Calls Tryz.prog 185 #[old, sample, shift] w fun e w' => e = .returned (.tuple #[.int .i64 (tell (ewR old sample shift) (ewOk old sample shift)), .bool (ewOk old sample shift)]) ∧ Below w.heap.size w w' := by
 obtain ⟨e1, e2⟩ := ew_eq old sample shift
 rw [← e2, ← e1]; clear e1 e2
 go_enter Tryz.func185, Tryz.ntmps185
 go_wp2_with fail
 refine (checked_any 2 215 ent_ewma _ _ [old, sample] (ewFnR old sample shift) (ewFnOk old sample shift) _ rfl (by simp) ?_ ?_).mono ?_
 ·exact row2 old sample _ _ _ (by simp)
 ·intro hall
  have ho := (inB_iff _).1 (hall old (by simp))
  have hs := (inB_iff _).1 (hall sample (by simp))
  by_cases h : shB shift = true
  ·simp only [shB, Bool.and_eq_true, decide_eq_true_eq] at h
   obtain ⟨k, rfl⟩ : ∃ k : Nat, shift = k := ⟨shift.toNat, by omega⟩
   refine ewma_high _ _ _ old sample k _ (by omega) ?_ ?_ ?_ (by simp <;> omega) (by simp <;> omega) ho.1 ho.2 hs.1 hs.2
   ·go_simp
   ·go_simp
   ·go_simp
  ·refine ewma_low _ _ _ old sample shift _ ?_ (by simpa using h)
   go_simp
 ·rintro e w' ⟨rfl, hb⟩
  go_wp2
  go_ret2
  exact ⟨rfl, ((((Below.refl _ w).alloc Zr _).alloc (by simp) _).alloc (by simp; omega) _).alloc (by simp; omega) _ |>.trans (hb.mono (by simp; omega))⟩
theorem info_rtt : (Tryz.prog.info? 24).map (·.size) = some 5 := by kernel_rfl
theorem rtt_struct : ∃ fs, Tryz.prog.underlying 24 = some (.struct fs) := ⟨_, Tryz.underlying24⟩
section
variable {W : World} {B : Nat} {t : TypeId} {cs : List Value}
def rt_put := @g_put
def rt_grown := @g_grown
def rt_load := @g_load 24 5 rtt_struct info_rtt
theorem rt_store {ops : Array Oper} {rest : List Oper} {o : Oper} {a : Act} {Q : Exit → Act → World → Prop} (hgd : o.guard = none) (x y : Operand) (ho : o.op = .store 24 x y) (hx : a.eval x = .pointer (some ⟨B, 0, none⟩))
  (vs : List Value) (hy : a.eval y = .agg vs.toArray) (h : Bx W B t cs) (hl : cs.length = 5) (hv : vs.length = 5) (h1 : vs.all (·.oneCell') = true) (k : wpList Tryz.prog ops Q rest (a.put o.dst undef) (W.setRow B vs.toArray)) : wpList Tryz.prog ops Q (o :: rest) a W :=
 wpList_store_row hgd _ x y ho B vs.toArray hx hy t cs.toArray h (by rw [info_rtt]; simp [hv]) (by simp [hl, hv]) (by simpa using h1) k
def rt_var := @g_var 24 5 rtt_struct info_rtt
theorem rt_end {fn : Func} {tmps : Array Value} {R : Ending → World → Prop} {v : Value} {ds : List Deferred} {p q : Tmp} (hr : fn.results = #[.cell p 24, .tmp q]) (h2 : tmps.getD p undef = .pointer (some ⟨B, 0, none⟩)) (h3 : tmps.getD q undef = v)
  (e : Bx W B t cs) (hl : cs.length = 5) (hd : ds = []) (h : R (.returned (.tuple #[.agg cs.toArray, v])) W) : bodyPost Tryz.prog fn R .ret { tmps := tmps, defers := ds } W := by
 have l2 := rt_var e hl
 have h2a : tmps[p]?.getD undef = .pointer (some ⟨B, 0, none⟩) := by simpa using h2
 have h2b : tmps[q]?.getD undef = v := by simpa using h3
 refine bodyPost_ret (v := .tuple #[.agg cs.toArray, v]) ?_ hd h
 simp [results, hr, h2a, h2b, asAddr, l2]
end
def TellE (w w' : World) (e : Ending) (x : Rt × Int) : Prop := e = .returned (.tuple #[.agg #[x.1.has, x.1.srtt, x.1.vr, x.1.rto, x.1.shift], x.2]) ∧ Below w.heap.size w w'
theorem cl_any (n low high : Int) (w : World) :
  Calls Tryz.prog 157 #[n, low, high] w fun e w' => e = .returned (.int .i64 (clI n low high)) ∧ w = w' := clamp_any n low high w
def rt_end1 := @g_end1 24 5 rtt_struct info_rtt
theorem two_new (W : World) (o : Obj) (t : TypeId) (cs : List Value) : Bx ((W.alloc o).alloc (.cells cs.toArray t)) (W.heap.size + 1) t cs := by
 have := Bx.new (W.alloc o) t cs
 have hsz : (W.alloc o).heap.size = W.heap.size + 1 := by simp
 rw [hsz] at this; exact this
theorem two_below (W : World) (o o' : Obj) : Below W.heap.size W ((W.alloc o).alloc o') := ((Zb).alloc Zr _).alloc (by simp) _
def rt_yields := @g_yields 24 5 rtt_struct info_rtt
def known (has : Bool) : Int := if has = true then 1152921504606846976 else 0
theorem near_any (has : Bool) (srtt vr rto shift : Int) (w : World) :
  Calls Tryz.prog 99 #[.agg #[has, srtt, vr, rto, shift]] w fun e w' => e = .returned (.agg #[has, .int .i64 (clI srtt 0 (known has)), .int .i64 (clI vr 0 (known has)), .int .i64 (clI rto 0 1152921504606846976), .int .i64 (clI shift 0 16)]) ∧ Below w.heap.size w w' := by
 cases has with
 | true =>
  have hk : known true = 1152921504606846976 := rfl
  rw [hk]
  clear hk
  go_enter Tryz.func99, Tryz.ntmps99
  go_wp2_with (go_at_call 157; refine (cl_any _ _ _ _).mono ?_; rintro e w1 ⟨rfl, rfl⟩)
  exact rt_end1 (by rfl) (by rfl) (two_new w _ _ [.bool true, .int .i64 (clI srtt 0 1152921504606846976), .int .i64 (clI vr 0 1152921504606846976), .int .i64 (clI rto 0 1152921504606846976), .int .i64 (clI shift 0 16)]) rfl rfl ⟨rfl, two_below _ _ _⟩
 | false =>
  have hk : known false = 0 := rfl
  rw [hk]
  clear hk
  go_enter Tryz.func99, Tryz.ntmps99
  go_wp2_with (go_at_call 157; refine (cl_any _ _ _ _).mono ?_; rintro e w1 ⟨rfl, rfl⟩)
  exact rt_end1 (by rfl) (by rfl) (two_new w _ _ [.bool false, .int .i64 (clI srtt 0 0), .int .i64 (clI vr 0 0), .int .i64 (clI rto 0 1152921504606846976), .int .i64 (clI shift 0 16)]) rfl rfl ⟨rfl, two_below _ _ _⟩
theorem cl_id (n low high : Int) (h : low ≤ high) : n = clI n low high ↔ low ≤ n ∧ n ≤ high := by
 unfold clI
 by_cases a : n < low ∨ high < low
 ·rw [if_pos a]; omega
 ·rw [if_neg a]; split <;> omega
theorem near_iff (has : Bool) (srtt vr rto shift : Int) : rtB ⟨has, srtt, vr, rto, shift⟩ = true ↔ srtt = clI srtt 0 (known has) ∧ vr = clI vr 0 (known has) ∧ rto = clI rto 0 1152921504606846976 ∧ shift = clI shift 0 16 := by
 have k0 : 0 ≤ known has := by unfold known; split <;> omega
 rw [cl_id _ _ _ k0, cl_id _ _ _ k0, cl_id _ _ _ (by decide), cl_id _ _ _ (by decide), rtB_iff]
 constructor
 ·intro ⟨a, b, c, d, e, f, g, h, i⟩
  dsimp only at *
  unfold known
  cases has with
  | true => rw [if_pos rfl]; omega
  | false => rw [if_neg (by decide)]; simp at i; omega
 ·intro ⟨⟨a, b⟩, ⟨c, d⟩, ⟨e, f⟩, g, h⟩
  unfold known at b d
  cases has with
  | true => rw [if_pos rfl] at b d; exact ⟨a, b, c, d, e, f, g, h, Or.inl rfl⟩
  | false => rw [if_neg (by decide)] at b d; exact ⟨a, by dsimp only; omega, c, by dsimp only; omega, e, f, g, h, Or.inr ⟨by dsimp only; omega, by dsimp only; omega⟩⟩
theorem rtmay_any (has : Bool) (srtt vr rto shift : Int) (w : World) :
  Calls Tryz.prog 40 #[.agg #[has, srtt, vr, rto, shift]] w fun e w' => e = .returned (.bool (rtB ⟨has, srtt, vr, rto, shift⟩)) ∧ Below w.heap.size w w' := by
 obtain ⟨B, hB⟩ : ∃ B, w.heap.size = B := ⟨_, rfl⟩
 rw [hB]
 have e0 : Bx (w.alloc (.cells #[has, srtt, vr, rto, shift] 24)) B 24 [has, srtt, vr, rto, shift] := by rw [← hB]; exact Bx.new w _ _
 have b0 : Below B w (w.alloc (.cells #[has, srtt, vr, rto, shift] 24)) := (Zb).alloc (by omega) _
 obtain ⟨y1, H1⟩ : ∃ y, clI srtt 0 (known has) = y := ⟨_, rfl⟩
 obtain ⟨y2, H2⟩ : ∃ y, clI vr 0 (known has) = y := ⟨_, rfl⟩
 obtain ⟨y3, H3⟩ : ∃ y, clI rto 0 1152921504606846976 = y := ⟨_, rfl⟩
 obtain ⟨y4, H4⟩ : ∃ y, clI shift 0 16 = y := ⟨_, rfl⟩
 have hq := near_iff has srtt vr rto shift
 rw [H1, H2, H3, H4] at hq
 obtain ⟨q, hq2⟩ : ∃ q, rtB ⟨has, srtt, vr, rto, shift⟩ = q := ⟨_, rfl⟩
 rw [hq2] at hq ⊢
 have HQ := Zh hq; clear hq hq2
 go_enter Tryz.func40, Tryz.ntmps40
 go_upto_region 1 with fail
 refine tB 3 5 (fun (W : World) => Bx W B 24 [has, srtt, vr, rto, shift] ∧ Below B w W) ⟨e0.drew, b0.drew⟩ (fun HS => ?_)
 refine tS 0 rfl (rt_yields (by rfl) (.tmp 1) rfl rfl [has, srtt, vr, rto, shift] rfl 24 (fun W hW => hW.1)) HS ?_
 refine tS 1 rfl (rt_yields (by rfl) (.tmp 1) rfl rfl [has, srtt, vr, rto, shift] rfl 24 (fun W hW => hW.1)) HS ?_
 refine tO 2 (fun K hK => ?_)
 go_simp
 refine (near_any has srtt vr rto shift _).mono ?_
 rintro e w2 ⟨rfl, hb2⟩
 rw [H1, H2, H3, H4]
 have HS : (fun (W : World) => Bx W B 24 [has, srtt, vr, rto, shift] ∧ Below B w W) _ := ⟨(e0.drew).kept hb2, b0.drew.trans (hb2.mono (Zl e0.drew.lt))⟩
 refine kP hK HS ?_
 clear hK K
 refine ⟨by kernel_rfl, ?_⟩
 simp only [List.drop_succ_cons, List.drop_zero]
 have K1 := Zh H1; have K2 := Zh H2; have K3 := Zh H3; have K4 := Zh H4; clear H1 H2 H3 H4
 go_wp2_with fail
 all_goals (go_ret; refine ⟨?_, HS.2⟩; have hq := HQ.out; cases q <;> simp_all)
def TellH (w w' : World) (e : Ending) (x : Ms × Int × Int) : Prop := e = .returned (.tuple #[.agg #[x.1.pk, x.1.bt, x.1.ca, x.1.md, x.1.pt], x.2.1, x.2.2]) ∧ Below w.heap.size w w'
def TellN (w w' : World) (e : Ending) (x : Ms × Int) : Prop := e = .returned (.tuple #[.agg #[x.1.pk, x.1.bt, x.1.ca, x.1.md, x.1.pt], x.2]) ∧ Below w.heap.size w w'
theorem round_md {m : Ms} (h : MsOk m) (hc : 0 < m.ca) : tell (1024 * m.md / m.ca) (mdOk 1024 m.md m.ca) = 1024 * m.md / m.ca := by
 have hq := quo_bd h hc
 have h0 := h.m0; have h1 := h.m1; have h2 := h.c1
 have ho : mdOk 1024 m.md m.ca = true := by
  unfold mdOk
  rw [(inB_iff 1024).2 (by omega), (inB_iff m.md).2 (by omega), (inB_iff m.ca).2 (by omega), (inB_iff (1024 * m.md / m.ca)).2 (by omega), Zt (by omega : 1 ≤ m.ca)]
  rfl
 rw [ho]; rfl
theorem round_ew {p q : Int} (h0 : 0 ≤ p) (h1 : p ≤ 1024) (h2 : 0 ≤ q) (h3 : q ≤ 1024) : tell (ewR p q 4) (ewOk p q 4) = p + (q - p) / 16 := by
 have he : ewR p q 4 = p + (q - p) / 16 := rfl
 have ho : ewOk p q 4 = true := by
  unfold ewOk
  have e : p + (q - p) / 2 ^ (4 : Int).toNat = p + (q - p) / 16 := rfl
  rw [(inB_iff p).2 (by omega), (inB_iff q).2 (by omega), (inB_iff (q - p)).2 (by omega)]
  simp
 rw [ho, he]; rfl
end Go.Proofs.YtbijhkhkigdddaaGreat
