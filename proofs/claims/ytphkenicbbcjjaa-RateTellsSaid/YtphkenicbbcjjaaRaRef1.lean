/- The reference of package rate: in, May, Best as contracts of the calls. -/
import Derived.Test.YtphkenicbbcjjaaProg
import Derived.Test.YtphkenicbbcjjaaRa
import Derived.Test.YtphkenicbbcjjaaSni
import Derived.WalkKit
import Derived.WalkSpells
import Derived.WalkSmall
import Derived.Lib.Hide
import Derived.Below
import Derived.Outline
import Derived.Laws.Tables
import Derived.Laws.Rows
import Derived.OrdersHeld
import Derived.Deep.QuietTactic
import Derived.BigQuiet
import Derived.IntWalk
import Derived.Deep.DeepCutAuto
namespace Go.Proofs.Ytphkenicbbcjjaa
open Go.RowKit
set_option linter.unusedVariables false
set_option linter.unusedSimpArgs false

theorem info_ra : (Try.prog.info? 24).map (·.size) = some 3 := by kernel_rfl
theorem ra_struct : ∃ fs, Try.prog.underlying 24 = some (.struct fs) := ⟨_, Try.underlying24⟩
section
variable {W : World} {B : Nat} {t : TypeId} {cs : List Value}
theorem ra_put (h : Bx W B t cs) (vs : List Value) : Bx (W.setRow B vs.toArray) B t vs := setRow_heap W B _ vs.toArray t (0, 0) h
theorem ra_grown (W : World) (B : Nat) (vs : Array Value) : W.grownBy (W.setRow B vs) (some B) :=
  ⟨rfl, rfl, rfl, by simp [World.setRow], fun i _ hne => setRow_other W B i vs (fun e => hne (by rw [e]))⟩
theorem ra_gset (W : World) (q : Addr) (u : Value) : W.grownBy (W.setCell q u) (some q.block) :=
  ⟨rfl, rfl, rfl, by simp, fun i hi hne => Below.heap_setCell W q u i (fun e => hne (by rw [e]))⟩
/-- one is loaded whole, in a plain region -/
theorem ra_load {ops : Array Oper} {rest : List Oper} {o : Oper} {a : Act} {Q : Exit → Act → World → Prop} (hgd : o.guard = none) (x : Operand) (ho : o.op = .load 24 x) (hx : a.eval x = .pointer (some ⟨B, 0, none⟩))
    (h : Bx W B t cs) (hl : cs.length = 3) (k : wpList Try.prog ops Q rest (a.put o.dst (.agg cs.toArray)) W) : wpList Try.prog ops Q (o :: rest) a W := by
  obtain ⟨fs, hu⟩ := ra_struct
  exact wpList_load_row hgd _ x ho B hx t cs.toArray (0, 0) _ h hu rfl (by rw [info_ra]; simp [hl]) k
/-- one is stored whole -/
theorem ra_store {ops : Array Oper} {rest : List Oper} {o : Oper} {a : Act} {Q : Exit → Act → World → Prop} (hgd : o.guard = none) (x y : Operand) (ho : o.op = .store 24 x y) (hx : a.eval x = .pointer (some ⟨B, 0, none⟩))
    (vs : List Value) (hy : a.eval y = .agg vs.toArray) (h : Bx W B t cs) (hl : cs.length = 3) (hv : vs.length = 3) (h1 : vs.all (·.oneCell') = true) (k : wpList Try.prog ops Q rest (a.put o.dst undef) (W.setRow B vs.toArray)) : wpList Try.prog ops Q (o :: rest) a W :=
  wpList_store_row hgd _ x y ho B vs.toArray hx hy t cs.toArray h (by rw [info_ra]; simp [hv]) (by simp [hl, hv]) (by simpa using h1) k
theorem ra_var (h : Bx W B t cs) (hl : cs.length = 3) : (Go.loadVar 24 ⟨B, 0, none⟩).run Try.prog W = .ok (.agg cs.toArray) W := by
  obtain ⟨fs, hu⟩ := ra_struct
  exact run_loadVar_row W B t 24 cs.toArray (0, 0) _ h hu rfl (by rw [info_ra]; simp [hl])
/-- one is loaded whole, in a region that draws its order -/
theorem ra_yields {ops : Array Oper} {S : World → Prop} {op : Oper} {a : Act} (hw : Region.wanted op (yielded ops a.tmps) = true) (x : Operand) (ho : op.op = .load 24 x)
    (hx : a.eval x = .pointer (some ⟨B, 0, none⟩)) (cs : List Value) (hl : cs.length = 3) (t : TypeId) (hS : ∀ W, S W → Bx W B t cs) : YieldsIf Try.prog ops S op (.agg cs.toArray) a := by
  obtain ⟨fs, hu⟩ := ra_struct
  exact .inl ⟨hw, fun w hw' => by
    unfold execOp
    simp only [ho, hx, Instr.loadAt, Instr.sureAddr, Sem.run_bind, Sem.run_pure, Result.andThen_ok, run_loadVar_row w B t 24 cs.toArray (0, 0) _ (hS w hw') hu rfl (by rw [info_ra]; simp [hl])]⟩
variable {fn : Func} {tmps : Array Value} {R : Ending → World → Prop} {v u : Value} {ds : List Deferred} {p q r : Tmp}
/-- a box alone, a box and one or two slots: what a call hands back -/
theorem ra_end1 (hr : fn.results = #[.cell p 24]) (h2 : tmps.getD p undef = .pointer (some ⟨B, 0, none⟩))
    (e : Bx W B t cs) (hl : cs.length = 3) (hd : ds = []) (h : R (.returned (.agg cs.toArray)) W) : bodyPost Try.prog fn R .ret { tmps := tmps, defers := ds } W := by
  have l2 := ra_var e hl
  have h2a : tmps[p]?.getD undef = .pointer (some ⟨B, 0, none⟩) := by simpa using h2
  refine bodyPost_ret (v := .agg cs.toArray) ?_ hd h
  simp [results, hr, h2a, asAddr, l2]
theorem ra_end2 (hr : fn.results = #[.cell p 24, .tmp q]) (h2 : tmps.getD p undef = .pointer (some ⟨B, 0, none⟩)) (h3 : tmps.getD q undef = v)
    (e : Bx W B t cs) (hl : cs.length = 3) (hd : ds = []) (h : R (.returned (.tuple #[.agg cs.toArray, v])) W) : bodyPost Try.prog fn R .ret { tmps := tmps, defers := ds } W := by
  have l2 := ra_var e hl
  have h2a : tmps[p]?.getD undef = .pointer (some ⟨B, 0, none⟩) := by simpa using h2
  have h2b : tmps[q]?.getD undef = v := by simpa using h3
  refine bodyPost_ret (v := .tuple #[.agg cs.toArray, v]) ?_ hd h
  simp [results, hr, h2a, h2b, asAddr, l2]
theorem ra_end3 (hr : fn.results = #[.cell p 24, .tmp q, .tmp r]) (h2 : tmps.getD p undef = .pointer (some ⟨B, 0, none⟩)) (h3 : tmps.getD q undef = v) (h4 : tmps.getD r undef = u)
    (e : Bx W B t cs) (hl : cs.length = 3) (hd : ds = []) (h : R (.returned (.tuple #[.agg cs.toArray, v, u])) W) : bodyPost Try.prog fn R .ret { tmps := tmps, defers := ds } W := by
  have l2 := ra_var e hl
  have h2a : tmps[p]?.getD undef = .pointer (some ⟨B, 0, none⟩) := by simpa using h2
  have h2b : tmps[q]?.getD undef = v := by simpa using h3
  have h2c : tmps[r]?.getD undef = u := by simpa using h4
  refine bodyPost_ret (v := .tuple #[.agg cs.toArray, v, u]) ?_ hd h
  simp [results, hr, h2a, h2b, h2c, asAddr, l2]
end

theorem rrain_any (x : Int) (w : World) :
    Calls Try.prog 21 #[.int .i64 x] w fun e w' => e = .returned (.bool (t60 x)) ∧ w = w' := by
  by_cases c0 : 0 ≤ x
  · have d0 : decide (0 ≤ x) = true := decide_eq_true c0
    by_cases c1 : x ≤ 1152921504606846976
    · have d1 : decide (x ≤ 1152921504606846976) = true := decide_eq_true c1
      rw [(t60_iff x).2 ⟨c0, c1⟩]
      go_enter Try.func21, Try.ntmps21
      go_wp2
      go_ret
      exact ⟨rfl, rfl⟩
    · have d1 : decide (x ≤ 1152921504606846976) = false := decide_eq_false c1
      rw [t60_no (fun h => c1 h.2)]
      go_enter Try.func21, Try.ntmps21
      go_wp2
      go_ret
      exact ⟨rfl, rfl⟩
  · have d0 : decide (0 ≤ x) = false := decide_eq_false c0
    rw [t60_no (fun h => c0 h.1)]
    go_enter Try.func21, Try.ntmps21
    go_wp2
    go_ret
    exact ⟨rfl, rfl⟩

set_option maxRecDepth 100000 in
set_option maxHeartbeats 4000000 in
theorem rramay_any (total last : Int) (A : Option Addr) (n c : Nat) (l : List Int) (w : World) (hs : Si w A n c l) :
    Calls Try.prog 18 #[.agg #[.int .i64 total, .int .i64 last, .slice A n c]] w fun e w' => e = .returned (.bool (ramay ⟨total, last, l⟩)) ∧ Below w.heap.size w w' := by
  obtain ⟨B, hB⟩ : ∃ B, w.heap.size = B := ⟨_, rfl⟩
  rw [hB]
  have hl := hs.rd.len
  have m1 := hs.le
  have m2 := hs.max
  unfold maxLen at m2
  have e0 := Bx.new w 24 [.int .i64 total, .int .i64 last, .slice A n c]
  rw [hB] at e0
  have b0 : Below B w (w.alloc (.cells #[.int .i64 total, .int .i64 last, .slice A n c] 24)) := by rw [← hB]; exact (Below.refl _ _).alloc (Nat.le_refl _) _
  have s0 := hs.alloc (.cells #[.int .i64 total, .int .i64 last, .slice A n c] 24)
  obtain ⟨q, hq⟩ : ∃ q, ramay ⟨total, last, l⟩ = q := ⟨_, rfl⟩
  rw [hq]
  unfold ramay at hq
  dsimp only at hq
  have HQ := Lib.hid hq; have HL := Lib.hid hl
  clear hq hl hs
  go_enter Try.func18, Try.ntmps18
  go_wp2_with fail
  generalize w.alloc (.cells #[.int .i64 total, .int .i64 last, .slice A n c] 24) = w1 at e0 b0 s0 ⊢
  have x0 := e0.cell 0 rfl; have x1 := e0.cell 1 rfl; have x2 := e0.cell 2 rfl
  go_loopw [3] (fun i wr => ∃ k : Nat, k ≤ n ∧ i = .int .i64 (k : Int) ∧ Hid (AllB l k) ∧ w1 = wr) (fun i _ => n - (intOf i).toNat)
  case atStart => exact ⟨0, Nat.zero_le _, rfl, (fun i hi => absurd hi (by omega)), rfl⟩
  case round =>
    obtain ⟨k, hk, rfl, hok, rfl⟩ := hrel
    by_cases hlt : k < n
    · have dlt : decide (k < n) = true := decide_eq_true hlt
      obtain ⟨b, o, hA, hbl, hc⟩ := s0.rd.at_ (by omega)
      subst hA
      have y1 := hc k hlt
      obtain ⟨p, hp⟩ : ∃ p, it l k = p := ⟨_, rfl⟩
      rw [hp] at y1
      have HP := Lib.hid hp
      clear hc hp
      cases ht : t60 p with
      | true =>
        have hall := all_snoc hok.out (by rw [HP.out]; exact ht)
        have HA := Lib.hid hall; clear hall
        go_wp2_with (go_at_call 21; refine (rrain_any _ _).mono ?_; rintro e wx ⟨rfl, rfl⟩)
        go_roundw
        case rel => exact ⟨k + 1, by omega, by go_num, HA, by first | rfl | trivial⟩
        case measure => simp [intOf]; omega
      | false =>
        have hF : q = false := by
          rw [← HQ.out]
          have : allB l = false := by
            refine Bool.eq_false_iff.2 (fun h => ?_)
            have h1 := (allB_iff l).1 h k (by rw [HL.out]; exact hlt)
            rw [HP.out, ht] at h1; cases h1
          rw [this]; rfl
        subst hF
        go_wp2_with (go_at_call 21; refine (rrain_any _ _).mono ?_; rintro e wx ⟨rfl, rfl⟩)
        go_ret
        exact ⟨rfl, b0⟩
    · obtain rfl : k = n := by omega
      have dlt : decide (k < k) = false := decide_eq_false (by omega)
      have hall : allB l = true := by rw [allB_iff, HL.out]; exact hok.out
      have hq2 : q = (t60 total && (t60 last && decide (k ≤ 10))) := by rw [← HQ.out, hall, HL.out]; rfl
      clear hall
      cases h1 : t60 total with
      | false =>
        rw [h1, Bool.false_and] at hq2
        subst hq2
        go_wp2_with (go_at_call 21; refine (rrain_any _ _).mono ?_; rintro e wx ⟨rfl, rfl⟩)
        go_ret
        exact ⟨rfl, b0⟩
      | true =>
        cases h2 : t60 last with
        | false =>
          rw [h1, h2] at hq2
          subst hq2
          go_wp2_with (go_at_call 21; refine (rrain_any _ _).mono ?_; rintro e wx ⟨rfl, rfl⟩)
          go_ret
          exact ⟨rfl, b0⟩
        | true =>
          rw [h1, h2, Bool.true_and, Bool.true_and] at hq2
          by_cases h3 : k ≤ 10
          · have d3 : decide (k ≤ 10) = true := decide_eq_true h3
            have d4 : decide ((k : Int) ≤ 10) = true := decide_eq_true (by omega)
            rw [d3] at hq2
            subst hq2
            go_wp2_with (go_at_call 21; refine (rrain_any _ _).mono ?_; rintro e wx ⟨rfl, rfl⟩)
            go_ret
            exact ⟨rfl, b0⟩
          · have d3 : decide (k ≤ 10) = false := decide_eq_false h3
            have d4 : decide ((k : Int) ≤ 10) = false := decide_eq_false (by omega)
            rw [d3] at hq2
            subst hq2
            go_wp2_with (go_at_call 21; refine (rrain_any _ _).mono ?_; rintro e wx ⟨rfl, rfl⟩)
            go_ret
            exact ⟨rfl, b0⟩

theorem it_take_snoc {l : List Int} {k : Nat} (h : k < l.length) : l.take (k + 1) = l.take k ++ [it l k] := by
  rw [List.take_succ_eq_append_getElem h, it_eq h]
set_option maxRecDepth 100000 in
set_option maxHeartbeats 4000000 in
theorem rrabest_any (total last : Int) (A : Option Addr) (n c : Nat) (l : List Int) (w : World) (hs : Si w A n c l) :
    Calls Try.prog 16 #[.agg #[.int .i64 total, .int .i64 last, .slice A n c]] w fun e w' => e = .returned (.int .i64 (bestR ⟨total, last, l⟩)) ∧ Below w.heap.size w w' := by
  obtain ⟨B, hB⟩ : ∃ B, w.heap.size = B := ⟨_, rfl⟩
  rw [hB]
  have hl := hs.rd.len
  have m1 := hs.le
  have m2 := hs.max
  unfold maxLen at m2
  have e0 := Bx.new w 24 [.int .i64 total, .int .i64 last, .slice A n c]
  rw [hB] at e0
  have b0 : Below B w (w.alloc (.cells #[.int .i64 total, .int .i64 last, .slice A n c] 24)) := by rw [← hB]; exact (Below.refl _ _).alloc (Nat.le_refl _) _
  have s0 := hs.alloc (.cells #[.int .i64 total, .int .i64 last, .slice A n c] 24)
  obtain ⟨q, hq⟩ : ∃ q, bestR ⟨total, last, l⟩ = q := ⟨_, rfl⟩
  rw [hq]
  have HQ := Lib.hid hq; have HL := Lib.hid hl
  clear hq hl hs
  go_enter Try.func16, Try.ntmps16
  go_wp2_with (refine ra_load rfl (.tmp 1) rfl rfl e0 rfl ?_)
  generalize w.alloc (.cells #[.int .i64 total, .int .i64 last, .slice A n c] 24) = w1 at e0 b0 s0 ⊢
  refine (rramay_any total last A n c l _ s0).mono ?_
  rintro e w2 ⟨rfl, hb2⟩
  have e2 := e0.kept hb2; have b2 := b0.trans (hb2.mono (Nat.le_of_lt e0.lt)); have s2 := s0.keep hb2
  have x2 := e2.cell 2 rfl
  clear e0 b0 s0 hb2
  cases hk : ramay ⟨total, last, l⟩ with
  | false =>
    have hq : q = 0 := by rw [← HQ.out]; unfold bestR; rw [if_neg (by rw [hk]; simp)]
    subst hq
    clear hk
    go_wp2_with fail
    go_loopw [3, 5] (fun s i wr => s = .int .i64 0 ∧ i = .int .i64 0 ∧ w2 = wr) (fun _ _ _ => 0)
    case atStart => exact ⟨rfl, rfl, rfl⟩
    case round =>
      obtain ⟨rfl, rfl, rfl⟩ := hrel
      by_cases hn0 : n = 0
      · subst hn0
        go_wp2_with fail
        go_ret
        exact ⟨rfl, b2⟩
      · have hn1 : 0 < n := by omega
        go_wp2_with fail
        go_ret
        exact ⟨rfl, b2⟩
  | true =>
    have hq : mx l = q := by rw [← HQ.out]; unfold bestR; rw [if_pos hk]
    have hv := (ramay_iff _).1 hk
    have hn : n ≤ 10 := by have := hv.len; dsimp only at this; rw [HL.out] at this; exact this
    have HM := Lib.hid hq; have HV := Lib.hid hv
    clear hq hv hk
    go_wp2_with fail
    go_loopw [3, 5] (fun s i wr => ∃ k : Nat, k ≤ n ∧ i = .int .i64 (k : Int) ∧ s = .int .i64 (mx (l.take k)) ∧ w2 = wr) (fun _ i _ => n - (intOf i).toNat)
    case atStart => exact ⟨0, Nat.zero_le _, rfl, by rw [List.take_zero]; rfl, rfl⟩
    case round =>
      obtain ⟨k, hkn, rfl, rfl, rfl⟩ := hrel
      by_cases hlt : k < n
      · have dlt : decide (k < n) = true := decide_eq_true hlt
        obtain ⟨b, o, hA, hbl, hc⟩ := s2.rd.at_ (by omega)
        subst hA
        have y1 := hc k hlt
        have hsn := mx_snoc (l.take k) (it l k)
        rw [← it_take_snoc (by rw [HL.out]; exact hlt)] at hsn
        obtain ⟨p, hp⟩ : ∃ p, it l k = p := ⟨_, rfl⟩
        obtain ⟨m, hm⟩ : ∃ m, mx (l.take k) = m := ⟨_, rfl⟩
        rw [hp] at y1 hsn
        rw [hm] at hsn ⊢
        clear hc hp hm
        by_cases hpm : m < p
        · have dpm : decide (m < p) = true := decide_eq_true hpm
          rw [if_pos hpm] at hsn
          have HS := Lib.hid hsn; clear hsn
          go_wp2_with fail
          go_roundw
          case rel => exact ⟨k + 1, by omega, by go_num, by rw [HS.out], by first | rfl | trivial⟩
          case measure => simp [intOf]; omega
        · have dpm : decide (m < p) = false := decide_eq_false hpm
          rw [if_neg hpm] at hsn
          have HS := Lib.hid hsn; clear hsn
          go_wp2_with fail
          go_roundw
          case rel => exact ⟨k + 1, by omega, by go_num, by rw [HS.out], by first | rfl | trivial⟩
          case measure => simp [intOf]; omega
      · obtain rfl : k = n := by omega
        have dlt : decide (k < k) = false := decide_eq_false (by omega)
        have hfl : mx (l.take k) = q := by rw [← HL.out, List.take_length]; exact HM.out
        rw [hfl]
        clear hfl
        go_wp2_with fail
        go_ret
        exact ⟨rfl, b2⟩
end Go.Proofs.Ytphkenicbbcjjaa
