/- The walk of the law RttSteady. -/
import Derived.Test.YtakklekhcnhfaaaProg
import Derived.Test.YtakklekhcnhfaaaRtAwake
import Derived.Test.YtakklekhcnhfaaaRtIn
import Derived.WalkKit
import Derived.WalkSpells
import Derived.WalkSmall
import Derived.Lib.Hide
import Derived.Below
import Derived.Outline
namespace Go.Proofs.Ytakklekhcnhfaaa.rttSteady
open Go.RowKit
set_option linter.unusedVariables false
set_option linter.unusedSimpArgs false

theorem steady_next {s : Rt} {took : Int} (h0 : 0 ≤ took) (h1 : took ≤ 1099511627776) (hh : s.has = true) (hs : s.srtt = took) (hv0 : 0 ≤ s.vr) : smS s took = took ∧ smV s took ≤ s.vr := by
  unfold smS smV offI
  rw [if_pos hh, if_pos hh, hs]
  refine ⟨by omega, ?_⟩
  split <;> omega
set_option maxRecDepth 100000 in
set_option maxHeartbeats 8000000 in
theorem walk (took n : Int) (w : World) :
    Calls Try.prog 6 #[.int .i64 took, .int .i64 n] w fun e w' => e = .returned (.bool true) ∧ Below w.heap.size w w' := by
  go_enter Try.func6, Try.ntmps6
  go_wp2_with fail
  refine (awake_any _).mono ?_
  rintro e w1 ⟨rfl, b1⟩
  by_cases c0 : took < 0
  case pos =>
    have d0 : decide (took < 0) = true := decide_eq_true c0
    go_wp2_with fail
    go_ret
    exact ⟨rfl, b1⟩
  have d0 : decide (took < 0) = false := decide_eq_false c0
  have g0 : 0 ≤ took := by omega
  by_cases c1 : 1099511627776 < took
  case pos =>
    have d1 : decide (1099511627776 < took) = true := decide_eq_true c1
    go_wp2_with fail
    go_ret
    exact ⟨rfl, b1⟩
  have d1 : decide (1099511627776 < took) = false := decide_eq_false c1
  have g1 : took ≤ 1099511627776 := by omega
  by_cases c2 : n < 1
  case pos =>
    have d2 : decide (n < 1) = true := decide_eq_true c2
    go_wp2_with fail
    go_ret
    exact ⟨rfl, b1⟩
  have d2 : decide (n < 1) = false := decide_eq_false c2
  have g2 : 1 ≤ n := by omega
  by_cases c3 : 60 < n
  case pos =>
    have d3 : decide (60 < n) = true := decide_eq_true c3
    go_wp2_with fail
    go_ret
    exact ⟨rfl, b1⟩
  have d3 : decide (60 < n) = false := decide_eq_false c3
  have g3 : n ≤ 60 := by omega
  have ha : ArgOk took 1 1099511627776 := ⟨g0, g1, by decide, by decide, by decide⟩
  obtain ⟨N, rfl⟩ : ∃ N : Nat, n = (N : Int) := ⟨n.toNat, by omega⟩
  obtain ⟨Z, hZ⟩ : ∃ Z, w1.heap.size = Z := ⟨_, rfl⟩
  have hZw : w.heap.size ≤ Z := by rw [← hZ]; exact b1.size
  have r1 := Bx.new w1 23 [.bool false, .int .i64 0, .int .i64 0, .int .i64 0, .int .i64 0]
  have b2 := b1.alloc b1.size (.cells #[.bool false, .int .i64 0, .int .i64 0, .int .i64 0, .int .i64 0] 23)
  rw [hZ] at r1
  go_wp2_with fail
  go_loopw [7, 8] (fun la i wr => ∃ (q : Nat) (s : Rt) (lv : Int), q ≤ N ∧ i = .int .i64 (q : Int) ∧ la = .int .i64 lv ∧ Bx wr Z 23 [.bool s.has, .int .i64 s.srtt, .int .i64 s.vr, .int .i64 s.rto, .int .i64 s.shift] ∧ Below w.heap.size w wr ∧ RtOk s ∧ ((s = zrt ∧ lv = took) ∨ (s.has = true ∧ s.srtt = took ∧ lv = s.vr))) (fun _ i _ => N - (intOf i).toNat)
  case atStart => exact ⟨0, zrt, took, Nat.zero_le _, rfl, rfl, r1, b2, ⟨by decide, by decide, by decide, by decide, by decide, by decide, by decide, by decide, Or.inr ⟨rfl, rfl⟩⟩, Or.inl ⟨rfl, rfl⟩⟩
  case round =>
    clear r1 b2 hZ b1
    obtain ⟨q, s, lv, hq, rfl, rfl, rr, br, hok, hs⟩ := hrel
    by_cases hlt : q < N
    · have hx := smp_ok ((rtB_iff _).2 hok) ha
      have hnv := smp_valid hok ha
      have hbd := smV_bd hok g0 g1
      have hS2 : smS s took = took ∧ smV s took ≤ lv := by
        rcases hs with ⟨rfl, rfl⟩ | ⟨h1, h2, rfl⟩
        · exact ⟨rfl, by show lv / 2 ≤ lv; omega⟩
        · exact steady_next g0 g1 h1 h2 hok.v0
      obtain ⟨hSS, hVL⟩ := hS2
      rw [hSS] at hx hnv
      obtain ⟨V, hV⟩ : ∃ V, smV s took = V := ⟨_, rfl⟩
      obtain ⟨C, hC⟩ : ∃ C, clI (took + smM s took) 1 1099511627776 = C := ⟨_, rfl⟩
      rw [hV, hC] at hx hnv
      rw [hV] at hVL
      have HX := Lib.hid hx; have HN := Lib.hid hnv; clear hx hnv hbd hs hSS hV hC
      go_wp2_with (refine rt_load rfl (.tmp 6) rfl rfl rr rfl ?_)
      refine (rtsample_any s.has s.srtt s.vr s.rto s.shift took 1 1099511627776 _).mono ?_
      rintro e w3 h3
      have h3' : TellE wr w3 e (smp s took 1 1099511627776) := h3
      rw [HX.out] at h3'
      obtain ⟨rfl, hb3⟩ := h3'
      clear h3
      dsimp only
      have r3 := rr.kept hb3
      have hz3 : Z < w3.heap.size := r3.lt
      have b3 := br.trans (hb3.mono br.size)
      have OB : Obj := .cells #[.bool true, .int .i64 took, .int .i64 V, .int .i64 C, .int .i64 0] 23
      clear OB
      have r4 := r3.alloc (.cells #[.bool true, .int .i64 took, .int .i64 V, .int .i64 C, .int .i64 0] 23)
      have v4 := Bx.new w3 23 [.bool true, .int .i64 took, .int .i64 V, .int .i64 C, .int .i64 0]
      have b4 := b3.alloc b3.size (.cells #[.bool true, .int .i64 took, .int .i64 V, .int .i64 C, .int .i64 0] 23)
      have z1 := v4.cell 1 rfl; have z2 := v4.cell 2 rfl
      have dv : decide (lv < V) = false := decide_eq_false (by omega)
      have hZ3 : w.heap.size ≤ Z := hZw
      have b5 := b4.grown (rt_grown _ Z #[.bool true, .int .i64 took, .int .i64 V, .int .i64 C, .int .i64 0]) (by have := b4.size; omega) (fun k hk => by cases hk; exact hZ3)
      go_wp2_with (first | (refine rt_load rfl (.tmp 9) rfl rfl v4 rfl ?_) | (refine rt_store rfl (.tmp 6) (.tmp 60) rfl rfl [.bool true, .int .i64 took, .int .i64 V, .int .i64 C, .int .i64 0] rfl r4 rfl rfl rfl ?_))
      go_roundw
      case rel => exact ⟨q + 1, ⟨true, took, V, C, 0⟩, V, by omega, by go_num, rfl, rt_put r4 [.bool true, .int .i64 took, .int .i64 V, .int .i64 C, .int .i64 0], b5, HN.out, Or.inr ⟨rfl, rfl, rfl⟩⟩
      case measure => simp [intOf]; omega
    · obtain rfl : N = q := by omega
      go_wp2_with fail
      go_ret
      exact ⟨rfl, br⟩
end Go.Proofs.Ytakklekhcnhfaaa.rttSteady
