/- The walk of the law CheckOrder: every byte slice, every two places. -/
import Derived.Test.YtignfpndhnaidaaProg
import Derived.Test.YtignfpndhnaidaaCkLaw
import Derived.Test.YtignfpndhnaidaaCkSwap
import Derived.WalkKit
import Derived.WalkSpells
import Derived.Lib.Hide
import Derived.Below
import Derived.Outline
import Derived.Deep.AppendLies
import Derived.IntWalk
import Derived.Deep.QuietTactic
import Derived.BigQuiet
namespace Go.Proofs.Ytignfpndhnaidaa.checkOrder
open Go.RowKit
set_option linter.unusedVariables false

theorem far_cell (w : World) (g i b j : Nat) (u : Value) (h : b < g) : (w.setCell ⟨g, i, none⟩ u).cell? ⟨b, j, none⟩ = w.cell? ⟨b, j, none⟩ :=
  World.cell?_setCell_other (a := ⟨g, i, none⟩) (b := ⟨b, j, none⟩) w u (fun e => by injection e with e1; omega)

set_option maxRecDepth 100000 in
set_option maxHeartbeats 4000000 in
theorem walk (a0 : Option Addr) (n0 c0 : Nat) (l0 : List Int) (i k : Int) (w : World) (h0 : Sl w a0 n0 c0 l0) (hi : (Lit.int .i64 i).wf = true) (hk : (Lit.int .i64 k).wf = true) :
    Calls Try.prog 7 #[.slice a0 n0 c0, .int .i64 i, .int .i64 k] w fun e w' => e = .returned (.bool true) ∧ Below w.heap.size w w' := by
  clear hi hk
  by_cases q0 : 3000 < n0
  · have d0 : decide ((3000 : Int) < (n0 : Int)) = true := by simp; omega
    go_enter Try.func7, Try.ntmps7
    go_wp2_with fail
    refine (awake_any _).mono ?_
    rintro e w1 ⟨rfl, b1⟩
    go_wp2_with fail
    go_quiet (fail)
    go_wp2_with fail
    go_ret
    exact ⟨rfl, below_drewN b1 _⟩
  · have d0 : decide ((3000 : Int) < (n0 : Int)) = false := by simp; omega
    by_cases q1 : i < 0
    · have d1 : decide (i < 0) = true := by simpa using q1
      go_enter Try.func7, Try.ntmps7
      go_wp2_with fail
      refine (awake_any _).mono ?_
      rintro e w1 ⟨rfl, b1⟩
      go_wp2_with fail
      go_quiet (fail)
      go_wp2_with fail
      go_ret
      exact ⟨rfl, below_drewN b1 _⟩
    · have d1 : decide (i < 0) = false := by simpa using q1
      by_cases q2 : k ≤ i
      · have d2 : decide (k ≤ i) = true := by simpa using q2
        go_enter Try.func7, Try.ntmps7
        go_wp2_with fail
        refine (awake_any _).mono ?_
        rintro e w1 ⟨rfl, b1⟩
        go_wp2_with fail
        go_quiet (fail)
        go_wp2_with fail
        go_ret
        exact ⟨rfl, below_drewN b1 _⟩
      · have d2 : decide (k ≤ i) = false := by simpa using q2
        by_cases q3 : (n0 : Int) ≤ k
        · have d3 : decide ((n0 : Int) ≤ k) = true := by simpa using q3
          go_enter Try.func7, Try.ntmps7
          go_wp2_with fail
          refine (awake_any _).mono ?_
          rintro e w1 ⟨rfl, b1⟩
          go_wp2_with fail
          go_quiet (fail)
          go_wp2_with fail
          go_ret
          exact ⟨rfl, below_drewN b1 _⟩
        · have d3 : decide ((n0 : Int) ≤ k) = false := by simpa using q3
          obtain ⟨i, rfl⟩ := Int.eq_ofNat_of_zero_le (show 0 ≤ i by omega)
          obtain ⟨k, rfl⟩ := Int.eq_ofNat_of_zero_le (show 0 ≤ k by omega)
          have n2 : decide (k ≤ i) = false := decide_eq_false (by omega)
          have n3 : decide (n0 ≤ k) = false := decide_eq_false (by omega)
          have hik : i < k := by omega
          have i0 : (0 : Int) ≤ (i : Int) := by omega
          have i1 : (i : Int) < (n0 : Int) := by omega
          have k0 : (0 : Int) ≤ (k : Int) := by omega
          have k1 : (k : Int) < (n0 : Int) := by omega
          obtain ⟨b, o, rfl, hbl, hc⟩ := h0.rd.spot (by omega)
          have ci := hc.out i (by omega)
          have ck := hc.out k (by omega)
          have zi := byt_bd h0.rd.small i
          have zk := byt_bd h0.rd.small k
          obtain ⟨x, hx⟩ : ∃ x, byt l0 i = x := ⟨_, rfl⟩
          obtain ⟨y, hy⟩ : ∃ y, byt l0 k = y := ⟨_, rfl⟩
          rw [hx] at ci zi
          rw [hy] at ck zk
          obtain ⟨x0, x1⟩ := zi
          obtain ⟨y0, y1⟩ := zk
          have HX := Lib.hid hx; clear hx
          have HY := Lib.hid hy; clear hy
          by_cases q4 : x = y
          · subst q4
            have d4 : (x == x) = true := by simp
            go_enter Try.func7, Try.ntmps7
            go_wp2_with fail
            refine (awake_any _).mono ?_
            rintro e w1 ⟨rfl, b1⟩
            have ci1 := (b1.cell (p := ⟨b, o + i, none⟩) hbl).trans ci
            have ck1 := (b1.cell (p := ⟨b, o + k, none⟩) hbl).trans ck
            clear ci ck
            go_wp2_with fail
            go_quiet (fail)
            go_wp2_with fail
            go_ret
            exact ⟨rfl, below_drewN b1 _⟩
          · have d4 : (x == y) = false := by simpa using q4
            have hpb := prod_bd (a := x - y) (b := (k : Int) - (i : Int)) (by omega) (by omega) (by omega) (by omega)
            have hsw := fun h => swapped (l := l0) (i := i) (k := k) (by omega) (by rw [h0.rd.len]; omega) h
            rw [HX.out, HY.out] at hsw
            have HS := Lib.hid hsw; clear hsw
            clear q4 q3 q2 q1
            go_enter Try.func7, Try.ntmps7
            go_wp2_with fail
            refine (awake_any _).mono ?_
            rintro e w1 ⟨rfl, b1⟩
            have ci1 := (b1.cell (p := ⟨b, o + i, none⟩) hbl).trans ci
            have ck1 := (b1.cell (p := ⟨b, o + k, none⟩) hbl).trans ck
            clear ci ck
            go_wp2_with fail
            go_quiet (fail)
            have hbg : b < w1.heap.size := Nat.lt_of_lt_of_le hbl b1.size
            have s1 := h0.keep b1
            have HQ := Lib.hid hpb; clear hpb
            go_wp2_with (at_builtin; refine wpList_app _ rfl (.const (.slice none 0 0)) (.tmp 46) 23 rfl w1.heap.size 5 Try.underlying23 info_u8 (.slice none 0 0) 0 [] rfl (World.ownsRow_nil _ _ _ _) rfl s1.nil (s1.keep (below_drewN (Below.refl _ _) _)).rd (by omega) (Nat.le_refl _) ?_; intro v5 w5 hown5 hgrow5 hat5; simp only [Nat.zero_add, List.nil_append] at hown5; obtain ⟨g, cp, rfl, hg5, hlt5⟩ := hown5.form (by omega); have got5 : Got w5 w1.heap.size (.slice (some ⟨g, 0, none⟩) n0 cp) n0 l0 := ⟨hown5, h0.rd.small⟩; have b5 : Below w1.heap.size w1 w5 := (below_drewN (Below.refl _ w1) _).grown hgrow5 (Nat.le_refl _) (fun k hk => by cases hk); have ci5 := (b5.cell (p := ⟨b, o + i, none⟩) hbg).trans ci1; have ck5 := (b5.cell (p := ⟨b, o + k, none⟩) hbg).trans ck1; obtain ⟨bb, oo, e5, _, hc5⟩ := got5.sl_at.rd.at_ (by omega); cases e5; have gi5 := hc5 i (by omega); rw [Nat.zero_add, HX.out] at gi5; clear hc5; have fi5 := hown5.frozenAt i; have fk5 := hown5.frozenAt k; have got6 := got_set (i := i) got5 y0 y1; obtain ⟨b6, o6, e6, _, hc6⟩ := got6.sl_at.rd.at_ (by omega); cases e6; have gk6 := hc6 k (by omega); rw [Nat.zero_add, byt_set_ne _ (by omega), HY.out] at gk6; clear hc6; have ci6 := (far_cell w5 g i b (o + i) (.int .u8 y) (by omega)).trans ci5; have ck6 := (far_cell w5 g i b (o + k) (.int .u8 y) (by omega)).trans ck5; have got7 := got_set (i := k) got6 x0 x1; have ci7 := (far_cell _ g k b (o + i) (.int .u8 x) (by omega)).trans ci6; have ck7 := (far_cell _ g k b (o + k) (.int .u8 x) (by omega)).trans ck6)
            have b7 : Below w1.heap.size w1 ((w5.setCell ⟨g, i, none⟩ (.int .u8 y)).setCell ⟨g, k, none⟩ (.int .u8 x)) := (b5.setCell (by exact hg5) _).setCell (by exact hg5) _
            clear gi5 fi5 fk5 gk6 got5 got6 hown5 hgrow5 hat5 ci5 ck5 ci6 ck6 b5 ci1 ck1 hc
            generalize ((w5.setCell ⟨g, i, none⟩ (.int .u8 y)).setCell ⟨g, k, none⟩ (.int .u8 x)) = w7 at got7 ci7 ck7 b7 ⊢
            have hwr : IntKind.i64.wrap (x - y) = x - y := IntWalk.i64_in _ (by omega)
            go_quiet (fail)
            obtain ⟨P, hP⟩ : ∃ P, (x - y) * ((k : Int) - (i : Int)) = P := ⟨_, rfl⟩
            rw [hP] at HS HQ
            obtain ⟨p0, p1⟩ := HQ.out
            obtain ⟨T, hT⟩ : ∃ T, P.tmod 65521 = T := ⟨_, rfl⟩
            rw [hT] at HS
            have b8 := b7.trans ((below_drewN (Below.refl w7.heap.size w7) nq).mono b7.size)
            by_cases q5 : T = 0
            · have d5 : (T == 0) = true := by simpa using q5
              clear q5
              go_wp2_with fail
              go_ret
              exact ⟨rfl, b1.trans (b8.mono b1.size)⟩
            · have d5 : (T == 0) = false := by simpa using q5
              have hne := HS.out q5
              have d6 : (adler ((l0.set i y).set k x) != adler l0) = true := by simpa using hne
              have D6 := Lib.hid d6
              clear q5 hne d6
              have s8 := got7.sl_at.keep (below_drewN (Below.refl w7.heap.size w7) nq)
              go_wp2_with fail
              refine (sum1_any _ _ ((l0.set i y).set k x) _ (s8.one 23)).mono ?_
              rintro e w9 ⟨rfl, hb9⟩
              have b9 : Below w1.heap.size w1 w9 := (b8.alloc b8.size _).trans (hb9.mono (by have := b8.size; simp at this ⊢; omega))
              have s9 := s1.keep b9
              have d6 := D6.out
              obtain ⟨u, hu⟩ : ∃ u, adler ((l0.set i y).set k x) = u := ⟨_, rfl⟩
              obtain ⟨v, hv⟩ : ∃ v, adler l0 = v := ⟨_, rfl⟩
              rw [hu, hv] at d6
              go_wp2_with fail
              refine (sum1_any _ _ l0 _ (s9.one 23)).mono ?_
              rintro e w10 ⟨rfl, hb10⟩
              go_wp2_with fail
              go_ret
              have b10 : Below w1.heap.size w1 w10 := (b9.alloc b9.size _).trans (hb10.mono (by have := b9.size; simp at this ⊢; omega))
              exact ⟨rfl, b1.trans (b10.mono b1.size)⟩
end Go.Proofs.Ytignfpndhnaidaa.checkOrder
