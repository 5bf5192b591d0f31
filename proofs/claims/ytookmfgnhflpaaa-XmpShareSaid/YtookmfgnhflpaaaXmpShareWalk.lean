/- XmpShare: the walk. -/
import Derived.Test.YtookmfgnhflpaaaXmAwake
import Derived.Test.YtookmfgnhflpaaaXmSh
import Derived.Deep.QuietTactic
import Derived.BigQuiet
import Derived.IntWalk
import Derived.Deep.AppendLies
namespace Go.Proofs.Ytookmfgnhflpaaa.xmpShare
open Go.RowKit
set_option linter.unusedVariables false
set_option linter.unusedSimpArgs false

set_option maxRecDepth 100000 in
set_option maxHeartbeats 16000000 in
theorem info_way : (Try.prog.info? 35).map (fun i => (i.zero, i.size, i.bytes)) = some (some (.agg #[.int .i64 0, .int .i64 0]), 2, 16) := by kernel_rfl

set_option maxRecDepth 100000 in
set_option maxHeartbeats 16000000 in
theorem walk (A : Option Addr) (n cc : Nat) (l : List Sp) (i k mss : Int) (w : World) (hs : Ss w A n cc l) :
    Calls Try.prog 8 #[.slice A n cc, .int .i64 i, .int .i64 k, .int .i64 mss] w fun e w' => e = .returned (.bool true) ∧ Below w.heap.size w w' := by
  obtain ⟨B, hB⟩ : ∃ B, w.heap.size = B := ⟨_, rfl⟩
  rw [hB]
  have HB := Lib.hid hB
  have hl := hs.rd.len
  have m1 := hs.le
  have m2 := hs.max
  have m3 : n ≤ 9223372036854775807 := by unfold maxLen at m2; omega
  clear m1 m2 hB
  have HL := Lib.hid hl; have HS := Lib.hid hs; have HN := Lib.hid hs.nil
  clear hl hs
  go_enter Try.func8, Try.ntmps8
  go_wp2_with fail
  refine (xmawake_any _).mono ?_
  rintro e w2 ⟨rfl, b2⟩
  rw [HB.out] at b2
  have hz2 : B ≤ w2.heap.size := by have := b2.size; rw [HB.out] at this; exact this
  by_cases c0 : 4 < n
  case pos =>
    have d0 : decide (4 < n) = true := decide_eq_true c0
    have x0 : decide ((4 : Int) < (n : Int)) = true := decide_eq_true (by omega)
    go_wp2_with fail
    go_ret
    exact ⟨rfl, b2⟩
  case neg =>
  have d0 : decide (4 < n) = false := decide_eq_false c0
  have x0 : decide ((4 : Int) < (n : Int)) = false := decide_eq_false (by omega)
  by_cases c1 : i < 0
  case pos =>
    have d1 : decide (i < 0) = true := decide_eq_true c1
    go_wp2_with fail
    go_ret
    exact ⟨rfl, b2⟩
  case neg =>
  have d1 : decide (i < 0) = false := decide_eq_false c1
  by_cases c2 : k < 0
  case pos =>
    have d2 : decide (k < 0) = true := decide_eq_true c2
    go_wp2_with fail
    go_ret
    exact ⟨rfl, b2⟩
  case neg =>
  have d2 : decide (k < 0) = false := decide_eq_false c2
  by_cases c3 : (n : Int) ≤ i
  case pos =>
    have d3 : decide ((n : Int) ≤ i) = true := decide_eq_true c3
    go_wp2_with fail
    go_ret
    exact ⟨rfl, b2⟩
  case neg =>
  have d3 : decide ((n : Int) ≤ i) = false := decide_eq_false c3
  by_cases c4 : (n : Int) ≤ k
  case pos =>
    have d4 : decide ((n : Int) ≤ k) = true := decide_eq_true c4
    go_wp2_with fail
    go_ret
    exact ⟨rfl, b2⟩
  case neg =>
  have d4 : decide ((n : Int) ≤ k) = false := decide_eq_false c4
  go_upto_region 4 with fail
  obtain ⟨i, rfl⟩ : ∃ j : Nat, i = (j : Int) := ⟨i.toNat, by omega⟩
  obtain ⟨k, rfl⟩ : ∃ j : Nat, k = (j : Int) := ⟨k.toNat, by omega⟩
  have hn4 : n ≤ 4 := by omega
  have hi : i < n := by omega
  have hk : k < n := by omega
  have hil : i < l.length := by have := HL.out; omega
  have hkl : k < l.length := by have := HL.out; omega
  have t1 := share_swap (l := l) (mss := mss) hil hkl hkl hil (swap_k (i := i) hkl)
  have t2 := share_swap (l := l) (mss := mss) hil hkl hil hkl (swap_i hil hkl)
  have t3 : ∀ p q r, sp l i = (p, r) → sp l k = (q, r) → (1 ≤ p ∧ p ≤ 1073741824) → (1 ≤ r ∧ r ≤ 1099511627776) → q ≤ p → shareR l (k : Int) mss ≤ shareR l (i : Int) mss := fun p q r e1 e2 hp hr hq => share_mono hil hkl e1 e2 hp hr hq
  have t4 : wt (sp l i) = 0 → shareR l (i : Int) mss = 0 := fun h => share_nowt h
  obtain ⟨sa, hsa⟩ : ∃ x, shareR l (i : Int) mss = x := ⟨_, rfl⟩
  obtain ⟨sb, hsb⟩ : ∃ x, shareR l (k : Int) mss = x := ⟨_, rfl⟩
  rw [hsa] at t1 t3 t4
  rw [hsb] at t2 t3
  have HSA := Lib.hid hsa; have HSB := Lib.hid hsb; have T1 := Lib.hid t1; have T2 := Lib.hid t2; have T3 := Lib.hid t3; have T4 := Lib.hid t4
  have HIL := Lib.hid hil; have HKL := Lib.hid hkl
  clear hsa hsb t1 t2 t3 t4 c0 c1 c2 c3 c4 d0 d1 d2 d3 d4 x0 hil hkl
  have s2 : Ss w2 A n cc l := HS.out.keep (by rw [HB.out]; exact b2)
  go_wp2_with fail
  refine (xwshare_any A n cc l _ mss _ s2).mono ?_
  rintro e w3 ⟨rfl, hb3⟩
  rw [HSA.out]
  have b3 := b2.trans (hb3.mono hz2)
  have hz3 : B ≤ w3.heap.size := Nat.le_trans hz2 hb3.size
  have s3 : Ss w3 A n cc l := HS.out.keep (by rw [HB.out]; exact b3)
  clear hb3 s2
  go_wp2_with fail
  refine (xwshare_any A n cc l _ mss _ s3).mono ?_
  rintro e w4 ⟨rfl, hb4⟩
  rw [HSB.out]
  have b4 := b3.trans (hb4.mono hz3)
  have hz4 : B ≤ w4.heap.size := Nat.le_trans hz3 hb4.size
  have s4 : Ss w4 A n cc l := HS.out.keep (by rw [HB.out]; exact b4)
  clear hb4 s3
  go_upto_region 7 with (at_builtin; refine wpList_appe w4 rfl (.const (.slice none 0 0)) (.tmp 51) 24 rfl w4.heap.size 35 Try.underlying24 (.agg #[.int .i64 0, .int .i64 0]) 16 info_way (by decide) _ 0 ([] : List Sp) rfl (Goe.none _ _ _) rfl HN.out (ss_re s4) (by unfold maxLen; omega) (by omega) (Nat.le_refl _) ?_; intro v5 w5 hg5 hgr5 _)
  have hb5 : Below w4.heap.size w4 w5 := (Below.refl _ _).grown hgr5 (Nat.le_refl _) (fun k hk => by cases hk)
  have g5 : Goe w5 w4.heap.size 35 v5 n l := by have := hg5; simpa using this
  have b5 := b4.trans (hb5.mono hz4)
  have s5 : Ss w5 A n cc l := HS.out.keep (by rw [HB.out]; exact b5)
  clear hg5 hgr5 hb5 s4
  obtain ⟨g, cap, rfl, hgB1, hgB2⟩ := g5.row.form (by omega)
  have hz5 : B ≤ g := Nat.le_trans hz4 hgB1
  have hgs : g < w5.heap.size := hgB2
  obtain ⟨b, o, hA, hbl, hc⟩ := HS.out.rd.at_ (by omega)
  have hbB : b < B := by have := HB.out; omega
  have hbg : b < g := by omega
  subst hA
  obtain ⟨⟨p, r⟩, hp⟩ : ∃ p, sp l i = p := ⟨_, rfl⟩
  obtain ⟨⟨q, r2⟩, hq⟩ : ∃ p, sp l k = p := ⟨_, rfl⟩
  have hwi := sp_wide HS.out.rd.wide i
  have hwk := sp_wide HS.out.rd.wide k
  rw [hp] at hwi
  rw [hq] at hwk
  have HWI := Lib.hid hwi; have HWK := Lib.hid hwk; have HPI := Lib.hid hp; have HPK := Lib.hid hq
  clear hwi hwk hc hbl hp hq
  have i2 : i * 2 + 2 ≤ n * 2 := by omega
  have k2 : k * 2 + 2 ≤ n * 2 := by omega
  have y5 := (s5.rd.at_ (by omega))
  obtain ⟨b', o', hA', _, hc'⟩ := y5
  cases hA'
  obtain ⟨y0, y1⟩ := hc' k hk
  rw [HPK.out] at y0 y1
  simp only at y0 y1
  have z0 := g5.row.cellAt (i * 2) (by have e9 : n * El.k Sp = n * 2 := rfl; omega)
  have z1 := g5.row.cellAt (i * 2 + 1) (by have e9 : n * El.k Sp = n * 2 := rfl; omega)
  have f0 := g5.row.frozenAt (i * 2)
  have q1 := g5.set (i := i) (j := 0) (u := .int .i64 q) (y := (q, (sp (l) i).2)) hi (by decide) rfl ⟨HWK.out.1, (sp_wide HS.out.rd.wide i).2⟩
  obtain ⟨q1a, q1b⟩ := q1
  have q2 := q1a.set (i := i) (j := 1) (u := .int .i64 r2) (y := (q, r2)) hi (by decide) (by rw [ge_sp, sp_set HIL.out, if_pos rfl]; rfl) ⟨HWK.out.1, HWK.out.2⟩
  obtain ⟨q2a, q2b⟩ := q2
  rw [List.set_set] at q2a
  change Goe (w5.setCell ⟨g, i * 2, none⟩ _) _ _ _ _ _ at q1a
  change World.grownBy w5 (w5.setCell ⟨g, i * 2, none⟩ _) _ at q1b
  change Goe ((w5.setCell ⟨g, i * 2, none⟩ _).setCell ⟨g, i * 2 + 1, none⟩ _) _ _ _ _ _ at q2a
  have z0' := z0.trans (evals_at (l) i 0 (.int .i64 (sp (l) i).1) HIL.out rfl)
  have z1' := z1.trans (evals_at (l) i 1 (.int .i64 (sp (l) i).2) HIL.out rfl)
  have z2 := (q1a.row.cellAt (i * 2 + 1) (by have e9 : n * El.k Sp = n * 2 := rfl; omega)).trans (evals_at _ i 1 (.int .i64 (sp (l) i).2) (by rw [List.length_set]; exact HIL.out) (by rw [ge_sp, sp_set HIL.out, if_pos rfl]; rfl))
  have f2 := q1a.row.frozenAt (i * 2 + 1)
  have b6 := (b5.setCell (p := ⟨g, i * 2, none⟩) hz5 (.int .i64 q)).setCell (p := ⟨g, i * 2 + 1, none⟩) hz5 (.int .i64 r2)
  have hw6 : w5.heap.size = ((w5.setCell ⟨g, i * 2, none⟩ (.int .i64 q)).setCell ⟨g, i * 2 + 1, none⟩ (.int .i64 r2)).heap.size := by simp
  have HG := Lib.hid q2a; have HG5 := Lib.hid g5
  clear q1a q1b q2a q2b z0 z1 g5 hc'
  go_upto_region 8 with fail
  clear z0' z1' z2 f0 f2 y0 y1
  generalize (w5.setCell ⟨g, i * 2, none⟩ (.int .i64 q)).setCell ⟨g, i * 2 + 1, none⟩ (.int .i64 r2) = w6 at HG b6 hw6 ⊢
  have s6 : Ss w6 (some ⟨b, o, none⟩) n cc l := HS.out.keep (by rw [HB.out]; exact b6)
  have g6 := HG.out
  clear HG HG5 s5 b5
  have hwl : Wide (l.set i (q, r2)) := g6.ok
  have HWL := Lib.hid hwl; clear hwl
  have HKL2 : Hid (k < (l.set i (q, r2)).length) := Lib.hid (by rw [List.length_set]; exact HKL.out)
  have y6 := (s6.rd.at_ (by omega))
  obtain ⟨b', o', hA', _, hc'⟩ := y6
  cases hA'
  obtain ⟨y0, y1⟩ := hc' i hi
  rw [HPI.out] at y0 y1
  simp only at y0 y1
  have z0 := g6.row.cellAt (k * 2) (by have e9 : n * El.k Sp = n * 2 := rfl; omega)
  have z1 := g6.row.cellAt (k * 2 + 1) (by have e9 : n * El.k Sp = n * 2 := rfl; omega)
  have f0 := g6.row.frozenAt (k * 2)
  have q1 := g6.set (i := k) (j := 0) (u := .int .i64 p) (y := (p, (sp (l.set i (q, r2)) k).2)) hk (by decide) rfl ⟨HWI.out.1, (sp_wide HWL.out k).2⟩
  obtain ⟨q1a, q1b⟩ := q1
  have q2 := q1a.set (i := k) (j := 1) (u := .int .i64 r) (y := (p, r)) hk (by decide) (by rw [ge_sp, sp_set HKL2.out, if_pos rfl]; rfl) ⟨HWI.out.1, HWI.out.2⟩
  obtain ⟨q2a, q2b⟩ := q2
  rw [List.set_set] at q2a
  change Goe (w6.setCell ⟨g, k * 2, none⟩ _) _ _ _ _ _ at q1a
  change World.grownBy w6 (w6.setCell ⟨g, k * 2, none⟩ _) _ at q1b
  change Goe ((w6.setCell ⟨g, k * 2, none⟩ _).setCell ⟨g, k * 2 + 1, none⟩ _) _ _ _ _ _ at q2a
  have z0' := z0.trans (evals_at (l.set i (q, r2)) k 0 (.int .i64 (sp (l.set i (q, r2)) k).1) HKL2.out rfl)
  have z1' := z1.trans (evals_at (l.set i (q, r2)) k 1 (.int .i64 (sp (l.set i (q, r2)) k).2) HKL2.out rfl)
  have z2 := (q1a.row.cellAt (k * 2 + 1) (by have e9 : n * El.k Sp = n * 2 := rfl; omega)).trans (evals_at _ k 1 (.int .i64 (sp (l.set i (q, r2)) k).2) (by rw [List.length_set]; exact HKL2.out) (by rw [ge_sp, sp_set HKL2.out, if_pos rfl]; rfl))
  have f2 := q1a.row.frozenAt (k * 2 + 1)
  have b7 := (b6.setCell (p := ⟨g, k * 2, none⟩) hz5 (.int .i64 p)).setCell (p := ⟨g, k * 2 + 1, none⟩) hz5 (.int .i64 r)
  have hw7 : w6.heap.size = ((w6.setCell ⟨g, k * 2, none⟩ (.int .i64 p)).setCell ⟨g, k * 2 + 1, none⟩ (.int .i64 r)).heap.size := by simp
  have HG := Lib.hid q2a; have HG5 := Lib.hid g6
  clear q1a q1b q2a q2b z0 z1 g6 hc'
  go_upto_region 9 with fail
  clear z0' z1' z2 f0 f2 y0 y1
  generalize (w6.setCell ⟨g, k * 2, none⟩ (.int .i64 p)).setCell ⟨g, k * 2 + 1, none⟩ (.int .i64 r) = w7 at HG b7 hw7 ⊢
  have s7 : Ss w7 (some ⟨b, o, none⟩) n cc l := HS.out.keep (by rw [HB.out]; exact b7)
  have g7 := HG.out
  clear HG HG5 s6 b6
  obtain ⟨G', d', e', hsn⟩ := g7.se
  cases e'
  have m7 := se_ss hsn
  have hsw : (l.set i (q, r2)).set k (p, r) = swapL l i k := by unfold swapL; rw [HPI.out, HPK.out]
  rw [hsw] at m7
  clear hsn g7 hsw HWL HKL2
  have hz7 : B ≤ w7.heap.size := by omega
  go_wp2_with fail
  refine (xwshare_any _ n _ _ _ mss _ m7).mono ?_
  rintro e w8 ⟨rfl, hb8⟩
  rw [T1.out]
  have b8 := b7.trans (hb8.mono hz7)
  have hz8 : B ≤ w8.heap.size := Nat.le_trans hz7 hb8.size
  have m8 := m7.keep hb8
  clear hb8 m7 s7 b7
  go_wp2_with fail
  refine (xwshare_any _ n _ _ _ mss _ m8).mono ?_
  rintro e w9 ⟨rfl, hb9⟩
  rw [T2.out]
  have b9 := b8.trans (hb9.mono hz8)
  have s9 : Ss w9 (some ⟨b, o, none⟩) n cc l := HS.out.keep (by rw [HB.out]; exact b9)
  clear hb9 m8 b8
  obtain ⟨b', o', hA', _, hc'⟩ := s9.rd.at_ (by omega)
  cases hA'
  obtain ⟨y0, y1⟩ := hc' i hi
  obtain ⟨x0, x1⟩ := hc' k hk
  rw [HPI.out] at y0 y1
  rw [HPK.out] at x0 x1
  simp only at y0 y1 x0 x1
  clear hc'
  by_cases c0 : p < 1
  case pos =>
    have d0 : decide (p < 1) = true := decide_eq_true c0
    obtain rfl : sa = 0 := T4.out (by rw [HPI.out]; exact wt_no (by dsimp only; omega))
    go_wp2_with fail
    go_ret
    exact ⟨rfl, b9⟩
  case neg =>
  have d0 : decide (p < 1) = false := decide_eq_false c0
  by_cases c1 : r < 1
  case pos =>
    have d1 : decide (r < 1) = true := decide_eq_true c1
    obtain rfl : sa = 0 := T4.out (by rw [HPI.out]; exact wt_no (by dsimp only; omega))
    go_wp2_with fail
    go_ret
    exact ⟨rfl, b9⟩
  case neg =>
  have d1 : decide (r < 1) = false := decide_eq_false c1
  by_cases c2 : 1073741824 < p
  case pos =>
    have d2 : decide (1073741824 < p) = true := decide_eq_true c2
    obtain rfl : sa = 0 := T4.out (by rw [HPI.out]; exact wt_no (by dsimp only; omega))
    go_wp2_with fail
    go_ret
    exact ⟨rfl, b9⟩
  case neg =>
  have d2 : decide (1073741824 < p) = false := decide_eq_false c2
  by_cases c3 : 1099511627776 < r
  case pos =>
    have d3 : decide (1099511627776 < r) = true := decide_eq_true c3
    obtain rfl : sa = 0 := T4.out (by rw [HPI.out]; exact wt_no (by dsimp only; omega))
    go_wp2_with fail
    go_ret
    exact ⟨rfl, b9⟩
  case neg =>
  have d3 : decide (1099511627776 < r) = false := decide_eq_false c3
  go_upto_region 14 with fail
  by_cases c4 : r = r2
  case neg =>
    have d4 : (r != r2) = true := by simpa using c4
    clear c4
    go_quiet (fail)
    go_wp2_with fail
    go_ret
    exact ⟨rfl, below_drewN b9 _⟩
  case pos =>
  have d4 : (r != r2) = false := by simpa using c4
  by_cases c5 : p < q
  case pos =>
    have d5 : decide (p < q) = true := decide_eq_true c5
    clear c4
    go_quiet (fail)
    go_wp2_with fail
    go_ret
    exact ⟨rfl, below_drewN b9 _⟩
  case neg =>
  have d5 : decide (p < q) = false := decide_eq_false c5
  have d6 : decide (sb ≤ sa) = true := decide_eq_true (T3.out p q r HPI.out (by rw [HPK.out, c4]) (by omega) (by omega) (by omega))
  clear c4
  go_quiet (fail)
  go_wp2_with fail
  go_ret
  exact ⟨rfl, below_drewN b9 _⟩
end Go.Proofs.Ytookmfgnhflpaaa.xmpShare
