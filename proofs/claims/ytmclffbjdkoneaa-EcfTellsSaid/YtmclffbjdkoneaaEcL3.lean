/- Package ecf as it landed: the fastest choice of those that count as contracts of the calls. -/
import Derived.Test.YtmclffbjdkoneaaEcL2
import Derived.Laws.EntriesVeiled
import Derived.Lib.MinMax
import Derived.Shelf.Abstract
namespace Go.Proofs.Ytmclffbjdkoneaa
open Go.RowKit
set_option linter.unusedVariables false
set_option linter.unusedSimpArgs false


set_option maxRecDepth 100000 in
set_option maxHeartbeats 16000000 in
theorem ecfast_any (f : Nat) (hent : ∀ args w, (callFunc f args).run Try.prog w = .ok (.enter f args) w) (caps : Array Value) (p : Chv → Bool) (A : Option Addr) (n c : Nat) (l : List Chv) (L : Nat) (w : World) (hs : Se w A n c l) (hL : Bx w L 22 [.slice A n c])
    (hcall : Hid (∀ W, Below w.heap.size w W → ∀ x, Calls Try.prog f (#[.agg #[.bool x.up, .int .i64 x.cwnd, .int .i64 x.flight, .int .i64 x.srtt, .int .i64 x.vr]] ++ caps) W fun e W' => e = .returned (.bool (p x)) ∧ Below W.heap.size W W')) :
    Calls Try.prog 16 #[.func (.func f) #[] caps, .pointer (some ⟨L, 0, none⟩)] w fun e w' => e = .returned (.int .i64 (bestI p l n)) ∧ Below w.heap.size w w' := by
  have hl := hs.rd.len
  have m1 := hs.le; have m2 := hs.max
  have m3 : n ≤ 9223372036854775807 := by unfold maxLen at m2; omega
  have cl0 := hL.cell 0 rfl
  have hLB : L < w.heap.size := hL.lt
  obtain ⟨B, hB⟩ : ∃ B, w.heap.size = B := ⟨_, rfl⟩
  rw [hB] at hLB hcall ⊢
  have HB := Lib.hid hB; have HL := Lib.hid hl; have HSE := Lib.hid hs; have HF := hcall; have CL0 := Lib.hid cl0
  clear hB hl hs m1 m2 hL hcall
  go_enter Try.func16, Try.ntmps16
  go_wp2_with fail
  clear cl0
  go_loopw [4, 8] (fun bs i wr => ∃ k : Nat, k ≤ n ∧ i = .int .i64 (k : Int) ∧ bs = .int .i64 (bestI p l k) ∧ Below B w wr) (fun _ i _ => n - (intOf i).toNat)
  case atStart => exact ⟨0, Nat.zero_le _, rfl, rfl, Below.refl _ _⟩
  case round =>
    obtain ⟨k, hk, rfl, rfl, br⟩ := hrel
    have hBr : B ≤ wr.heap.size := by have := br.size; have := HB.out; omega
    by_cases hlt : k < n
    · have dlt : decide (k < n) = true := decide_eq_true hlt
      have cl0 := CL0.out
      obtain ⟨bb, o, hA, hbl, hc0⟩ := HSE.out.rd.at_ (by omega)
      have hbB : bb < B := by have := HB.out; omega
      have hcell : ∀ W, Below B w W → ∀ i, i < n → ∀ j u, (El.cells (ge l i))[j]? = some u → W.cell? ⟨bb, o + i * 5 + j, none⟩ = some u := fun W hW i hi j u hu => (hW.cell (p := ⟨bb, o + i * 5 + j, none⟩) hbB).trans (hc0 i hi j u hu)
      have HC := Lib.hid hcell
      subst hA
      clear hc0 hcell hbl
      obtain ⟨x, hx⟩ : ∃ x, ge l k = x := ⟨_, rfl⟩
      have HXE := Lib.hid hx; clear hx
      have hsf := best_succ p l k
      have hbf := best_ok p l k
      have f0 := hbf.lo; have f1 := hbf.hi
      rw [HXE.out] at hsf
      obtain ⟨fi, hfi⟩ : ∃ v, bestI p l k = v := ⟨_, rfl⟩
      rw [hfi] at hsf f0 f1 ⊢
      obtain ⟨F', hF'⟩ : ∃ v, bestI p l (k + 1) = v := ⟨_, rfl⟩
      rw [hF'] at hsf
      have HF' := Lib.hid hF'
      obtain ⟨mv, hmv⟩ : ∃ v, p x = v := ⟨_, rfl⟩
      rw [hmv] at hsf
      have HSF := Lib.hid hsf; have HMV := Lib.hid hmv
      clear hsf hbf hfi hF' hmv
      go_upto_region 5 with fail
      cases mv with
      | false =>
        have eg : F' = fi := by rw [HSF.out, if_neg (fun h => by cases h.1)]
        have Eg := Lib.hid eg; clear eg
        have HS0 : Below wr.heap.size wr wr.drew := (Below.refl _ _).drew
        have br1 : Below B w wr.drew := br.drew
        refine wp_region_tail 22 23 (fun (W : World) => Below B w W ∧ W.cell? ⟨L, 0, none⟩ = some (.slice (some ⟨bb, o, none⟩) n c) ∧ W.cell? ⟨bb, o + k * 5, none⟩ = some (.bool x.up) ∧ W.cell? ⟨bb, o + k * 5 + 1, none⟩ = some (.int .i64 x.cwnd) ∧ W.cell? ⟨bb, o + k * 5 + 2, none⟩ = some (.int .i64 x.flight) ∧ W.cell? ⟨bb, o + k * 5 + 3, none⟩ = some (.int .i64 x.srtt) ∧ W.cell? ⟨bb, o + k * 5 + 4, none⟩ = some (.int .i64 x.vr)) (by kernel_rfl) (by rfl) (by decide) ?_
        have HS : ((fun (W : World) => Below B w W ∧ W.cell? ⟨L, 0, none⟩ = some (.slice (some ⟨bb, o, none⟩) n c) ∧ W.cell? ⟨bb, o + k * 5, none⟩ = some (.bool x.up) ∧ W.cell? ⟨bb, o + k * 5 + 1, none⟩ = some (.int .i64 x.cwnd) ∧ W.cell? ⟨bb, o + k * 5 + 2, none⟩ = some (.int .i64 x.flight) ∧ W.cell? ⟨bb, o + k * 5 + 3, none⟩ = some (.int .i64 x.srtt) ∧ W.cell? ⟨bb, o + k * 5 + 4, none⟩ = some (.int .i64 x.vr))) _ := ⟨br1, (br1.cell (p := ⟨L, 0, none⟩) hLB).trans cl0, HC.out _ br1 k hlt 0 _ (by rw [HXE.out]; rfl), HC.out _ br1 k hlt 1 _ (by rw [HXE.out]; rfl), HC.out _ br1 k hlt 2 _ (by rw [HXE.out]; rfl), HC.out _ br1 k hlt 3 _ (by rw [HXE.out]; rfl), HC.out _ br1 k hlt 4 _ (by rw [HXE.out]; rfl)⟩
        refine wpAnyT_take (i := 0) (v := ?vv1) rfl (by kernel_rfl) (fun _ _ _ h => h) (Or.inl ⟨by rfl, fun w hSw => ?yy1⟩) HS ?rr1
        case yy1 =>
          (try dsimp only at hSw); go_simp
          try with_reducible rfl
        try simp only [Act.put, List.setIfInBounds_toArray, List.set_cons_zero, List.set_cons_succ]
        refine wpAnyT_take (i := 1) (v := ?vv2) rfl (by kernel_rfl) (fun _ _ _ h => h) (Or.inl ⟨by rfl, fun w hSw => ?yy2⟩) HS ?rr2
        case yy2 =>
          (try dsimp only at hSw); go_simp
          try with_reducible rfl
        try simp only [Act.put, List.setIfInBounds_toArray, List.set_cons_zero, List.set_cons_succ]
        refine wpAnyT_take (i := 2) (v := ?vv3) rfl (by kernel_rfl) (fun _ _ _ h => h) (Or.inl ⟨by rfl, fun w hSw => ?yy3⟩) HS ?rr3
        case yy3 =>
          (try dsimp only at hSw); go_simp
          try with_reducible rfl
        try simp only [Act.put, List.setIfInBounds_toArray, List.set_cons_zero, List.set_cons_succ]
        refine wpAnyT_take (i := 3) (v := ?vv4) rfl (by kernel_rfl) (fun _ _ _ h => h) (Or.inl ⟨by rfl, fun w hSw => ?yy4⟩) HS ?rr4
        case yy4 =>
          (try dsimp only at hSw); go_simp
          try with_reducible rfl
        try simp only [Act.put, List.setIfInBounds_toArray, List.set_cons_zero, List.set_cons_succ]
        refine wpAnyT_take (i := 4) (v := ?vv5) rfl (by kernel_rfl) (fun _ _ _ h => h) (Or.inl ⟨by rfl, fun w hSw => ?yy5⟩) HS ?rr5
        case yy5 =>
          (try dsimp only at hSw); go_simp
          try with_reducible rfl
        try simp only [Act.put, List.setIfInBounds_toArray, List.set_cons_zero, List.set_cons_succ]
        refine wpAnyT_one (k := 5) rfl (by kernel_rfl) (by decide) (fun K hK => ?_)
        go_simp
        refine ((HF.out _ HS.1 x).mono ?_)
        rintro e wv ⟨rfl, hbv⟩
        rw [HMV.out]
        have bv : Below B w wv := HS.1.trans (hbv.mono (Nat.le_trans hBr HS0.size))
        have HS : ((fun (W : World) => Below B w W ∧ W.cell? ⟨L, 0, none⟩ = some (.slice (some ⟨bb, o, none⟩) n c) ∧ W.cell? ⟨bb, o + k * 5, none⟩ = some (.bool x.up) ∧ W.cell? ⟨bb, o + k * 5 + 1, none⟩ = some (.int .i64 x.cwnd) ∧ W.cell? ⟨bb, o + k * 5 + 2, none⟩ = some (.int .i64 x.flight) ∧ W.cell? ⟨bb, o + k * 5 + 3, none⟩ = some (.int .i64 x.srtt) ∧ W.cell? ⟨bb, o + k * 5 + 4, none⟩ = some (.int .i64 x.vr))) _ := ⟨bv, (bv.cell (p := ⟨L, 0, none⟩) hLB).trans cl0, HC.out _ bv k hlt 0 _ (by rw [HXE.out]; rfl), HC.out _ bv k hlt 1 _ (by rw [HXE.out]; rfl), HC.out _ bv k hlt 2 _ (by rw [HXE.out]; rfl), HC.out _ bv k hlt 3 _ (by rw [HXE.out]; rfl), HC.out _ bv k hlt 4 _ (by rw [HXE.out]; rfl)⟩
        refine hK _ _ HS ?_
        clear hK K
        try simp only [Act.put, List.setIfInBounds_toArray, List.set_cons_zero, List.set_cons_succ]
        refine wpAnyT_take (i := 6) (v := ?vv6) rfl (by kernel_rfl) (fun _ _ _ h => h) (Or.inl ⟨by rfl, fun w hSw => ?yy6⟩) HS ?rr6
        case yy6 =>
          (try dsimp only at hSw); go_simp
          try with_reducible rfl
        try simp only [Act.put, List.setIfInBounds_toArray, List.set_cons_zero, List.set_cons_succ]
        refine wpAnyT_take (i := 7) (v := undef) rfl (by kernel_rfl) (fun _ _ _ h => h) (Or.inr ⟨by kernel_rfl, rfl⟩) HS ?_
        try simp only [Act.put, List.setIfInBounds_toArray, List.set_cons_zero, List.set_cons_succ]
        refine wpAnyT_take (i := 8) (v := undef) rfl (by kernel_rfl) (fun _ _ _ h => h) (Or.inr ⟨by kernel_rfl, rfl⟩) HS ?_
        try simp only [Act.put, List.setIfInBounds_toArray, List.set_cons_zero, List.set_cons_succ]
        refine wpAnyT_take (i := 9) (v := undef) rfl (by kernel_rfl) (fun _ _ _ h => h) (Or.inr ⟨by kernel_rfl, rfl⟩) HS ?_
        try simp only [Act.put, List.setIfInBounds_toArray, List.set_cons_zero, List.set_cons_succ]
        refine wpAnyT_take (i := 10) (v := undef) rfl (by kernel_rfl) (fun _ _ _ h => h) (Or.inr ⟨by kernel_rfl, rfl⟩) HS ?_
        try simp only [Act.put, List.setIfInBounds_toArray, List.set_cons_zero, List.set_cons_succ]
        refine wpAnyT_take (i := 11) (v := undef) rfl (by kernel_rfl) (fun _ _ _ h => h) (Or.inr ⟨by kernel_rfl, rfl⟩) HS ?_
        try simp only [Act.put, List.setIfInBounds_toArray, List.set_cons_zero, List.set_cons_succ]
        refine wpAnyT_take (i := 12) (v := undef) rfl (by kernel_rfl) (fun _ _ _ h => h) (Or.inr ⟨by kernel_rfl, rfl⟩) HS ?_
        try simp only [Act.put, List.setIfInBounds_toArray, List.set_cons_zero, List.set_cons_succ]
        refine wpAnyT_take (i := 13) (v := undef) rfl (by kernel_rfl) (fun _ _ _ h => h) (Or.inr ⟨by kernel_rfl, rfl⟩) HS ?_
        try simp only [Act.put, List.setIfInBounds_toArray, List.set_cons_zero, List.set_cons_succ]
        refine wpAnyT_take (i := 14) (v := undef) rfl (by kernel_rfl) (fun _ _ _ h => h) (Or.inr ⟨by kernel_rfl, rfl⟩) HS ?_
        try simp only [Act.put, List.setIfInBounds_toArray, List.set_cons_zero, List.set_cons_succ]
        refine wpAnyT_take (i := 15) (v := undef) rfl (by kernel_rfl) (fun _ _ _ h => h) (Or.inr ⟨by kernel_rfl, rfl⟩) HS ?_
        try simp only [Act.put, List.setIfInBounds_toArray, List.set_cons_zero, List.set_cons_succ]
        refine wpAnyT_take (i := 16) (v := undef) rfl (by kernel_rfl) (fun _ _ _ h => h) (Or.inr ⟨by kernel_rfl, rfl⟩) HS ?_
        try simp only [Act.put, List.setIfInBounds_toArray, List.set_cons_zero, List.set_cons_succ]
        refine wpAnyT_take (i := 17) (v := undef) rfl (by kernel_rfl) (fun _ _ _ h => h) (Or.inr ⟨by kernel_rfl, rfl⟩) HS ?_
        try simp only [Act.put, List.setIfInBounds_toArray, List.set_cons_zero, List.set_cons_succ]
        refine wpAnyT_take (i := 18) (v := undef) rfl (by kernel_rfl) (fun _ _ _ h => h) (Or.inr ⟨by kernel_rfl, rfl⟩) HS ?_
        try simp only [Act.put, List.setIfInBounds_toArray, List.set_cons_zero, List.set_cons_succ]
        refine wpAnyT_take (i := 19) (v := undef) rfl (by kernel_rfl) (fun _ _ _ h => h) (Or.inr ⟨by kernel_rfl, rfl⟩) HS ?_
        try simp only [Act.put, List.setIfInBounds_toArray, List.set_cons_zero, List.set_cons_succ]
        refine wpAnyT_take (i := 20) (v := undef) rfl (by kernel_rfl) (fun _ _ _ h => h) (Or.inr ⟨by kernel_rfl, rfl⟩) HS ?_
        try simp only [Act.put, List.setIfInBounds_toArray, List.set_cons_zero, List.set_cons_succ]
        refine wpAnyT_take (i := 21) (v := undef) rfl (by kernel_rfl) (fun _ _ _ h => h) (Or.inr ⟨by kernel_rfl, rfl⟩) HS ?_
        try simp only [Act.put, List.setIfInBounds_toArray, List.set_cons_zero, List.set_cons_succ]
        refine ⟨by kernel_rfl, ?_⟩
        simp only [List.drop_succ_cons, List.drop_zero]
        go_wp2_with fail
        go_roundw
        case rel => exact ⟨k + 1, by omega, by go_num, by rw [HF'.out, Eg.out], bv⟩
        case measure => simp [intOf]; omega
      | true =>
      by_cases ug : fi < 0
      case pos =>
        have dg : decide (fi < 0) = true := decide_eq_true ug
        have eg : F' = (k : Int) := by rw [HSF.out, if_pos ⟨rfl, .inl ug⟩]
        have Eg := Lib.hid eg; clear eg
        have HS0 : Below wr.heap.size wr wr.drew := (Below.refl _ _).drew
        have br1 : Below B w wr.drew := br.drew
        refine wp_region_tail 22 23 (fun (W : World) => Below B w W ∧ W.cell? ⟨L, 0, none⟩ = some (.slice (some ⟨bb, o, none⟩) n c) ∧ W.cell? ⟨bb, o + k * 5, none⟩ = some (.bool x.up) ∧ W.cell? ⟨bb, o + k * 5 + 1, none⟩ = some (.int .i64 x.cwnd) ∧ W.cell? ⟨bb, o + k * 5 + 2, none⟩ = some (.int .i64 x.flight) ∧ W.cell? ⟨bb, o + k * 5 + 3, none⟩ = some (.int .i64 x.srtt) ∧ W.cell? ⟨bb, o + k * 5 + 4, none⟩ = some (.int .i64 x.vr)) (by kernel_rfl) (by rfl) (by decide) ?_
        have HS : ((fun (W : World) => Below B w W ∧ W.cell? ⟨L, 0, none⟩ = some (.slice (some ⟨bb, o, none⟩) n c) ∧ W.cell? ⟨bb, o + k * 5, none⟩ = some (.bool x.up) ∧ W.cell? ⟨bb, o + k * 5 + 1, none⟩ = some (.int .i64 x.cwnd) ∧ W.cell? ⟨bb, o + k * 5 + 2, none⟩ = some (.int .i64 x.flight) ∧ W.cell? ⟨bb, o + k * 5 + 3, none⟩ = some (.int .i64 x.srtt) ∧ W.cell? ⟨bb, o + k * 5 + 4, none⟩ = some (.int .i64 x.vr))) _ := ⟨br1, (br1.cell (p := ⟨L, 0, none⟩) hLB).trans cl0, HC.out _ br1 k hlt 0 _ (by rw [HXE.out]; rfl), HC.out _ br1 k hlt 1 _ (by rw [HXE.out]; rfl), HC.out _ br1 k hlt 2 _ (by rw [HXE.out]; rfl), HC.out _ br1 k hlt 3 _ (by rw [HXE.out]; rfl), HC.out _ br1 k hlt 4 _ (by rw [HXE.out]; rfl)⟩
        refine wpAnyT_take (i := 0) (v := ?vv7) rfl (by kernel_rfl) (fun _ _ _ h => h) (Or.inl ⟨by rfl, fun w hSw => ?yy7⟩) HS ?rr7
        case yy7 =>
          (try dsimp only at hSw); go_simp
          try with_reducible rfl
        try simp only [Act.put, List.setIfInBounds_toArray, List.set_cons_zero, List.set_cons_succ]
        refine wpAnyT_take (i := 1) (v := ?vv8) rfl (by kernel_rfl) (fun _ _ _ h => h) (Or.inl ⟨by rfl, fun w hSw => ?yy8⟩) HS ?rr8
        case yy8 =>
          (try dsimp only at hSw); go_simp
          try with_reducible rfl
        try simp only [Act.put, List.setIfInBounds_toArray, List.set_cons_zero, List.set_cons_succ]
        refine wpAnyT_take (i := 2) (v := ?vv9) rfl (by kernel_rfl) (fun _ _ _ h => h) (Or.inl ⟨by rfl, fun w hSw => ?yy9⟩) HS ?rr9
        case yy9 =>
          (try dsimp only at hSw); go_simp
          try with_reducible rfl
        try simp only [Act.put, List.setIfInBounds_toArray, List.set_cons_zero, List.set_cons_succ]
        refine wpAnyT_take (i := 3) (v := ?vv10) rfl (by kernel_rfl) (fun _ _ _ h => h) (Or.inl ⟨by rfl, fun w hSw => ?yy10⟩) HS ?rr10
        case yy10 =>
          (try dsimp only at hSw); go_simp
          try with_reducible rfl
        try simp only [Act.put, List.setIfInBounds_toArray, List.set_cons_zero, List.set_cons_succ]
        refine wpAnyT_take (i := 4) (v := ?vv11) rfl (by kernel_rfl) (fun _ _ _ h => h) (Or.inl ⟨by rfl, fun w hSw => ?yy11⟩) HS ?rr11
        case yy11 =>
          (try dsimp only at hSw); go_simp
          try with_reducible rfl
        try simp only [Act.put, List.setIfInBounds_toArray, List.set_cons_zero, List.set_cons_succ]
        refine wpAnyT_one (k := 5) rfl (by kernel_rfl) (by decide) (fun K hK => ?_)
        go_simp
        refine ((HF.out _ HS.1 x).mono ?_)
        rintro e wv ⟨rfl, hbv⟩
        rw [HMV.out]
        have bv : Below B w wv := HS.1.trans (hbv.mono (Nat.le_trans hBr HS0.size))
        have HS : ((fun (W : World) => Below B w W ∧ W.cell? ⟨L, 0, none⟩ = some (.slice (some ⟨bb, o, none⟩) n c) ∧ W.cell? ⟨bb, o + k * 5, none⟩ = some (.bool x.up) ∧ W.cell? ⟨bb, o + k * 5 + 1, none⟩ = some (.int .i64 x.cwnd) ∧ W.cell? ⟨bb, o + k * 5 + 2, none⟩ = some (.int .i64 x.flight) ∧ W.cell? ⟨bb, o + k * 5 + 3, none⟩ = some (.int .i64 x.srtt) ∧ W.cell? ⟨bb, o + k * 5 + 4, none⟩ = some (.int .i64 x.vr))) _ := ⟨bv, (bv.cell (p := ⟨L, 0, none⟩) hLB).trans cl0, HC.out _ bv k hlt 0 _ (by rw [HXE.out]; rfl), HC.out _ bv k hlt 1 _ (by rw [HXE.out]; rfl), HC.out _ bv k hlt 2 _ (by rw [HXE.out]; rfl), HC.out _ bv k hlt 3 _ (by rw [HXE.out]; rfl), HC.out _ bv k hlt 4 _ (by rw [HXE.out]; rfl)⟩
        refine hK _ _ HS ?_
        clear hK K
        try simp only [Act.put, List.setIfInBounds_toArray, List.set_cons_zero, List.set_cons_succ]
        refine wpAnyT_take (i := 6) (v := ?vv12) rfl (by kernel_rfl) (fun _ _ _ h => h) (Or.inl ⟨by rfl, fun w hSw => ?yy12⟩) HS ?rr12
        case yy12 =>
          (try dsimp only at hSw); go_simp
          try with_reducible rfl
        try simp only [Act.put, List.setIfInBounds_toArray, List.set_cons_zero, List.set_cons_succ]
        refine wpAnyT_take (i := 7) (v := ?vv13) rfl (by kernel_rfl) (fun _ _ _ h => h) (Or.inl ⟨by rfl, fun w hSw => ?yy13⟩) HS ?rr13
        case yy13 =>
          (try dsimp only at hSw); go_simp
          try with_reducible rfl
        try simp only [Act.put, List.setIfInBounds_toArray, List.set_cons_zero, List.set_cons_succ]
        refine wpAnyT_take (i := 8) (v := ?vv14) rfl (by kernel_rfl) (fun _ _ _ h => h) (Or.inl ⟨by rfl, fun w hSw => ?yy14⟩) HS ?rr14
        case yy14 =>
          (try dsimp only at hSw); go_simp
          try with_reducible rfl
        try simp only [Act.put, List.setIfInBounds_toArray, List.set_cons_zero, List.set_cons_succ]
        refine wpAnyT_take (i := 9) (v := ?vv15) rfl (by kernel_rfl) (fun _ _ _ h => h) (Or.inl ⟨by rfl, fun w hSw => ?yy15⟩) HS ?rr15
        case yy15 =>
          (try dsimp only at hSw); go_simp
          try with_reducible rfl
        try simp only [Act.put, List.setIfInBounds_toArray, List.set_cons_zero, List.set_cons_succ]
        refine wpAnyT_take (i := 10) (v := undef) rfl (by kernel_rfl) (fun _ _ _ h => h) (Or.inr ⟨by kernel_rfl, rfl⟩) HS ?_
        try simp only [Act.put, List.setIfInBounds_toArray, List.set_cons_zero, List.set_cons_succ]
        refine wpAnyT_take (i := 11) (v := undef) rfl (by kernel_rfl) (fun _ _ _ h => h) (Or.inr ⟨by kernel_rfl, rfl⟩) HS ?_
        try simp only [Act.put, List.setIfInBounds_toArray, List.set_cons_zero, List.set_cons_succ]
        refine wpAnyT_take (i := 12) (v := undef) rfl (by kernel_rfl) (fun _ _ _ h => h) (Or.inr ⟨by kernel_rfl, rfl⟩) HS ?_
        try simp only [Act.put, List.setIfInBounds_toArray, List.set_cons_zero, List.set_cons_succ]
        refine wpAnyT_take (i := 13) (v := undef) rfl (by kernel_rfl) (fun _ _ _ h => h) (Or.inr ⟨by kernel_rfl, rfl⟩) HS ?_
        try simp only [Act.put, List.setIfInBounds_toArray, List.set_cons_zero, List.set_cons_succ]
        refine wpAnyT_take (i := 14) (v := undef) rfl (by kernel_rfl) (fun _ _ _ h => h) (Or.inr ⟨by kernel_rfl, rfl⟩) HS ?_
        try simp only [Act.put, List.setIfInBounds_toArray, List.set_cons_zero, List.set_cons_succ]
        refine wpAnyT_take (i := 15) (v := undef) rfl (by kernel_rfl) (fun _ _ _ h => h) (Or.inr ⟨by kernel_rfl, rfl⟩) HS ?_
        try simp only [Act.put, List.setIfInBounds_toArray, List.set_cons_zero, List.set_cons_succ]
        refine wpAnyT_take (i := 16) (v := undef) rfl (by kernel_rfl) (fun _ _ _ h => h) (Or.inr ⟨by kernel_rfl, rfl⟩) HS ?_
        try simp only [Act.put, List.setIfInBounds_toArray, List.set_cons_zero, List.set_cons_succ]
        refine wpAnyT_take (i := 17) (v := undef) rfl (by kernel_rfl) (fun _ _ _ h => h) (Or.inr ⟨by kernel_rfl, rfl⟩) HS ?_
        try simp only [Act.put, List.setIfInBounds_toArray, List.set_cons_zero, List.set_cons_succ]
        refine wpAnyT_take (i := 18) (v := undef) rfl (by kernel_rfl) (fun _ _ _ h => h) (Or.inr ⟨by kernel_rfl, rfl⟩) HS ?_
        try simp only [Act.put, List.setIfInBounds_toArray, List.set_cons_zero, List.set_cons_succ]
        refine wpAnyT_take (i := 19) (v := undef) rfl (by kernel_rfl) (fun _ _ _ h => h) (Or.inr ⟨by kernel_rfl, rfl⟩) HS ?_
        try simp only [Act.put, List.setIfInBounds_toArray, List.set_cons_zero, List.set_cons_succ]
        refine wpAnyT_take (i := 20) (v := undef) rfl (by kernel_rfl) (fun _ _ _ h => h) (Or.inr ⟨by kernel_rfl, rfl⟩) HS ?_
        try simp only [Act.put, List.setIfInBounds_toArray, List.set_cons_zero, List.set_cons_succ]
        refine wpAnyT_take (i := 21) (v := ?vv16) rfl (by kernel_rfl) (fun _ _ _ h => h) (Or.inl ⟨by rfl, fun w hSw => ?yy16⟩) HS ?rr16
        case yy16 =>
          (try dsimp only at hSw); go_simp
          try with_reducible rfl
        try simp only [Act.put, List.setIfInBounds_toArray, List.set_cons_zero, List.set_cons_succ]
        refine ⟨by kernel_rfl, ?_⟩
        simp only [List.drop_succ_cons, List.drop_zero]
        go_wp2_with fail
        go_roundw
        case rel => exact ⟨k + 1, by omega, by go_num, by rw [HF'.out, Eg.out], bv⟩
        case measure => simp [intOf]; omega
      case neg =>
      obtain ⟨b, enb⟩ : ∃ m : Nat, fi = (m : Int) := ⟨fi.toNat, by omega⟩
      subst enb
      have dg : decide (((b : Nat) : Int) < 0) = false := decide_eq_false ug
      have hlb : b < n := by omega
      obtain ⟨z, hz⟩ : ∃ x, ge l b = x := ⟨_, rfl⟩
      have hhh := HSF.out
      rw [Int.toNat_natCast, hz] at hhh
      have HZE := Lib.hid hz
      clear hz
      have HH := Lib.hid hhh; clear hhh
      have HS0 : Below wr.heap.size wr wr.drew := (Below.refl _ _).drew
      have br1 : Below B w wr.drew := br.drew
      refine wp_region_tail 22 23 (fun (W : World) => Below B w W ∧ W.cell? ⟨L, 0, none⟩ = some (.slice (some ⟨bb, o, none⟩) n c) ∧ W.cell? ⟨bb, o + k * 5, none⟩ = some (.bool x.up) ∧ W.cell? ⟨bb, o + k * 5 + 1, none⟩ = some (.int .i64 x.cwnd) ∧ W.cell? ⟨bb, o + k * 5 + 2, none⟩ = some (.int .i64 x.flight) ∧ W.cell? ⟨bb, o + k * 5 + 3, none⟩ = some (.int .i64 x.srtt) ∧ W.cell? ⟨bb, o + k * 5 + 4, none⟩ = some (.int .i64 x.vr) ∧ W.cell? ⟨bb, o + b * 5 + 3, none⟩ = some (.int .i64 z.srtt)) (by kernel_rfl) (by rfl) (by decide) ?_
      have HS : ((fun (W : World) => Below B w W ∧ W.cell? ⟨L, 0, none⟩ = some (.slice (some ⟨bb, o, none⟩) n c) ∧ W.cell? ⟨bb, o + k * 5, none⟩ = some (.bool x.up) ∧ W.cell? ⟨bb, o + k * 5 + 1, none⟩ = some (.int .i64 x.cwnd) ∧ W.cell? ⟨bb, o + k * 5 + 2, none⟩ = some (.int .i64 x.flight) ∧ W.cell? ⟨bb, o + k * 5 + 3, none⟩ = some (.int .i64 x.srtt) ∧ W.cell? ⟨bb, o + k * 5 + 4, none⟩ = some (.int .i64 x.vr) ∧ W.cell? ⟨bb, o + b * 5 + 3, none⟩ = some (.int .i64 z.srtt))) _ := ⟨br1, (br1.cell (p := ⟨L, 0, none⟩) hLB).trans cl0, HC.out _ br1 k hlt 0 _ (by rw [HXE.out]; rfl), HC.out _ br1 k hlt 1 _ (by rw [HXE.out]; rfl), HC.out _ br1 k hlt 2 _ (by rw [HXE.out]; rfl), HC.out _ br1 k hlt 3 _ (by rw [HXE.out]; rfl), HC.out _ br1 k hlt 4 _ (by rw [HXE.out]; rfl), HC.out _ br1 b hlb 3 _ (by rw [HZE.out]; rfl)⟩
      refine wpAnyT_take (i := 0) (v := ?vv17) rfl (by kernel_rfl) (fun _ _ _ h => h) (Or.inl ⟨by rfl, fun w hSw => ?yy17⟩) HS ?rr17
      case yy17 =>
        (try dsimp only at hSw); go_simp
        try with_reducible rfl
      try simp only [Act.put, List.setIfInBounds_toArray, List.set_cons_zero, List.set_cons_succ]
      refine wpAnyT_take (i := 1) (v := ?vv18) rfl (by kernel_rfl) (fun _ _ _ h => h) (Or.inl ⟨by rfl, fun w hSw => ?yy18⟩) HS ?rr18
      case yy18 =>
        (try dsimp only at hSw); go_simp
        try with_reducible rfl
      try simp only [Act.put, List.setIfInBounds_toArray, List.set_cons_zero, List.set_cons_succ]
      refine wpAnyT_take (i := 2) (v := ?vv19) rfl (by kernel_rfl) (fun _ _ _ h => h) (Or.inl ⟨by rfl, fun w hSw => ?yy19⟩) HS ?rr19
      case yy19 =>
        (try dsimp only at hSw); go_simp
        try with_reducible rfl
      try simp only [Act.put, List.setIfInBounds_toArray, List.set_cons_zero, List.set_cons_succ]
      refine wpAnyT_take (i := 3) (v := ?vv20) rfl (by kernel_rfl) (fun _ _ _ h => h) (Or.inl ⟨by rfl, fun w hSw => ?yy20⟩) HS ?rr20
      case yy20 =>
        (try dsimp only at hSw); go_simp
        try with_reducible rfl
      try simp only [Act.put, List.setIfInBounds_toArray, List.set_cons_zero, List.set_cons_succ]
      refine wpAnyT_take (i := 4) (v := ?vv21) rfl (by kernel_rfl) (fun _ _ _ h => h) (Or.inl ⟨by rfl, fun w hSw => ?yy21⟩) HS ?rr21
      case yy21 =>
        (try dsimp only at hSw); go_simp
        try with_reducible rfl
      try simp only [Act.put, List.setIfInBounds_toArray, List.set_cons_zero, List.set_cons_succ]
      refine wpAnyT_one (k := 5) rfl (by kernel_rfl) (by decide) (fun K hK => ?_)
      go_simp
      refine ((HF.out _ HS.1 x).mono ?_)
      rintro e wv ⟨rfl, hbv⟩
      rw [HMV.out]
      have bv : Below B w wv := HS.1.trans (hbv.mono (Nat.le_trans hBr HS0.size))
      have HS : ((fun (W : World) => Below B w W ∧ W.cell? ⟨L, 0, none⟩ = some (.slice (some ⟨bb, o, none⟩) n c) ∧ W.cell? ⟨bb, o + k * 5, none⟩ = some (.bool x.up) ∧ W.cell? ⟨bb, o + k * 5 + 1, none⟩ = some (.int .i64 x.cwnd) ∧ W.cell? ⟨bb, o + k * 5 + 2, none⟩ = some (.int .i64 x.flight) ∧ W.cell? ⟨bb, o + k * 5 + 3, none⟩ = some (.int .i64 x.srtt) ∧ W.cell? ⟨bb, o + k * 5 + 4, none⟩ = some (.int .i64 x.vr) ∧ W.cell? ⟨bb, o + b * 5 + 3, none⟩ = some (.int .i64 z.srtt))) _ := ⟨bv, (bv.cell (p := ⟨L, 0, none⟩) hLB).trans cl0, HC.out _ bv k hlt 0 _ (by rw [HXE.out]; rfl), HC.out _ bv k hlt 1 _ (by rw [HXE.out]; rfl), HC.out _ bv k hlt 2 _ (by rw [HXE.out]; rfl), HC.out _ bv k hlt 3 _ (by rw [HXE.out]; rfl), HC.out _ bv k hlt 4 _ (by rw [HXE.out]; rfl), HC.out _ bv b hlb 3 _ (by rw [HZE.out]; rfl)⟩
      refine hK _ _ HS ?_
      clear hK K
      try simp only [Act.put, List.setIfInBounds_toArray, List.set_cons_zero, List.set_cons_succ]
      refine wpAnyT_take (i := 6) (v := ?vv22) rfl (by kernel_rfl) (fun _ _ _ h => h) (Or.inl ⟨by rfl, fun w hSw => ?yy22⟩) HS ?rr22
      case yy22 =>
        (try dsimp only at hSw); go_simp
        try with_reducible rfl
      try simp only [Act.put, List.setIfInBounds_toArray, List.set_cons_zero, List.set_cons_succ]
      refine wpAnyT_take (i := 7) (v := ?vv23) rfl (by kernel_rfl) (fun _ _ _ h => h) (Or.inl ⟨by rfl, fun w hSw => ?yy23⟩) HS ?rr23
      case yy23 =>
        (try dsimp only at hSw); go_simp
        try with_reducible rfl
      try simp only [Act.put, List.setIfInBounds_toArray, List.set_cons_zero, List.set_cons_succ]
      refine wpAnyT_take (i := 8) (v := ?vv24) rfl (by kernel_rfl) (fun _ _ _ h => h) (Or.inl ⟨by rfl, fun w hSw => ?yy24⟩) HS ?rr24
      case yy24 =>
        (try dsimp only at hSw); go_simp
        try with_reducible rfl
      try simp only [Act.put, List.setIfInBounds_toArray, List.set_cons_zero, List.set_cons_succ]
      refine wpAnyT_take (i := 9) (v := ?vv25) rfl (by kernel_rfl) (fun _ _ _ h => h) (Or.inl ⟨by rfl, fun w hSw => ?yy25⟩) HS ?rr25
      case yy25 =>
        (try dsimp only at hSw); go_simp
        try with_reducible rfl
      try simp only [Act.put, List.setIfInBounds_toArray, List.set_cons_zero, List.set_cons_succ]
      refine wpAnyT_take (i := 10) (v := ?vv26) rfl (by kernel_rfl) (fun _ _ _ h => h) (Or.inl ⟨by rfl, fun w hSw => ?yy26⟩) HS ?rr26
      case yy26 =>
        (try dsimp only at hSw); go_simp
        try with_reducible rfl
      try simp only [Act.put, List.setIfInBounds_toArray, List.set_cons_zero, List.set_cons_succ]
      refine wpAnyT_take (i := 11) (v := ?vv27) rfl (by kernel_rfl) (fun _ _ _ h => h) (Or.inl ⟨by rfl, fun w hSw => ?yy27⟩) HS ?rr27
      case yy27 =>
        (try dsimp only at hSw); go_simp
        try with_reducible rfl
      try simp only [Act.put, List.setIfInBounds_toArray, List.set_cons_zero, List.set_cons_succ]
      refine wpAnyT_take (i := 12) (v := ?vv28) rfl (by kernel_rfl) (fun _ _ _ h => h) (Or.inl ⟨by rfl, fun w hSw => ?yy28⟩) HS ?rr28
      case yy28 =>
        (try dsimp only at hSw); go_simp
        try with_reducible rfl
      try simp only [Act.put, List.setIfInBounds_toArray, List.set_cons_zero, List.set_cons_succ]
      refine wpAnyT_take (i := 13) (v := ?vv29) rfl (by kernel_rfl) (fun _ _ _ h => h) (Or.inl ⟨by rfl, fun w hSw => ?yy29⟩) HS ?rr29
      case yy29 =>
        (try dsimp only at hSw); go_simp
        try with_reducible rfl
      try simp only [Act.put, List.setIfInBounds_toArray, List.set_cons_zero, List.set_cons_succ]
      refine wpAnyT_take (i := 14) (v := ?vv30) rfl (by kernel_rfl) (fun _ _ _ h => h) (Or.inl ⟨by rfl, fun w hSw => ?yy30⟩) HS ?rr30
      case yy30 =>
        (try dsimp only at hSw); go_simp
        try with_reducible rfl
      try simp only [Act.put, List.setIfInBounds_toArray, List.set_cons_zero, List.set_cons_succ]
      refine wpAnyT_take (i := 15) (v := ?vv31) rfl (by kernel_rfl) (fun _ _ _ h => h) (Or.inl ⟨by rfl, fun w hSw => ?yy31⟩) HS ?rr31
      case yy31 =>
        (try dsimp only at hSw); go_simp
        try with_reducible rfl
      try simp only [Act.put, List.setIfInBounds_toArray, List.set_cons_zero, List.set_cons_succ]
      refine wpAnyT_take (i := 16) (v := ?vv32) rfl (by kernel_rfl) (fun _ _ _ h => h) (Or.inl ⟨by rfl, fun w hSw => ?yy32⟩) HS ?rr32
      case yy32 =>
        (try dsimp only at hSw); go_simp
        try with_reducible rfl
      try simp only [Act.put, List.setIfInBounds_toArray, List.set_cons_zero, List.set_cons_succ]
      refine wpAnyT_take (i := 17) (v := ?vv33) rfl (by kernel_rfl) (fun _ _ _ h => h) (Or.inl ⟨by rfl, fun w hSw => ?yy33⟩) HS ?rr33
      case yy33 =>
        (try dsimp only at hSw); go_simp
        try with_reducible rfl
      try simp only [Act.put, List.setIfInBounds_toArray, List.set_cons_zero, List.set_cons_succ]
      refine wpAnyT_take (i := 18) (v := ?vv34) rfl (by kernel_rfl) (fun _ _ _ h => h) (Or.inl ⟨by rfl, fun w hSw => ?yy34⟩) HS ?rr34
      case yy34 =>
        (try dsimp only at hSw); go_simp
        try with_reducible rfl
      try simp only [Act.put, List.setIfInBounds_toArray, List.set_cons_zero, List.set_cons_succ]
      refine wpAnyT_take (i := 19) (v := ?vv35) rfl (by kernel_rfl) (fun _ _ _ h => h) (Or.inl ⟨by rfl, fun w hSw => ?yy35⟩) HS ?rr35
      case yy35 =>
        (try dsimp only at hSw); go_simp
        try with_reducible rfl
      try simp only [Act.put, List.setIfInBounds_toArray, List.set_cons_zero, List.set_cons_succ]
      refine wpAnyT_take (i := 20) (v := ?vv36) rfl (by kernel_rfl) (fun _ _ _ h => h) (Or.inl ⟨by rfl, fun w hSw => ?yy36⟩) HS ?rr36
      case yy36 =>
        (try dsimp only at hSw); go_simp
        try with_reducible rfl
      try simp only [Act.put, List.setIfInBounds_toArray, List.set_cons_zero, List.set_cons_succ]
      refine wpAnyT_take (i := 21) (v := ?vv37) rfl (by kernel_rfl) (fun _ _ _ h => h) (Or.inl ⟨by rfl, fun w hSw => ?yy37⟩) HS ?rr37
      case yy37 =>
        (try dsimp only at hSw); go_simp
        try with_reducible rfl
      try simp only [Act.put, List.setIfInBounds_toArray, List.set_cons_zero, List.set_cons_succ]
      refine ⟨by kernel_rfl, ?_⟩
      simp only [List.drop_succ_cons, List.drop_zero]
      by_cases vh : x.srtt < z.srtt
      case pos =>
        have eg : F' = (k : Int) := by rw [HH.out, if_pos ⟨rfl, .inr vh⟩]
        have Eg := Lib.hid eg; clear eg
        have dv : decide (x.srtt < z.srtt) = true := decide_eq_true vh
        go_wp2_with fail
        go_roundw
        case rel => exact ⟨k + 1, by omega, by go_num, by rw [HF'.out, Eg.out], bv⟩
        case measure => simp [intOf]; omega
      case neg =>
        have eg : F' = (b : Int) := by rw [HH.out, if_neg (fun h => by rcases h.2 with h2 | h2; exact absurd h2 (by omega); exact vh h2)]
        have Eg := Lib.hid eg; clear eg
        have dv : decide (x.srtt < z.srtt) = false := decide_eq_false vh
        go_wp2_with fail
        go_roundw
        case rel => exact ⟨k + 1, by omega, by go_num, by rw [HF'.out, Eg.out], bv⟩
        case measure => simp [intOf]; omega
    · obtain rfl : k = n := by omega
      have dlt : decide (k < k) = false := decide_eq_false (by omega)
      go_wp2_with fail
      go_ret
      exact ⟨rfl, br⟩
end Go.Proofs.Ytmclffbjdkoneaa
