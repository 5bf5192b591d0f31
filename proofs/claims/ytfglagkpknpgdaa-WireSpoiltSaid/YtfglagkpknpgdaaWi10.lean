/- The landed package wire: written, for pairs. -/
import Derived.Test.YtfglagkpknpgdaaProg
import Derived.Test.YtfglagkpknpgdaaWi9
import Derived.Test.YtfglagkpknpgdaaWi3
import Derived.Test.YtfglagkpknpgdaaTail
import Derived.WalkKit
import Derived.WalkSpells
import Derived.WalkSmall
import Derived.Lib.Hide
import Derived.Below
import Derived.Outline
import Derived.OrdersHeld
namespace Go.Proofs.Ytfglagkpknpgdaa
open Go.RowKit
set_option linter.unusedVariables false
set_option linter.unusedSimpArgs false

theorem sackB_take {l : List Pr} {k : Nat} (h : k < l.length) : sackB (l.take (k + 1)) = sackB (l.take k) ++ (be4 (pr l k).1 ++ be4 (pr l k).2) := by rw [take_pr h, sackB_snoc]; rfl
theorem Rp.cells {w : World} {A : Option Addr} {n : Nat} {l : List Pr} (h : Rp w A n l) (hn : 0 < n) : ∃ b o, A = some ⟨b, o, none⟩ ∧ b < w.heap.size ∧ Hid (∀ i, i < n → w.cell? ⟨b, o + i * 2, none⟩ = some (.int .u32 (pr l i).1) ∧ w.cell? ⟨b, o + i * 2 + 1, none⟩ = some (.int .u32 (pr l i).2)) := h.at_ hn

set_option maxRecDepth 100000 in
set_option maxHeartbeats 4000000 in
theorem wr_pairs (G : Option Addr) (m d : Nat) (pl : List Pr) (base : Nat) (v : Value) (n : Nat) (xs : List Int) (w0 w : World) (hs : Sr w0 G m d pl) (hw : Below base w0 w) (hb0 : w0.heap.size = base) (hm : m ≤ 3) (hg : Got w base v n xs) (hn : n ≤ 900000) :
    Calls Try.prog 21 #[v, .iface 23 (.slice G m d)] w fun e w' => ∃ v', e = .returned v' ∧ Got w' base v' (n + (1 + 8 * m)) (xs ++ ((m : Int) :: sackB pl)) ∧ Below base w0 w' := by
  have qbyte := fun w => no_byte (S := 23) (v := .slice G m d) (by decide) w
  have qu16 := fun w => no_u16 (S := 23) (v := .slice G m d) (by decide) w
  have qtriple := fun w => no_triple (S := 23) (v := .slice G m d) (by decide) w
  have qu32 := fun w => no_u32 (S := 23) (v := .slice G m d) (by decide) w
  have qy := fun w => yes_pairs (v := .slice G m d) w
  have hbase : base ≤ w.heap.size := by rw [← hb0]; exact hw.size
  have hsm : Small [(m : Int)] := by intro z hz; simp only [List.mem_cons, List.not_mem_nil, or_false] at hz; omega
  have hrd := Rd.block w hsm 5
  go_enter Try.func21, Try.ntmps21
  go_wp2_with (at_builtin; refine wpList_app _ rfl (.tmp 66) (.tmp 70) 24 rfl base 5 Try.underlying24 info_u8 _ n xs rfl (hg.own.alloc _) rfl (fun e => by cases e) hrd (by simp; omega) (by simp; omega) ?_; intro v1 w1 ho1 hg1 ha1)
  have g1 : Got w1 base v1 (n + 1) (xs ++ [(m : Int)]) := ⟨ho1, small_app hg.small hsm⟩
  have b1 : Below base w0 w1 := (hw.alloc hbase _).grown hg1 (by simp; omega) (fun k hk => (hg.lt hk).1)
  clear ho1 hg1 ha1 hrd hg qbyte qu16 qtriple qu32 qy hsm hw
  go_loopw [0, 11, 74] (fun b x i wr => ∃ q : Nat, q ≤ m ∧ i = .int .i64 (q : Int) ∧ Got wr base b (n + 1 + 8 * q) ((xs ++ [(m : Int)]) ++ sackB (pl.take q)) ∧ Below base w0 wr) (fun _ _ i _ => m - (intOf i).toNat)
  case atStart => exact ⟨0, Nat.zero_le _, rfl, by simpa [sackB] using g1, b1⟩
  case round =>
    clear g1 b1 hbase w1
    obtain ⟨q, hq, rfl, gq, bq⟩ := hrel
    have hszr : base ≤ wr.heap.size := by rw [← hb0]; exact bq.size
    by_cases hlt : q < m
    · obtain ⟨bb, oo, rfl, hbl, hc⟩ := hs.rd.cells (by omega)
      have hcc := hc.out q hlt
      have c1 := (bq.cell (p := ⟨bb, oo + q * 2, none⟩) (by rw [← hb0]; exact hbl)).trans hcc.1
      have c2 := (bq.cell (p := ⟨bb, oo + q * 2 + 1, none⟩) (by rw [← hb0]; exact hbl)).trans hcc.2
      have hsn := sackB_take (l := pl) (k := q) (by rw [hs.rd.len]; exact hlt)
      have hu := pr_wide hs.rd.wide q
      obtain ⟨x, hx⟩ : ∃ x, (pr pl q).1 = x := ⟨_, rfl⟩
      obtain ⟨y, hy⟩ : ∃ y, (pr pl q).2 = y := ⟨_, rfl⟩
      rw [hx] at c1 hsn hu
      rw [hy] at c2 hsn hu
      obtain ⟨ux, uy⟩ := hu
      have HSN := Lib.hid hsn; clear hsn hx hy hcc hc
      obtain ⟨X, hX⟩ : ∃ X, (xs ++ [(m : Int)]) ++ sackB (pl.take q) = X := ⟨_, rfl⟩
      rw [hX] at gq
      have HX := Lib.hid hX; clear hX
      obtain ⟨N, hN'⟩ : ∃ N, n + 1 + 8 * q = N := ⟨_, rfl⟩
      rw [hN'] at gq
      have hN : N ≤ 1000000 := by omega
      go_upto_region 20 with fail
      obtain ⟨Q, hQz⟩ : ∃ Q, wr.heap.size = Q := ⟨_, rfl⟩
      have hQ := Bx.new wr 46 [.int .u32 x, .int .u32 y]
      have hQA := hQ.drew
      rw [hQz] at hQA ⊢
      have gA := (gq.under ((Below.refl _ _).alloc (Nat.le_refl _) (.cells #[.int .u32 x, .int .u32 y] 46))).under (Below.refl _ _).drew
      have bA := (bq.alloc hszr (.cells #[.int .u32 x, .int .u32 y] 46)).drew
      have hzA : base ≤ (wr.alloc (.cells #[.int .u32 x, .int .u32 y] 46)).drew.heap.size := by simp; omega
      refine wp_region_tail 9 10 (fun (W : World) => W.cell? ⟨Q, 0, none⟩ = some (Value.int .u32 x) ∧ W.cell? ⟨Q, 1, none⟩ = some (Value.int .u32 y)) (by kernel_rfl) (by rfl) (by decide) ?_
      have HS : ((fun (W : World) => W.cell? ⟨Q, 0, none⟩ = some (Value.int .u32 x) ∧ W.cell? ⟨Q, 1, none⟩ = some (Value.int .u32 y))) _ := ⟨hQA.cell 0 rfl, hQA.cell 1 rfl⟩
      refine wpAnyT_take (i := 0) (v := ?vv1) rfl (by kernel_rfl) (fun _ _ _ h => h) (Or.inl ⟨by rfl, fun w hSw => ?yy1⟩) HS ?rr1
      case yy1 =>
        (try dsimp only at hSw); go_simp
        try with_reducible rfl
      try simp only [Act.put, List.setIfInBounds_toArray, List.set_cons_zero, List.set_cons_succ]
      refine wpAnyT_take (i := 1) (v := ?vv2) rfl (by kernel_rfl) (fun _ _ _ h => h) (Or.inl ⟨by rfl, fun w hSw => ?yy2⟩) HS ?rr2
      case yy2 =>
        (try dsimp only at hSw); go_simp
        try with_reducible rfl
      try simp only [Act.put, List.setIfInBounds_toArray, List.set_cons_zero, List.set_cons_succ]
      refine wpAnyT_take (i := 2) (v := ?vv3) rfl (by kernel_rfl) (fun _ _ _ h => h) (Or.inl ⟨by rfl, fun w hSw => ?yy3⟩) HS ?rr3
      case yy3 =>
        (try dsimp only at hSw); go_simp
        try with_reducible rfl
      try simp only [Act.put, List.setIfInBounds_toArray, List.set_cons_zero, List.set_cons_succ]
      refine wpAnyT_take (i := 3) (v := ?vv4) rfl (by kernel_rfl) (fun _ _ _ h => h) (Or.inl ⟨by rfl, fun w hSw => ?yy4⟩) HS ?rr4
      case yy4 =>
        (try dsimp only at hSw); go_simp
        try with_reducible rfl
      try simp only [Act.put, List.setIfInBounds_toArray, List.set_cons_zero, List.set_cons_succ]
      refine wpAnyT_take (i := 5) (v := ?vv5) rfl (by kernel_rfl) (fun _ _ _ h => h) (Or.inl ⟨by rfl, fun w hSw => ?yy5⟩) HS ?rr5
      case yy5 =>
        (try dsimp only at hSw); go_simp
        try with_reducible rfl
      try simp only [Act.put, List.setIfInBounds_toArray, List.set_cons_zero, List.set_cons_succ]
      refine wpAnyT_take (i := 6) (v := ?vv6) rfl (by kernel_rfl) (fun _ _ _ h => h) (Or.inl ⟨by rfl, fun w hSw => ?yy6⟩) HS ?rr6
      case yy6 =>
        (try dsimp only at hSw); go_simp
        try with_reducible rfl
      try simp only [Act.put, List.setIfInBounds_toArray, List.set_cons_zero, List.set_cons_succ]
      refine wpAnyT_take (i := 7) (v := ?vv7) rfl (by kernel_rfl) (fun _ _ _ h => h) (Or.inl ⟨by rfl, fun w hSw => ?yy7⟩) HS ?rr7
      case yy7 =>
        (try dsimp only at hSw); go_simp
        try with_reducible rfl
      try simp only [Act.put, List.setIfInBounds_toArray, List.set_cons_zero, List.set_cons_succ]
      refine wpAnyT_one (k := 4) rfl (by kernel_rfl) (by decide) (fun K hK => ?_)
      go_simp
      refine (wr_u32 x base _ N X _ gA hzA hN ux.1 ux.2).mono ?_; rintro e w5 ⟨v5, rfl, g5, gr5, own5⟩; have hQ5 := hQA.grown gr5 (fun h => by have := (gq.lt h.symm).2; omega)
      have HS : ((fun (W : World) => W.cell? ⟨Q, 0, none⟩ = some (Value.int .u32 x) ∧ W.cell? ⟨Q, 1, none⟩ = some (Value.int .u32 y))) _ := ⟨(hQ5.cell 0 rfl), (hQ5.cell 1 rfl)⟩
      refine hK _ _ HS ?_
      clear hK K
      try simp only [Act.put, List.setIfInBounds_toArray, List.set_cons_zero, List.set_cons_succ]
      refine wpAnyT_one (k := 8) rfl (by kernel_rfl) (by decide) (fun K hK => ?_)
      go_simp
      refine (wr_u32 y base _ (N + 4) _ _ g5 (Nat.le_trans hzA gr5.size) (by omega) uy.1 uy.2).mono ?_; rintro e w6 ⟨v6, rfl, g6, gr6, own6⟩; have hQ6 := hQ5.grown gr6 (fun h => by rcases own5 with h5 | ⟨k, h5, h6⟩ <;> (rw [h5] at h; first | (have := (gq.lt h.symm).2; omega) | (cases h; simp at h6; omega)))
      have HS : ((fun (W : World) => W.cell? ⟨Q, 0, none⟩ = some (Value.int .u32 x) ∧ W.cell? ⟨Q, 1, none⟩ = some (Value.int .u32 y))) _ := ⟨(hQ6.cell 0 rfl), (hQ6.cell 1 rfl)⟩
      refine hK _ _ HS ?_
      clear hK K
      try simp only [Act.put, List.setIfInBounds_toArray, List.set_cons_zero, List.set_cons_succ]
      refine ⟨by kernel_rfl, ?_⟩
      simp only [List.drop_succ_cons, List.drop_zero]

      have b6 : Below base w0 w6 := (bA.grown gr5 hzA (fun k hk => (gq.lt hk).1)).grown gr6 (Nat.le_trans hzA gr5.size) (fun k hk => (g5.lt hk).1)
      go_wp2_with fail
      go_roundw
      case rel => exact ⟨q + 1, by omega, by go_num, by rw [HSN.out, ← List.append_assoc, HX.out, ← List.append_assoc, show n + 1 + 8 * (q + 1) = N + 4 + 4 by omega]; exact g6, b6⟩
      case measure => simp [intOf]; omega
    · obtain rfl : m = q := by omega
      have ht : pl.take m = pl := by rw [← hs.rd.len]; exact List.take_length
      rw [ht] at gq
      go_wp2_with fail
      go_ret
      exact ⟨_, rfl, by rw [show n + (1 + 8 * m) = n + 1 + 8 * m by omega, show xs ++ ((m : Int) :: sackB pl) = (xs ++ [(m : Int)]) ++ sackB pl by simp]; exact gq, bq⟩
end Go.Proofs.Ytfglagkpknpgdaa
