/- Package keep: Write as a contract of the call. -/
import Derived.Test.YtmnedaholdacnaaProg
import Derived.Test.YtmnedaholdacnaaKeAck
import Derived.Test.YtmnedaholdacnaaByConcat
import Derived.Test.YtmnedaholdacnaaTail
import Derived.WalkKit
import Derived.WalkSpells
import Derived.WalkSmall
import Derived.Lib.Hide
import Derived.Below
import Derived.Outline
import Derived.IntWalk
import Derived.Laws.Cover1
namespace Go.Proofs.Ytmnedaholdacnaa
open Go.RowKit
set_option linter.unusedSimpArgs false

/-- what a call tells that hands back a buffer, a number and an error -/
def Told3 (w w' : World) (e : Ending) (x : Kp × Int × Int) : Prop := ∃ R m d, e = .returned (.tuple #[.agg #[.int .i64 x.1.base, .slice R m d, .int .i64 x.1.cap, .bool x.1.sh], .int .i64 x.2.1, .int .i64 x.2.2]) ∧ Sb w' w.heap.size R m d x.1.l ∧ Below w.heap.size w w'

theorem two_flat (l b : List Int) : [l, b].flatten = l ++ b := by simp

set_option maxHeartbeats 2000000 in
theorem write_any (base : Int) (A : Option Addr) (n c : Nat) (cap : Int) (sh : Bool) (l : List Int) (A2 : Option Addr) (n2 c2 : Nat) (l2 : List Int) (w : World) (hs : Sl w A n c l) (hn : n ≤ 140737488355328) (hs2 : Sl w A2 n2 c2 l2) (hn2 : n2 ≤ 140737488355328) :
    Calls Try.prog 9 #[.agg #[.int .i64 base, .slice A n c, .int .i64 cap, .bool sh], .slice A2 n2 c2] w fun e w' => Told3 w w' e (writeR ⟨base, l, cap, sh⟩ l2) := by
  unfold Told3
  obtain ⟨B, hB⟩ : ∃ B, w.heap.size = B := ⟨_, rfl⟩
  have e0 := (Boxed4.new w 24 (.int .i64 base) (.slice A n c) (.int .i64 cap) (.bool sh)).alloc (.cells #[.int .i64 0, .slice none 0 0, .int .i64 0, .bool false] 24)
  have r0 := Boxed4.new (w.alloc (.cells #[.int .i64 base, .slice A n c, .int .i64 cap, .bool sh] 24)) 24 (.int .i64 0) (.slice none 0 0) (.int .i64 0) (.bool false)
  have hb : Below w.heap.size w ((w.alloc (.cells #[.int .i64 base, .slice A n c, .int .i64 cap, .bool sh] 24)).alloc (.cells #[.int .i64 0, .slice none 0 0, .int .i64 0, .bool false] 24)) := ((Below.refl _ _).alloc (Nat.le_refl _) _).alloc (by simp) _
  rw [World.size_alloc] at r0
  rw [hB] at e0 r0 hb
  obtain ⟨w0, hw0⟩ : ∃ w0, (w.alloc (.cells #[.int .i64 base, .slice A n c, .int .i64 cap, .bool sh] 24)).alloc (.cells #[.int .i64 0, .slice none 0 0, .int .i64 0, .bool false] 24) = w0 := ⟨_, rfl⟩
  rw [hw0] at e0 r0 hb
  have g0 := e0.c0
  have g1 := e0.c1
  have g2 := e0.c2
  have g3 := e0.c3
  have hsk : ∀ {w' : World}, Below B w w' → Sl w' A n c l := fun h => hs.keep (by rw [hB]; exact h)
  have hsk2 : ∀ {w' : World}, Below B w w' → Sl w' A2 n2 c2 l2 := fun h => hs2.keep (by rw [hB]; exact h)
  have hm := may_any base A n c cap sh l w0 hs.rd.len hn
  cases hk : kmay ⟨base, l, cap, sh⟩ with
  | false =>
    have he : writeR ⟨base, l, cap, sh⟩ l2 = (zk, 0, 1) := by unfold writeR; rw [hk]; rfl
    rw [he]
    rw [hk] at hm
    clear hk
    go_enter Try.func9, Try.ntmps9
    rw [hB]
    go_wp2_with (refine hm.mono ?_; rintro e w1 ⟨rfl, hb1⟩; have r1 := r0.kept hb1; have f0 := r1.free 0; have f1 := r1.free 1; have f2 := r1.free 2; have f3 := r1.free 3; have x0 := r1.c0; have x1 := r1.c1; have x2 := r1.c2; have x3 := r1.c3; have b1 := hb.trans (hb1.mono (Nat.le_of_lt e0.lt)))
    have rz := r1.set (.int .i64 0) (.slice none 0 0) (.int .i64 0) (.bool false)
    have y0 := rz.c0
    have y1 := rz.c1
    have y2 := rz.c2
    have y3 := rz.c3
    have b2 := ((((b1.setCell (p := ⟨B + 1, 0, none⟩) (by simp) (.int .i64 0)).setCell (p := ⟨B + 1, 1, none⟩) (by simp) (.slice none 0 0)).setCell (p := ⟨B + 1, 2, none⟩) (by simp) (.int .i64 0)).setCell (p := ⟨B + 1, 3, none⟩) (by simp) (.bool false))
    exact bodyPost_ret (v := .tuple #[.agg #[.int .i64 0, .slice none 0 0, .int .i64 0, .bool false], .int .i64 0, .int .i64 1]) (by simp [results, Try.results9, go_sem, y0, y1, y2, y3]) rfl ⟨none, 0, 0, rfl, Sb.none _ _, b2⟩
  | true =>
    rw [hk] at hm
    have hk' := kmay_iff.1 hk
    simp only [hs.rd.len] at hk'
    obtain ⟨k2, k3, k4, k0, k1⟩ := hk'
    have hn1 : n ≤ 1000000 := by omega
    have hend : kend ⟨base, l, cap, sh⟩ = base + n := by unfold kend; rw [hk, if_pos rfl, hs.rd.len]
    cases sh with
    | true =>
      have he : writeR ⟨base, l, cap, true⟩ l2 = (zk, 0, 9) := by unfold writeR; rw [if_pos hk]; rfl
      rw [he]
      clear hk he k0 k1 k2 k3 k4
      go_enter Try.func9, Try.ntmps9
      rw [hB]
      go_wp2_with (refine hm.mono ?_; rintro e w1 ⟨rfl, hb1⟩; have e1 := e0.kept hb1; have ec := e1.c3; have r1 := r0.kept hb1; have f0 := r1.free 0; have f1 := r1.free 1; have f2 := r1.free 2; have f3 := r1.free 3; have x0 := r1.c0; have x1 := r1.c1; have x2 := r1.c2; have x3 := r1.c3; have b1 := hb.trans (hb1.mono (Nat.le_of_lt e0.lt)))
      have rz := r1.set (.int .i64 0) (.slice none 0 0) (.int .i64 0) (.bool false)
      have y0 := rz.c0
      have y1 := rz.c1
      have y2 := rz.c2
      have y3 := rz.c3
      have b2 := ((((b1.setCell (p := ⟨B + 1, 0, none⟩) (by simp) (.int .i64 0)).setCell (p := ⟨B + 1, 1, none⟩) (by simp) (.slice none 0 0)).setCell (p := ⟨B + 1, 2, none⟩) (by simp) (.int .i64 0)).setCell (p := ⟨B + 1, 3, none⟩) (by simp) (.bool false))
      exact bodyPost_ret (v := .tuple #[.agg #[.int .i64 0, .slice none 0 0, .int .i64 0, .bool false], .int .i64 0, .int .i64 9]) (by simp [results, Try.results9, go_sem, y0, y1, y2, y3]) rfl ⟨none, 0, 0, rfl, Sb.none _ _, b2⟩
    | false =>
      obtain ⟨N, hN⟩ : ∃ N, room ⟨base, l, cap, false⟩ l2.length = N := ⟨_, rfl⟩
      have he : writeR ⟨base, l, cap, false⟩ l2 = (⟨base, l ++ l2.take N, cap, false⟩, (N : Int), 0) := by unfold writeR; rw [if_pos hk, if_neg (by simp), hN]
      rw [he]
      have hN2 : N = min n2 (min (cap - n).toNat (2305843009213693952 - (base + n)).toNat) := by rw [← hN]; unfold room; rw [hs2.rd.len, hs.rd.len]
      have hNle : N ≤ n2 := by omega
      have hNle2 : (n : Int) + N ≤ 1000000 := by omega
      have q1 : IntKind.i64.wrap (cap - (n : Int)) = cap - n := IntWalk.i64_in _ (by omega)
      have q2 : IntKind.i64.wrap (2305843009213693952 - (base + (n : Int))) = 2305843009213693952 - (base + n) := IntWalk.i64_in _ (by omega)
      have hhead := fun w => run_head3 Try.prog 22 5 Try.underlying22 info_u8 A2 n2 c2 N w (by have := hs2.le; omega)
      have hmin := fun (w : World) (ts : Array TypeId) (t : TypeId) => run_min_int3 (P := Try.prog) w ts t .i64 .i64 .i64 (n2 : Int) (cap - (n : Int)) (2305843009213693952 - (base + (n : Int)))
      have hite : (if 2305843009213693952 - (base + (n : Int)) < (if cap - (n : Int) < (n2 : Int) then cap - (n : Int) else (n2 : Int)) then 2305843009213693952 - (base + (n : Int)) else (if cap - (n : Int) < (n2 : Int) then cap - (n : Int) else (n2 : Int))) = (N : Int) := by
        split <;> split <;> omega
      rw [hite] at hmin
      have HN2 := Lib.hid hN2
      clear hk he hN hite hN2
      go_enter Try.func9, Try.ntmps9
      rw [hB]
      go_wp2_with (refine hm.mono ?_; rintro e w1 ⟨rfl, hb1⟩; have e1 := e0.kept hb1; have ec := e1.c3; have r1 := r0.kept hb1; have b1 := hb.trans (hb1.mono (Nat.le_of_lt e0.lt)))
      have e2 : Boxed4 w1.drew B 24 (.int .i64 base) (.slice A n c) (.int .i64 cap) (.bool false) := e1
      have r2 : Boxed4 w1.drew (B + 1) 24 (.int .i64 0) (.slice none 0 0) (.int .i64 0) (.bool false) := r1
      have b2 := b1.drew
      refine wp_region_tail 11 13 (fun w' : World => w'.cell? ⟨B, 0, none⟩ = some (.int .i64 base) ∧ w'.cell? ⟨B, 1, none⟩ = some (.slice A n c) ∧ w'.cell? ⟨B, 2, none⟩ = some (.int .i64 cap) ∧ w'.cell? ⟨B, 3, none⟩ = some (.bool false)) (by kernel_rfl) (by rfl) (by decide) ?_
      have HS : ((fun w' : World => w'.cell? ⟨B, 0, none⟩ = some (.int .i64 base) ∧ w'.cell? ⟨B, 1, none⟩ = some (.slice A n c) ∧ w'.cell? ⟨B, 2, none⟩ = some (.int .i64 cap) ∧ w'.cell? ⟨B, 3, none⟩ = some (.bool false))) _ := ⟨e1.c0, e1.c1, e1.c2, e1.c3⟩
      refine wpAnyT_take (i := 0) (v := .slice A2 n2 c2) rfl (by kernel_rfl) (fun _ _ _ h => h) (Or.inl ⟨by rfl, fun w hSw => ?_⟩) HS ?_
      · (try dsimp only at hSw); go_simp
      try simp only [Act.put, List.setIfInBounds_toArray, List.set_cons_zero, List.set_cons_succ]
      refine wpAnyT_take (i := 1) (v := .int .i64 (n2 : Int)) rfl (by kernel_rfl) (fun _ _ _ h => h) (Or.inl ⟨by rfl, fun w hSw => ?_⟩) HS ?_
      · (try dsimp only at hSw); go_simp
      try simp only [Act.put, List.setIfInBounds_toArray, List.set_cons_zero, List.set_cons_succ]
      refine wpAnyT_take (i := 2) (v := .pointer (some ⟨B, 2, none⟩)) rfl (by kernel_rfl) (fun _ _ _ h => h) (Or.inl ⟨by rfl, fun w hSw => ?_⟩) HS ?_
      · (try dsimp only at hSw); go_simp
      try simp only [Act.put, List.setIfInBounds_toArray, List.set_cons_zero, List.set_cons_succ]
      refine wpAnyT_take (i := 3) (v := .int .i64 cap) rfl (by kernel_rfl) (fun _ _ _ h => h) (Or.inl ⟨by rfl, fun w hSw => ?_⟩) HS ?_
      · (try dsimp only at hSw); go_simp
      try simp only [Act.put, List.setIfInBounds_toArray, List.set_cons_zero, List.set_cons_succ]
      refine wpAnyT_take (i := 4) (v := .pointer (some ⟨B, 1, none⟩)) rfl (by kernel_rfl) (fun _ _ _ h => h) (Or.inl ⟨by rfl, fun w hSw => ?_⟩) HS ?_
      · (try dsimp only at hSw); go_simp
      try simp only [Act.put, List.setIfInBounds_toArray, List.set_cons_zero, List.set_cons_succ]
      refine wpAnyT_take (i := 5) (v := .slice A n c) rfl (by kernel_rfl) (fun _ _ _ h => h) (Or.inl ⟨by rfl, fun w hSw => ?_⟩) HS ?_
      · (try dsimp only at hSw); go_simp
      try simp only [Act.put, List.setIfInBounds_toArray, List.set_cons_zero, List.set_cons_succ]
      refine wpAnyT_take (i := 6) (v := .int .i64 (n : Int)) rfl (by kernel_rfl) (fun _ _ _ h => h) (Or.inl ⟨by rfl, fun w hSw => ?_⟩) HS ?_
      · (try dsimp only at hSw); go_simp
      try simp only [Act.put, List.setIfInBounds_toArray, List.set_cons_zero, List.set_cons_succ]
      refine wpAnyT_take (i := 7) (v := .int .i64 (cap - (n : Int))) rfl (by kernel_rfl) (fun _ _ _ h => h) (Or.inl ⟨by rfl, fun w hSw => ?_⟩) HS ?_
      · (try dsimp only at hSw); go_simp
      try simp only [Act.put, List.setIfInBounds_toArray, List.set_cons_zero, List.set_cons_succ]
      refine wpAnyT_take (i := 8) (v := .agg #[.int .i64 base, .slice A n c, .int .i64 cap, .bool false]) rfl (by kernel_rfl) (fun _ _ _ h => h) (Or.inl ⟨by rfl, fun w hSw => ?_⟩) HS ?_
      · (try dsimp only at hSw); go_simp
      try simp only [Act.put, List.setIfInBounds_toArray, List.set_cons_zero, List.set_cons_succ]
      refine wpAnyT_one (k := 9) rfl (by kernel_rfl) (by decide) (fun K hK => ?_)
      go_simp
      refine (end_any base A n c cap false l _ hs.rd.len hn).mono ?_
      rintro e w3 ⟨he, hb3⟩
      rw [hend] at he; subst he
      have e3 := e2.kept hb3
      have r3 := r2.kept hb3
      have b3 := b2.trans (hb3.mono (Nat.le_of_lt e2.lt))
      have HS : ((fun w' : World => w'.cell? ⟨B, 0, none⟩ = some (.int .i64 base) ∧ w'.cell? ⟨B, 1, none⟩ = some (.slice A n c) ∧ w'.cell? ⟨B, 2, none⟩ = some (.int .i64 cap) ∧ w'.cell? ⟨B, 3, none⟩ = some (.bool false))) _ := ⟨e3.c0, e3.c1, e3.c2, e3.c3⟩
      refine hK _ _ HS ?_
      clear hK K
      try simp only [Act.put, List.setIfInBounds_toArray, List.set_cons_zero, List.set_cons_succ]
      refine wpAnyT_take (i := 10) (v := .int .i64 (2305843009213693952 - (base + (n : Int)))) rfl (by kernel_rfl) (fun _ _ _ h => h) (Or.inl ⟨by rfl, fun w hSw => ?_⟩) HS ?_
      · (try dsimp only at hSw); go_simp
      try simp only [Act.put, List.setIfInBounds_toArray, List.set_cons_zero, List.set_cons_succ]
      refine ⟨by kernel_rfl, ?_⟩
      simp only [List.drop_succ_cons, List.drop_zero]
      clear HS q1 q2
      go_wp2
      have e4 : Boxed4 w3.drew B 24 (.int .i64 base) (.slice A n c) (.int .i64 cap) (.bool false) := e3
      have r4 : Boxed4 w3.drew (B + 1) 24 (.int .i64 0) (.slice none 0 0) (.int .i64 0) (.bool false) := r3
      have b4 := b3.drew
      refine wp_region_tail 6 10 (fun w' : World => w'.cell? ⟨B, 0, none⟩ = some (.int .i64 base) ∧ w'.cell? ⟨B, 1, none⟩ = some (.slice A n c) ∧ w'.cell? ⟨B, 2, none⟩ = some (.int .i64 cap) ∧ w'.cell? ⟨B, 3, none⟩ = some (.bool false)) (by kernel_rfl) (by rfl) (by decide) ?_
      have HS : ((fun w' : World => w'.cell? ⟨B, 0, none⟩ = some (.int .i64 base) ∧ w'.cell? ⟨B, 1, none⟩ = some (.slice A n c) ∧ w'.cell? ⟨B, 2, none⟩ = some (.int .i64 cap) ∧ w'.cell? ⟨B, 3, none⟩ = some (.bool false))) _ := ⟨e3.c0, e3.c1, e3.c2, e3.c3⟩
      refine wpAnyT_take (i := 0) (v := .pointer (some ⟨B, 1, none⟩)) rfl (by kernel_rfl) (fun _ _ _ h => h) (Or.inl ⟨by rfl, fun w hSw => ?_⟩) HS ?_
      · (try dsimp only at hSw); go_simp
      try simp only [Act.put, List.setIfInBounds_toArray, List.set_cons_zero, List.set_cons_succ]
      refine wpAnyT_take (i := 1) (v := .slice A n c) rfl (by kernel_rfl) (fun _ _ _ h => h) (Or.inl ⟨by rfl, fun w hSw => ?_⟩) HS ?_
      · (try dsimp only at hSw); go_simp
      try simp only [Act.put, List.setIfInBounds_toArray, List.set_cons_zero, List.set_cons_succ]
      refine wpAnyT_take (i := 2) (v := .slice A2 n2 c2) rfl (by kernel_rfl) (fun _ _ _ h => h) (Or.inl ⟨by rfl, fun w hSw => ?_⟩) HS ?_
      · (try dsimp only at hSw); go_simp
      try simp only [Act.put, List.setIfInBounds_toArray, List.set_cons_zero, List.set_cons_succ]
      refine wpAnyT_take (i := 3) (v := .int .i64 (N : Int)) rfl (by kernel_rfl) (fun _ _ _ h => h) (Or.inl ⟨by rfl, fun w hSw => ?_⟩) HS ?_
      · (try dsimp only at hSw); go_simp
      try simp only [Act.put, List.setIfInBounds_toArray, List.set_cons_zero, List.set_cons_succ]
      refine wpAnyT_take (i := 4) (v := .int .i64 (N : Int)) rfl (by kernel_rfl) (fun _ _ _ h => h) (Or.inl ⟨by rfl, fun w hSw => ?_⟩) HS ?_
      · (try dsimp only at hSw); go_simp
      try simp only [Act.put, List.setIfInBounds_toArray, List.set_cons_zero, List.set_cons_succ]
      refine wpAnyT_take (i := 5) (v := .slice A2 N N) rfl (by kernel_rfl) (fun _ _ _ h => h) (Or.inl ⟨by rfl, fun w hSw => ?_⟩) HS ?_
      · (try dsimp only at hSw); go_simp
      try simp only [Act.put, List.setIfInBounds_toArray, List.set_cons_zero, List.set_cons_succ]
      refine ⟨by kernel_rfl, ?_⟩
      simp only [List.drop_succ_cons, List.drop_zero]
      clear HS
      have z0 := hsk b4
      have z1 := (hsk2 b4).head3 hNle
      have hrd := rds_two z0 z1 22
      have hfl : [l, l2.take N].flatten = l ++ l2.take N := two_flat _ _
      have hln : (l ++ l2.take N).length = n + N := by rw [List.length_append, List.length_take, hs.rd.len, hs2.rd.len]; omega
      have hcc := concat_any _ 2 2 _ _ hrd (by omega) (by rw [hfl, hln]; omega)
      rw [hfl, hln] at hcc
      have e5 := e4.alloc (.cells #[.slice A n c, .slice A2 N N] 22)
      have r5 := r4.alloc (.cells #[.slice A n c, .slice A2 N N] 22)
      have b5 := b4.alloc (Nat.le_of_lt e4.lt) (.cells #[.slice A n c, .slice A2 N N] 22)
      go_wp2_with (refine hcc.mono ?_; rintro e w6 ⟨R, d, rfl, s6, hb6⟩; have e6 := e5.kept hb6; have r6 := r5.kept hb6; have b6 := b5.trans (hb6.mono (Nat.le_of_lt e5.lt)); have v1 := e6.c1; have vf := e6.free 1; have e7 := e6.set1 (.slice R (n + N) d); have u0 := e7.c0; have u1 := e7.c1; have u2 := e7.c2; have u3 := e7.c3; have r7 := r6.far (p := ⟨B, 1, none⟩) (by simp) (.slice R (n + N) d); have v0 := r7.c0; have v1 := r7.c1; have v2 := r7.c2; have v3 := r7.c3; have vf0 := r7.free 0; have vf1 := r7.free 1; have vf2 := r7.free 2; have vf3 := r7.free 3)
      have hr2 := r5.lt
      have rz := r7.set (.int .i64 base) (.slice R (n + N) d) (.int .i64 cap) (.bool false)
      have y0 := rz.c0
      have y1 := rz.c1
      have y2 := rz.c2
      have y3 := rz.c3
      have b8 := (((((b6.setCell (p := ⟨B, 1, none⟩) (by simp) (.slice R (n + N) d)).setCell (p := ⟨B + 1, 0, none⟩) (by simp) (.int .i64 base)).setCell (p := ⟨B + 1, 1, none⟩) (by simp) (.slice R (n + N) d)).setCell (p := ⟨B + 1, 2, none⟩) (by simp) (.int .i64 cap)).setCell (p := ⟨B + 1, 3, none⟩) (by simp) (.bool false))
      exact bodyPost_ret (v := .tuple #[.agg #[.int .i64 base, .slice R (n + N) d, .int .i64 cap, .bool false], .int .i64 (N : Int), .int .i64 0]) (by simp [results, Try.results9, go_sem, y0, y1, y2, y3]) rfl ⟨R, n + N, d, rfl, (((((s6.set (p := ⟨B, 1, none⟩) (by simp at hr2 ⊢; omega) (.slice R (n + N) d)).set (p := ⟨B + 1, 0, none⟩) hr2 (.int .i64 base)).set (p := ⟨B + 1, 1, none⟩) hr2 (.slice R (n + N) d)).set (p := ⟨B + 1, 2, none⟩) hr2 (.int .i64 cap)).set (p := ⟨B + 1, 3, none⟩) hr2 (.bool false)).mono (Nat.le_of_lt e5.lt), b8⟩
end Go.Proofs.Ytmnedaholdacnaa
