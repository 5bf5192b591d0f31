/- Package keep: Ack as a contract of the call. -/
import Derived.Test.YtmnedaholdacnaaProg
import Derived.Test.YtmnedaholdacnaaKePart
import Derived.WalkKit
import Derived.WalkSpells
import Derived.WalkSmall
import Derived.Lib.Hide
import Derived.Below
import Derived.Outline
import Derived.Deep.RegionHeld3
import Derived.Deep.RegionWith
import Derived.Deep.AppendLies
import Derived.Test.YtmnedaholdacnaaTail
namespace Go.Proofs.Ytmnedaholdacnaa
open Go.RowKit
set_option linter.unusedSimpArgs false

theorem ack_cut {base : Int} {l : List Int} {n : Nat} (hl : l.length = n) {u : Int} :
    (l.take (idx base n (base + n))).drop (idx base n u) = l.drop (u - base).toNat := by
  rw [show idx base n (base + n) = n by unfold idx; omega, List.take_of_length_le (by omega)]
  unfold idx
  by_cases h : (u - base).toNat ≤ n
  · rw [show min (u - base).toNat n = (u - base).toNat by omega]
  · rw [List.drop_of_length_le (by omega), List.drop_of_length_le (by omega)]

set_option maxHeartbeats 1000000 in
theorem ack_any (base : Int) (A : Option Addr) (n c : Nat) (cap : Int) (sh : Bool) (l : List Int) (p : Int) (w : World) (hs : Sl w A n c l) (hn : n ≤ 140737488355328) (hp0 : -9223372036854775808 ≤ p) (hp1 : p ≤ 9223372036854775807) :
    Calls Try.prog 12 #[.agg #[.int .i64 base, .slice A n c, .int .i64 cap, .bool sh], .int .i64 p] w fun e w' => Told2 w w' e (ackR ⟨base, l, cap, sh⟩ p) := by
  unfold Told2
  obtain ⟨B, hB⟩ : ∃ B, w.heap.size = B := ⟨_, rfl⟩
  have e0 := (Boxed4.new w 24 (.int .i64 base) (.slice A n c) (.int .i64 cap) (.bool sh)).alloc (.cells #[.int .i64 0, .slice none 0 0, .int .i64 0, .bool false] 24)
  have r0 := Boxed4.new (w.alloc (.cells #[.int .i64 base, .slice A n c, .int .i64 cap, .bool sh] 24)) 24 (.int .i64 0) (.slice none 0 0) (.int .i64 0) (.bool false)
  have hb : Below w.heap.size w ((w.alloc (.cells #[.int .i64 base, .slice A n c, .int .i64 cap, .bool sh] 24)).alloc (.cells #[.int .i64 0, .slice none 0 0, .int .i64 0, .bool false] 24)) := ((Below.refl _ _).alloc (Nat.le_refl _) _).alloc (by simp) _
  rw [World.size_alloc] at r0
  rw [hB] at e0 r0 hb
  obtain ⟨w0, hw0⟩ : ∃ w0, (w.alloc (.cells #[.int .i64 base, .slice A n c, .int .i64 cap, .bool sh] 24)).alloc (.cells #[.int .i64 0, .slice none 0 0, .int .i64 0, .bool false] 24) = w0 := ⟨_, rfl⟩
  rw [hw0] at e0 r0 hb
  have g0 := e0.c0
  have g1 := e0.c1
  have g2 := e0.c2
  have g3 := e0.c3
  have hsk : ∀ {w' : World}, Below B w w' → Sl w' A n c l := fun h => hs.keep (by rw [hB]; exact h)
  have hm := may_any base A n c cap sh l w0 hs.rd.len hn
  cases hk : kmay ⟨base, l, cap, sh⟩ with
  | false =>
    have he : ackR ⟨base, l, cap, sh⟩ p = (zk, 1) := by unfold ackR; rw [hk]; rfl
    rw [he]
    rw [hk] at hm
    clear hk
    go_enter Try.func12, Try.ntmps12
    rw [hB]
    go_wp2_with (refine hm.mono ?_; rintro e w1 ⟨rfl, hb1⟩; have r1 := r0.kept hb1; have f0 := r1.free 0; have f1 := r1.free 1; have f2 := r1.free 2; have f3 := r1.free 3; have x0 := r1.c0; have x1 := r1.c1; have x2 := r1.c2; have x3 := r1.c3)
    have rz := r1.set (.int .i64 0) (.slice none 0 0) (.int .i64 0) (.bool false)
    have y0 := rz.c0
    have y1 := rz.c1
    have y2 := rz.c2
    have y3 := rz.c3
    have b1 := hb.trans (hb1.mono (Nat.le_of_lt e0.lt))
    have b2 := ((((b1.setCell (p := ⟨B + 1, 0, none⟩) (by simp) (.int .i64 0)).setCell (p := ⟨B + 1, 1, none⟩) (by simp) (.slice none 0 0)).setCell (p := ⟨B + 1, 2, none⟩) (by simp) (.int .i64 0)).setCell (p := ⟨B + 1, 3, none⟩) (by simp) (.bool false))
    exact bodyPost_ret (v := .tuple #[.agg #[.int .i64 0, .slice none 0 0, .int .i64 0, .bool false], .int .i64 1]) (by simp [results, Try.results12, go_sem, y0, y1, y2, y3]) rfl ⟨none, 0, 0, rfl, Sb.none _ _, b2⟩
  | true =>
    rw [hk] at hm
    have hk' := kmay_iff.1 hk
    simp only [hs.rd.len] at hk'
    obtain ⟨k2, k3, k4, k0, k1⟩ := hk'
    have hn1 : n ≤ 1000000 := by omega
    have hend : kend ⟨base, l, cap, sh⟩ = base + n := by unfold kend; rw [hk, if_pos rfl, hs.rd.len]
    by_cases hpe : base + n < p
    · have he : ackR ⟨base, l, cap, sh⟩ p = (zk, 3) := by unfold ackR; rw [if_pos hk, if_pos (by simp only [hs.rd.len]; exact hpe)]
      rw [he]
      clear hk he k0 k1 k2 k3 k4
      go_enter Try.func12, Try.ntmps12
      rw [hB]
      go_wp2_with (first
        | (go_at_call 19; refine hm.mono ?_; rintro e w1 ⟨rfl, hb1⟩; have e1 := e0.kept hb1; have b1 := hb.trans (hb1.mono (Nat.le_of_lt e0.lt)); have x0 := e1.c0; have x1 := e1.c1; have x2 := e1.c2; have x3 := e1.c3)
        | (go_at_call 21; refine (end_any base A n c cap sh l _ hs.rd.len hn).mono ?_; rintro e w2 ⟨he, hb2⟩; rw [hend] at he; subst he; have r2 := (r0.kept hb1).kept hb2; have b2 := b1.trans (hb2.mono (Nat.le_of_lt e1.lt)); have f0 := r2.free 0; have f1 := r2.free 1; have f2 := r2.free 2; have f3 := r2.free 3; have z0 := r2.c0; have z1 := r2.c1; have z2 := r2.c2; have z3 := r2.c3))
      have rz := r2.set (.int .i64 0) (.slice none 0 0) (.int .i64 0) (.bool false)
      have y0 := rz.c0
      have y1 := rz.c1
      have y2 := rz.c2
      have y3 := rz.c3
      have b3 := ((((b2.setCell (p := ⟨B + 1, 0, none⟩) (by simp) (.int .i64 0)).setCell (p := ⟨B + 1, 1, none⟩) (by simp) (.slice none 0 0)).setCell (p := ⟨B + 1, 2, none⟩) (by simp) (.int .i64 0)).setCell (p := ⟨B + 1, 3, none⟩) (by simp) (.bool false))
      exact bodyPost_ret (v := .tuple #[.agg #[.int .i64 0, .slice none 0 0, .int .i64 0, .bool false], .int .i64 3]) (by simp [results, Try.results12, go_sem, y0, y1, y2, y3]) rfl ⟨none, 0, 0, rfl, Sb.none _ _, b3⟩
    · have he : ackR ⟨base, l, cap, sh⟩ p = (⟨max base p, l.drop (p - base).toNat, cap, sh⟩, 0) := by unfold ackR; rw [if_pos hk, if_neg (by simp only [hs.rd.len]; exact hpe)]
      rw [he, ← ack_cut hs.rd.len]
      obtain ⟨M, hM⟩ : ∃ M, max base p = M := ⟨_, rfl⟩
      rw [hM]
      have hix := idx_mono base n (p := p) (q := base + n) (by omega)
      obtain ⟨k, ek⟩ : ∃ k, idx base n p = k := ⟨_, rfl⟩
      obtain ⟨j, ej⟩ : ∃ j, idx base n (base + n) = j := ⟨_, rfl⟩
      rw [ek, ej] at hix ⊢
      obtain ⟨m, em⟩ : ∃ m, j = m + k := ⟨j - k, by omega⟩
      have hbt := fun w hs => between_any base A n c cap sh l p (base + n) k j m w k0 (by omega) hp1 (by omega) hn1 hs ek ej em
      have HM := Lib.hid hM
      have HP := Lib.hid hpe
      clear ek ej em hix hk he k2 k3 k4 hM
      go_enter Try.func12, Try.ntmps12
      rw [hB]
      go_wp2_with (first
        | (go_at_call 19; refine hm.mono ?_; rintro e w1 ⟨rfl, hb1⟩; have e1 := e0.kept hb1; have r1 := r0.kept hb1; have b1 := hb.trans (hb1.mono (Nat.le_of_lt e0.lt)); have x0 := e1.c0; have x1 := e1.c1; have x2 := e1.c2; have x3 := e1.c3)
        | (go_at_call 21; refine (end_any base A n c cap sh l _ hs.rd.len hn).mono ?_; rintro e w2 ⟨he, hb2⟩; rw [hend] at he; subst he; have e2 := e1.kept hb2; have r2 := r1.kept hb2; have b2 := b1.trans (hb2.mono (Nat.le_of_lt e1.lt)); have z0 := e2.c0; have z1 := e2.c1; have z2 := e2.c2; have z3 := e2.c3))
      clear hpe g0 g1 g2 g3 x0 x1 x2 x3
      have e5 : Boxed4 w2.drew B 24 (.int .i64 base) (.slice A n c) (.int .i64 cap) (.bool sh) := e2
      have r5 : Boxed4 w2.drew (B + 1) 24 (.int .i64 0) (.slice none 0 0) (.int .i64 0) (.bool false) := r2
      have b5 := b2.drew
      refine wp_region_tail 8 10 (fun w' : World => w'.cell? ⟨B, 0, none⟩ = some (.int .i64 base) ∧ w'.cell? ⟨B, 1, none⟩ = some (.slice A n c) ∧ w'.cell? ⟨B, 2, none⟩ = some (.int .i64 cap) ∧ w'.cell? ⟨B, 3, none⟩ = some (.bool sh)) (by kernel_rfl) (by rfl) (by decide) ?_
      have HS : ((fun w' : World => w'.cell? ⟨B, 0, none⟩ = some (.int .i64 base) ∧ w'.cell? ⟨B, 1, none⟩ = some (.slice A n c) ∧ w'.cell? ⟨B, 2, none⟩ = some (.int .i64 cap) ∧ w'.cell? ⟨B, 3, none⟩ = some (.bool sh))) _ := ⟨z0, z1, z2, z3⟩
      refine wpAnyT_take (i := 0) (v := .pointer (some ⟨B, 1, none⟩)) rfl (by kernel_rfl) (fun _ _ _ h => h) (Or.inl ⟨by rfl, fun w hSw => ?_⟩) HS ?_
      · (try dsimp only at hSw); go_simp
      try simp only [Act.put, List.setIfInBounds_toArray, List.set_cons_zero, List.set_cons_succ]
      refine wpAnyT_take (i := 1) (v := .slice A n c) rfl (by kernel_rfl) (fun _ _ _ h => h) (Or.inl ⟨by rfl, fun w hSw => ?_⟩) HS ?_
      · (try dsimp only at hSw); go_simp
      try simp only [Act.put, List.setIfInBounds_toArray, List.set_cons_zero, List.set_cons_succ]
      refine wpAnyT_take (i := 2) (v := .agg #[.int .i64 base, .slice A n c, .int .i64 cap, .bool sh]) rfl (by kernel_rfl) (fun _ _ _ h => h) (Or.inl ⟨by rfl, fun w hSw => ?_⟩) HS ?_
      · (try dsimp only at hSw); go_simp
      try simp only [Act.put, List.setIfInBounds_toArray, List.set_cons_zero, List.set_cons_succ]
      refine wpAnyT_take (i := 3) (v := .func (.func 25) #[.agg #[.int .i64 base, .slice A n c, .int .i64 cap, .bool sh]] #[]) rfl (by kernel_rfl) (fun _ _ _ h => h) (Or.inl ⟨by rfl, fun w hSw => ?_⟩) HS ?_
      · (try dsimp only at hSw); go_simp
      try simp only [Act.put, List.setIfInBounds_toArray, List.set_cons_zero, List.set_cons_succ]
      refine wpAnyT_take (i := 4) (v := .int .i64 p) rfl (by kernel_rfl) (fun _ _ _ h => h) (Or.inl ⟨by rfl, fun w hSw => ?_⟩) HS ?_
      · (try dsimp only at hSw); go_simp
      try simp only [Act.put, List.setIfInBounds_toArray, List.set_cons_zero, List.set_cons_succ]
      refine wpAnyT_take (i := 5) (v := .agg #[.int .i64 base, .slice A n c, .int .i64 cap, .bool sh]) rfl (by kernel_rfl) (fun _ _ _ h => h) (Or.inl ⟨by rfl, fun w hSw => ?_⟩) HS ?_
      · (try dsimp only at hSw); go_simp
      try simp only [Act.put, List.setIfInBounds_toArray, List.set_cons_zero, List.set_cons_succ]
      refine wpAnyT_one (k := 6) rfl (by kernel_rfl) (by decide) (fun K hK => ?_)
      go_simp
      refine (end_any base A n c cap sh l _ hs.rd.len hn).mono ?_
      rintro e w3 ⟨he, hb3⟩
      rw [hend] at he; subst he
      have e3 := e5.kept hb3
      have r3 := r5.kept hb3
      have b3 := b5.trans (hb3.mono (Nat.le_of_lt e5.lt))
      have HS : ((fun w' : World => w'.cell? ⟨B, 0, none⟩ = some (.int .i64 base) ∧ w'.cell? ⟨B, 1, none⟩ = some (.slice A n c) ∧ w'.cell? ⟨B, 2, none⟩ = some (.int .i64 cap) ∧ w'.cell? ⟨B, 3, none⟩ = some (.bool sh))) _ := ⟨e3.c0, e3.c1, e3.c2, e3.c3⟩
      refine hK _ _ HS ?_
      clear hK K
      try simp only [Act.put, List.setIfInBounds_toArray, List.set_cons_zero, List.set_cons_succ]
      refine wpAnyT_one (k := 7) rfl (by kernel_rfl) (by decide) (fun K hK => ?_)
      go_simp
      refine (hbt _ (hsk b3)).mono ?_
      rintro e w4 ⟨R, d, rfl, s4, hb4⟩
      have e4 := e3.kept hb4
      have r4 := r3.kept hb4
      have b4 := b3.trans (hb4.mono (Nat.le_of_lt e3.lt))
      have HS : ((fun w' : World => w'.cell? ⟨B, 0, none⟩ = some (.int .i64 base) ∧ w'.cell? ⟨B, 1, none⟩ = some (.slice A n c) ∧ w'.cell? ⟨B, 2, none⟩ = some (.int .i64 cap) ∧ w'.cell? ⟨B, 3, none⟩ = some (.bool sh))) _ := ⟨e4.c0, e4.c1, e4.c2, e4.c3⟩
      refine hK _ _ HS ?_
      clear hK K
      try simp only [Act.put, List.setIfInBounds_toArray, List.set_cons_zero, List.set_cons_succ]
      refine ⟨by kernel_rfl, ?_⟩
      simp only [List.drop_succ_cons, List.drop_zero]
      clear HS
      have q1 := e4.c1
      have q3 := e4.free 1
      have e6 := e4.set1 (.slice R m d)
      have u0 := e6.c0
      have uf := e6.free 0
      by_cases hbp : base < p
      · obtain rfl : p = M := by have := HM.out; omega
        have e7 := e6.set0 (.int .i64 p)
        have x0 := e7.c0
        have x1 := e7.c1
        have x2 := e7.c2
        have x3 := e7.c3
        have r7 := (r4.far (p := ⟨B, 1, none⟩) (by simp) (.slice R m d)).far (p := ⟨B, 0, none⟩) (by simp) (.int .i64 p)
        have v0 := r7.c0
        have v1 := r7.c1
        have v2 := r7.c2
        have v3 := r7.c3
        have vf0 := r7.free 0
        have vf1 := r7.free 1
        have vf2 := r7.free 2
        have vf3 := r7.free 3
        go_wp2
        have hr2 := r3.lt
        have rz := r7.set (.int .i64 p) (.slice R m d) (.int .i64 cap) (.bool sh)
        have y0 := rz.c0
        have y1 := rz.c1
        have y2 := rz.c2
        have y3 := rz.c3
        have b6 := ((((((b4.setCell (p := ⟨B, 1, none⟩) (by simp) (.slice R m d)).setCell (p := ⟨B, 0, none⟩) (by simp) (.int .i64 p)).setCell (p := ⟨B + 1, 0, none⟩) (by simp) (.int .i64 p)).setCell (p := ⟨B + 1, 1, none⟩) (by simp) (.slice R m d)).setCell (p := ⟨B + 1, 2, none⟩) (by simp) (.int .i64 cap)).setCell (p := ⟨B + 1, 3, none⟩) (by simp) (.bool sh))
        exact bodyPost_ret (v := .tuple #[.agg #[.int .i64 p, .slice R m d, .int .i64 cap, .bool sh], .int .i64 0]) (by simp [results, Try.results12, go_sem, y0, y1, y2, y3]) rfl ⟨R, m, d, rfl, ((((((s4.set (p := ⟨B, 1, none⟩) (by simp; omega) (.slice R m d)).set (p := ⟨B, 0, none⟩) (by simp; omega) (.int .i64 p)).set (p := ⟨B + 1, 0, none⟩) hr2 (.int .i64 p)).set (p := ⟨B + 1, 1, none⟩) hr2 (.slice R m d)).set (p := ⟨B + 1, 2, none⟩) hr2 (.int .i64 cap)).set (p := ⟨B + 1, 3, none⟩) hr2 (.bool sh)).mono (Nat.le_of_lt e3.lt), b6⟩
      · obtain rfl : base = M := by have := HM.out; omega
        have e7 := e6.set0 (.int .i64 base)
        have x0 := e7.c0
        have x1 := e7.c1
        have x2 := e7.c2
        have x3 := e7.c3
        have r7 := (r4.far (p := ⟨B, 1, none⟩) (by simp) (.slice R m d)).far (p := ⟨B, 0, none⟩) (by simp) (.int .i64 base)
        have v0 := r7.c0
        have v1 := r7.c1
        have v2 := r7.c2
        have v3 := r7.c3
        have vf0 := r7.free 0
        have vf1 := r7.free 1
        have vf2 := r7.free 2
        have vf3 := r7.free 3
        go_wp2
        have hr2 := r3.lt
        have rz := r7.set (.int .i64 base) (.slice R m d) (.int .i64 cap) (.bool sh)
        have y0 := rz.c0
        have y1 := rz.c1
        have y2 := rz.c2
        have y3 := rz.c3
        have b6 := ((((((b4.setCell (p := ⟨B, 1, none⟩) (by simp) (.slice R m d)).setCell (p := ⟨B, 0, none⟩) (by simp) (.int .i64 base)).setCell (p := ⟨B + 1, 0, none⟩) (by simp) (.int .i64 base)).setCell (p := ⟨B + 1, 1, none⟩) (by simp) (.slice R m d)).setCell (p := ⟨B + 1, 2, none⟩) (by simp) (.int .i64 cap)).setCell (p := ⟨B + 1, 3, none⟩) (by simp) (.bool sh))
        exact bodyPost_ret (v := .tuple #[.agg #[.int .i64 base, .slice R m d, .int .i64 cap, .bool sh], .int .i64 0]) (by simp [results, Try.results12, go_sem, y0, y1, y2, y3]) rfl ⟨R, m, d, rfl, ((((((s4.set (p := ⟨B, 1, none⟩) (by simp; omega) (.slice R m d)).set (p := ⟨B, 0, none⟩) (by simp; omega) (.int .i64 base)).set (p := ⟨B + 1, 0, none⟩) hr2 (.int .i64 base)).set (p := ⟨B + 1, 1, none⟩) hr2 (.slice R m d)).set (p := ⟨B + 1, 2, none⟩) hr2 (.int .i64 cap)).set (p := ⟨B + 1, 3, none⟩) hr2 (.bool sh)).mono (Nat.le_of_lt e3.lt), b6⟩
end Go.Proofs.Ytmnedaholdacnaa
