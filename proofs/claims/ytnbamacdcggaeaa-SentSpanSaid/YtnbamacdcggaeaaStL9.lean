/- Package sent as it landed: the closures of Heard as contracts of the calls. -/
import Derived.Test.YtnbamacdcggaeaaStL8
import Derived.Test.YtnbamacdcggaeaaStL6
namespace Go.Proofs.Ytnbamacdcggaeaa
open Go.RowKit
set_option linter.unusedVariables false
set_option linter.unusedSimpArgs false

theorem ent_heard1 : ∀ args w, (callFunc 32 args).run Try.prog w = .ok (.enter 32 args) w := enters_of Try.func32 (by kernel_rfl) rfl
theorem ent_heard2 : ∀ args w, (callFunc 34 args).run Try.prog w = .ok (.enter 34 args) w := enters_of Try.func34 (by kernel_rfl) rfl
theorem ent_heard3 : ∀ args w, (callFunc 36 args).run Try.prog w = .ok (.enter 36 args) w := enters_of Try.func36 (by kernel_rfl) rfl

set_option maxRecDepth 100000 in
set_option maxHeartbeats 8000000 in
theorem passed_any (x : Prt) (heo : EndOk x) (got : Int) (G : Nat) (w : World) (hq : Bx w G 3 [.int .i64 got]) :
    Calls Try.prog 32 #[.agg #[.int .i64 x.seq, .int .i64 x.len, .int .i64 x.dsn, .int .i64 x.at_, .int .i64 x.tries, .bool x.came, .bool x.lost, .int .i64 x.total, .int .i64 x.last], .pointer (some ⟨G, 0, none⟩)] w fun e w' => e = .returned (.bool (decide (endP x ≤ got))) ∧ Below w.heap.size w w' := by
  obtain ⟨B, hB⟩ : ∃ B, w.heap.size = B := ⟨_, rfl⟩
  have e0 : Bx (w.alloc (.cells #[.int .i64 x.seq, .int .i64 x.len, .int .i64 x.dsn, .int .i64 x.at_, .int .i64 x.tries, .bool x.came, .bool x.lost, .int .i64 x.total, .int .i64 x.last] 24)) B 24 [.int .i64 x.seq, .int .i64 x.len, .int .i64 x.dsn, .int .i64 x.at_, .int .i64 x.tries, .bool x.came, .bool x.lost, .int .i64 x.total, .int .i64 x.last] := hB ▸ Bx.new w 24 [.int .i64 x.seq, .int .i64 x.len, .int .i64 x.dsn, .int .i64 x.at_, .int .i64 x.tries, .bool x.came, .bool x.lost, .int .i64 x.total, .int .i64 x.last]
  rw [hB]
  have b0 : Below B w (w.alloc (.cells #[.int .i64 x.seq, .int .i64 x.len, .int .i64 x.dsn, .int .i64 x.at_, .int .i64 x.tries, .bool x.came, .bool x.lost, .int .i64 x.total, .int .i64 x.last] 24)) := by rw [← hB]; exact (Below.refl _ _).alloc (Nat.le_refl _) _
  have y0 := hq.alloc (.cells #[.int .i64 x.seq, .int .i64 x.len, .int .i64 x.dsn, .int .i64 x.at_, .int .i64 x.tries, .bool x.came, .bool x.lost, .int .i64 x.total, .int .i64 x.last] 24)
  clear hq
  go_enter Try.func32, Try.ntmps32
  go_upto_region 1 with fail
  change Code.wp _ _ _ _ (w.alloc (.cells #[.int .i64 x.seq, .int .i64 x.len, .int .i64 x.dsn, .int .i64 x.at_, .int .i64 x.tries, .bool x.came, .bool x.lost, .int .i64 x.total, .int .i64 x.last] 24))
  generalize w.alloc (.cells #[.int .i64 x.seq, .int .i64 x.len, .int .i64 x.dsn, .int .i64 x.at_, .int .i64 x.tries, .bool x.came, .bool x.lost, .int .i64 x.total, .int .i64 x.last] 24) = w1 at e0 b0 y0 ⊢
  refine wp_region_tail 4 5 (fun (W : World) => NineB W B x ∧ W.cell? ⟨G, 0, none⟩ = some (.int .i64 got) ∧ Below B w W) (by kernel_rfl) (by rfl) (by decide) ?_
  have HS : ((fun (W : World) => NineB W B x ∧ W.cell? ⟨G, 0, none⟩ = some (.int .i64 got) ∧ Below B w W)) _ := ⟨bx_nine e0.drew, y0.drew.cell 0 rfl, b0.drew⟩
  refine wpAnyT_take (i := 0) (v := ?vv1) rfl (by kernel_rfl) (fun _ _ _ h => h) (Or.inl ⟨by rfl, fun w hSw => ?yy1⟩) HS ?rr1
  case yy1 =>
    (try dsimp only [NineB] at hSw); go_simp
    try with_reducible rfl
  try simp only [Act.put, List.setIfInBounds_toArray, List.set_cons_zero, List.set_cons_succ]
  refine wpAnyT_take (i := 2) (v := ?vv2) rfl (by kernel_rfl) (fun _ _ _ h => h) (Or.inl ⟨by rfl, fun w hSw => ?yy2⟩) HS ?rr2
  case yy2 =>
    (try dsimp only [NineB] at hSw); go_simp
    try with_reducible rfl
  try simp only [Act.put, List.setIfInBounds_toArray, List.set_cons_zero, List.set_cons_succ]
  refine wpAnyT_one (k := 1) rfl (by kernel_rfl) (by decide) (fun K hK => ?_)
  go_simp
  refine (stend_any x _ heo).mono ?_
  rintro e wv ⟨rfl, hb1⟩
  have HS : ((fun (W : World) => NineB W B x ∧ W.cell? ⟨G, 0, none⟩ = some (.int .i64 got) ∧ Below B w W)) _ := ⟨bx_nine (e0.drew.kept hb1), (y0.drew.kept hb1).cell 0 rfl, b0.drew.trans (hb1.mono (Nat.le_of_lt e0.lt))⟩
  refine hK _ _ HS ?_
  clear hK K
  try simp only [Act.put, List.setIfInBounds_toArray, List.set_cons_zero, List.set_cons_succ]
  refine wpAnyT_take (i := 3) (v := ?vv3) rfl (by kernel_rfl) (fun _ _ _ h => h) (Or.inl ⟨by rfl, fun w hSw => ?yy3⟩) HS ?rr3
  case yy3 =>
    (try dsimp only [NineB] at hSw); go_simp
    try with_reducible rfl
  try simp only [Act.put, List.setIfInBounds_toArray, List.set_cons_zero, List.set_cons_succ]
  refine ⟨by kernel_rfl, ?_⟩
  simp only [List.drop_succ_cons, List.drop_zero]
  go_wp2_with fail
  go_ret
  exact ⟨rfl, HS.2.2⟩

set_option maxRecDepth 100000 in
set_option maxHeartbeats 8000000 in
theorem covered_any (x : Prt) (heo : EndOk x) (A' : Option Addr) (n' c' : Nat) (sk : List Sp) (KS : Nat) (w : World) (hk : Ss w A' n' c' sk) (hq : Bx w KS 25 [.slice A' n' c']) :
    Calls Try.prog 34 #[.agg #[.int .i64 x.seq, .int .i64 x.len, .int .i64 x.dsn, .int .i64 x.at_, .int .i64 x.tries, .bool x.came, .bool x.lost, .int .i64 x.total, .int .i64 x.last], .pointer (some ⟨KS, 0, none⟩)] w fun e w' => e = .returned (.bool (hasP sk x)) ∧ Below w.heap.size w w' := by
  obtain ⟨B, hB⟩ : ∃ B, w.heap.size = B := ⟨_, rfl⟩
  have e0 : Bx (w.alloc (.cells #[.int .i64 x.seq, .int .i64 x.len, .int .i64 x.dsn, .int .i64 x.at_, .int .i64 x.tries, .bool x.came, .bool x.lost, .int .i64 x.total, .int .i64 x.last] 24)) B 24 [.int .i64 x.seq, .int .i64 x.len, .int .i64 x.dsn, .int .i64 x.at_, .int .i64 x.tries, .bool x.came, .bool x.lost, .int .i64 x.total, .int .i64 x.last] := hB ▸ Bx.new w 24 [.int .i64 x.seq, .int .i64 x.len, .int .i64 x.dsn, .int .i64 x.at_, .int .i64 x.tries, .bool x.came, .bool x.lost, .int .i64 x.total, .int .i64 x.last]
  rw [hB]
  have b0 : Below B w (w.alloc (.cells #[.int .i64 x.seq, .int .i64 x.len, .int .i64 x.dsn, .int .i64 x.at_, .int .i64 x.tries, .bool x.came, .bool x.lost, .int .i64 x.total, .int .i64 x.last] 24)) := by rw [← hB]; exact (Below.refl _ _).alloc (Nat.le_refl _) _
  have y0 := hq.alloc (.cells #[.int .i64 x.seq, .int .i64 x.len, .int .i64 x.dsn, .int .i64 x.at_, .int .i64 x.tries, .bool x.came, .bool x.lost, .int .i64 x.total, .int .i64 x.last] 24)
  have k0 := hk.alloc (.cells #[.int .i64 x.seq, .int .i64 x.len, .int .i64 x.dsn, .int .i64 x.at_, .int .i64 x.tries, .bool x.came, .bool x.lost, .int .i64 x.total, .int .i64 x.last] 24)
  clear hq hk
  go_enter Try.func34, Try.ntmps34
  go_upto_region 1 with fail
  change Code.wp _ _ _ _ (w.alloc (.cells #[.int .i64 x.seq, .int .i64 x.len, .int .i64 x.dsn, .int .i64 x.at_, .int .i64 x.tries, .bool x.came, .bool x.lost, .int .i64 x.total, .int .i64 x.last] 24))
  generalize w.alloc (.cells #[.int .i64 x.seq, .int .i64 x.len, .int .i64 x.dsn, .int .i64 x.at_, .int .i64 x.tries, .bool x.came, .bool x.lost, .int .i64 x.total, .int .i64 x.last] 24) = w1 at e0 b0 y0 k0 ⊢
  refine wp_region_tail 7 8 (fun (W : World) => NineB W B x ∧ W.cell? ⟨KS, 0, none⟩ = some (.slice A' n' c') ∧ Ss W A' n' c' sk ∧ Below B w W) (by kernel_rfl) (by rfl) (by decide) ?_
  have HS : ((fun (W : World) => NineB W B x ∧ W.cell? ⟨KS, 0, none⟩ = some (.slice A' n' c') ∧ Ss W A' n' c' sk ∧ Below B w W)) _ := ⟨bx_nine e0.drew, y0.drew.cell 0 rfl, (k0.keep (Below.refl _ _).drew), b0.drew⟩
  refine wpAnyT_take (i := 0) (v := ?vv4) rfl (by kernel_rfl) (fun _ _ _ h => h) (Or.inl ⟨by rfl, fun w hSw => ?yy4⟩) HS ?rr4
  case yy4 =>
    (try dsimp only [NineB] at hSw); go_simp
    try with_reducible rfl
  try simp only [Act.put, List.setIfInBounds_toArray, List.set_cons_zero, List.set_cons_succ]
  refine wpAnyT_take (i := 1) (v := ?vv5) rfl (by kernel_rfl) (fun _ _ _ h => h) (Or.inl ⟨by rfl, fun w hSw => ?yy5⟩) HS ?rr5
  case yy5 =>
    (try dsimp only [NineB] at hSw); go_simp
    try with_reducible rfl
  try simp only [Act.put, List.setIfInBounds_toArray, List.set_cons_zero, List.set_cons_succ]
  refine wpAnyT_take (i := 2) (v := ?vv6) rfl (by kernel_rfl) (fun _ _ _ h => h) (Or.inl ⟨by rfl, fun w hSw => ?yy6⟩) HS ?rr6
  case yy6 =>
    (try dsimp only [NineB] at hSw); go_simp
    try with_reducible rfl
  try simp only [Act.put, List.setIfInBounds_toArray, List.set_cons_zero, List.set_cons_succ]
  refine wpAnyT_take (i := 3) (v := ?vv7) rfl (by kernel_rfl) (fun _ _ _ h => h) (Or.inl ⟨by rfl, fun w hSw => ?yy7⟩) HS ?rr7
  case yy7 =>
    (try dsimp only [NineB] at hSw); go_simp
    try with_reducible rfl
  try simp only [Act.put, List.setIfInBounds_toArray, List.set_cons_zero, List.set_cons_succ]
  refine wpAnyT_one (k := 4) rfl (by kernel_rfl) (by decide) (fun K hK => ?_)
  go_simp
  refine (stend_any x _ heo).mono ?_
  rintro e wv ⟨rfl, hb1⟩
  have e1 := e0.drew.kept hb1; have y1 := y0.drew.kept hb1; have k1 := (k0.keep (Below.refl _ _).drew).keep hb1; have b1 := b0.drew.trans (hb1.mono (Nat.le_of_lt e0.lt))
  have HS : ((fun (W : World) => NineB W B x ∧ W.cell? ⟨KS, 0, none⟩ = some (.slice A' n' c') ∧ Ss W A' n' c' sk ∧ Below B w W)) _ := ⟨bx_nine e1, y1.cell 0 rfl, k1, b1⟩
  refine hK _ _ HS ?_
  clear hK K
  try simp only [Act.put, List.setIfInBounds_toArray, List.set_cons_zero, List.set_cons_succ]
  refine wpAnyT_take (i := 5) (v := ?vv8) rfl (by kernel_rfl) (fun _ _ _ h => h) (Or.inl ⟨by rfl, fun w hSw => ?yy8⟩) HS ?rr8
  case yy8 =>
    (try dsimp only [NineB] at hSw); go_simp
    try with_reducible rfl
  try simp only [Act.put, List.setIfInBounds_toArray, List.set_cons_zero, List.set_cons_succ]
  refine wpAnyT_one (k := 6) rfl (by kernel_rfl) (by decide) (fun K hK => ?_)
  go_simp
  refine (has_any A' n' c' sk x.seq (endP x) _ HS.2.2.1).mono ?_
  rintro e wv2 ⟨rfl, hb2⟩
  have HS : ((fun (W : World) => NineB W B x ∧ W.cell? ⟨KS, 0, none⟩ = some (.slice A' n' c') ∧ Ss W A' n' c' sk ∧ Below B w W)) _ := ⟨bx_nine (e1.kept hb2), (y1.kept hb2).cell 0 rfl, (k1.keep hb2), (b1.trans (hb2.mono (Nat.le_of_lt e1.lt)))⟩
  refine hK _ _ HS ?_
  clear hK K
  try simp only [Act.put, List.setIfInBounds_toArray, List.set_cons_zero, List.set_cons_succ]
  refine ⟨by kernel_rfl, ?_⟩
  simp only [List.drop_succ_cons, List.drop_zero]
  go_wp2_with fail
  go_ret
  exact ⟨rfl, HS.2.2.2⟩

set_option maxRecDepth 100000 in
set_option maxHeartbeats 8000000 in
theorem arrived_any (x : Prt) (heo : EndOk x) (got : Int) (A' : Option Addr) (n' c' : Nat) (sk : List Sp) (G KS U V : Nat) (w : World) (hk : Ss w A' n' c' sk) (hG : Bx w G 3 [.int .i64 got]) (hK : Bx w KS 25 [.slice A' n' c'])
    (hU : Bx w U 47 [(.func (.func 32) #[] #[.pointer (some ⟨G, 0, none⟩)])]) (hV : Bx w V 47 [(.func (.func 34) #[] #[.pointer (some ⟨KS, 0, none⟩)])]) :
    Calls Try.prog 36 #[.agg #[.int .i64 x.seq, .int .i64 x.len, .int .i64 x.dsn, .int .i64 x.at_, .int .i64 x.tries, .bool x.came, .bool x.lost, .int .i64 x.total, .int .i64 x.last], .pointer (some ⟨U, 0, none⟩), .pointer (some ⟨V, 0, none⟩)] w fun e w' => e = .returned (.bool (toldC got sk x)) ∧ Below w.heap.size w w' := by
  obtain ⟨B, hB⟩ : ∃ B, w.heap.size = B := ⟨_, rfl⟩
  have e0 : Bx (w.alloc (.cells #[.int .i64 x.seq, .int .i64 x.len, .int .i64 x.dsn, .int .i64 x.at_, .int .i64 x.tries, .bool x.came, .bool x.lost, .int .i64 x.total, .int .i64 x.last] 24)) B 24 [.int .i64 x.seq, .int .i64 x.len, .int .i64 x.dsn, .int .i64 x.at_, .int .i64 x.tries, .bool x.came, .bool x.lost, .int .i64 x.total, .int .i64 x.last] := hB ▸ Bx.new w 24 [.int .i64 x.seq, .int .i64 x.len, .int .i64 x.dsn, .int .i64 x.at_, .int .i64 x.tries, .bool x.came, .bool x.lost, .int .i64 x.total, .int .i64 x.last]
  rw [hB]
  have b0 : Below B w (w.alloc (.cells #[.int .i64 x.seq, .int .i64 x.len, .int .i64 x.dsn, .int .i64 x.at_, .int .i64 x.tries, .bool x.came, .bool x.lost, .int .i64 x.total, .int .i64 x.last] 24)) := by rw [← hB]; exact (Below.refl _ _).alloc (Nat.le_refl _) _
  have g0 := hG.alloc (.cells #[.int .i64 x.seq, .int .i64 x.len, .int .i64 x.dsn, .int .i64 x.at_, .int .i64 x.tries, .bool x.came, .bool x.lost, .int .i64 x.total, .int .i64 x.last] 24); have k0 := hK.alloc (.cells #[.int .i64 x.seq, .int .i64 x.len, .int .i64 x.dsn, .int .i64 x.at_, .int .i64 x.tries, .bool x.came, .bool x.lost, .int .i64 x.total, .int .i64 x.last] 24); have s0 := hk.alloc (.cells #[.int .i64 x.seq, .int .i64 x.len, .int .i64 x.dsn, .int .i64 x.at_, .int .i64 x.tries, .bool x.came, .bool x.lost, .int .i64 x.total, .int .i64 x.last] 24)
  have u0 := hU.alloc (.cells #[.int .i64 x.seq, .int .i64 x.len, .int .i64 x.dsn, .int .i64 x.at_, .int .i64 x.tries, .bool x.came, .bool x.lost, .int .i64 x.total, .int .i64 x.last] 24); have v0 := hV.alloc (.cells #[.int .i64 x.seq, .int .i64 x.len, .int .i64 x.dsn, .int .i64 x.at_, .int .i64 x.tries, .bool x.came, .bool x.lost, .int .i64 x.total, .int .i64 x.last] 24)
  have ht : toldC got sk x = (!x.came && (decide (endP x ≤ got) || hasP sk x)) := by unfold toldC; rw [Bool.and_comm, Bool.or_comm]
  obtain ⟨q, hq⟩ : ∃ q, toldC got sk x = q := ⟨_, rfl⟩
  rw [hq] at ht ⊢
  have HT := Lib.hid ht
  clear hG hK hk hU hV hq ht
  have hen1 := ent_heard1; have hen2 := ent_heard2
  go_enter Try.func36, Try.ntmps36
  go_upto_region 1 with fail
  change Code.wp _ _ _ _ (w.alloc (.cells #[.int .i64 x.seq, .int .i64 x.len, .int .i64 x.dsn, .int .i64 x.at_, .int .i64 x.tries, .bool x.came, .bool x.lost, .int .i64 x.total, .int .i64 x.last] 24))
  generalize w.alloc (.cells #[.int .i64 x.seq, .int .i64 x.len, .int .i64 x.dsn, .int .i64 x.at_, .int .i64 x.tries, .bool x.came, .bool x.lost, .int .i64 x.total, .int .i64 x.last] 24) = w1 at e0 b0 g0 k0 s0 u0 v0 ⊢
  have d0 := e0.cell 0 rfl; have d1 := e0.cell 1 rfl; have d2 := e0.cell 2 rfl; have d3 := e0.cell 3 rfl; have d4 := e0.cell 4 rfl
  have d5 := e0.cell 5 rfl; have d6 := e0.cell 6 rfl; have d7 := e0.cell 7 rfl; have d8 := e0.cell 8 rfl
  have u00 := u0.cell 0 rfl
  cases h5 : x.came with
  | true =>
    have hF : q = false := by rw [HT.out, h5]; rfl
    subst hF
    rw [h5] at d5
    clear HT
    go_wp2_with fail
    go_ret
    exact ⟨rfl, b0⟩
  | false =>
  have hp1 := fun w h => passed_any x heo got G w h
  have hp2 := fun w h k => covered_any x heo A' n' c' sk KS w h k
  rw [h5] at hp1 hp2 d5
  have HT2 : Hid (q = (decide (endP x ≤ got) || hasP sk x)) := Lib.hid (by rw [HT.out, h5]; rfl)
  have e5 : Bx w1 B 24 [.int .i64 x.seq, .int .i64 x.len, .int .i64 x.dsn, .int .i64 x.at_, .int .i64 x.tries, .bool false, .bool x.lost, .int .i64 x.total, .int .i64 x.last] := by rw [← h5]; exact e0
  clear HT h5 e0
  have e0 := e5
  cases h1 : decide (endP x ≤ got) with
  | true =>
    have hF : q = true := by rw [HT2.out, h1]; rfl
    subst hF
    clear HT2
    rw [h1] at hp1
    go_wp2_with (go_at_call 32; refine (hp1 _ g0).mono ?_; rintro e wp ⟨rfl, hbwp⟩; have e1 := e0.kept hbwp; have g1 := g0.kept hbwp; have k1 := k0.kept hbwp; have s1 := s0.keep hbwp; have u1 := u0.kept hbwp; have v1 := v0.kept hbwp; have b1 := b0.trans (hbwp.mono (Nat.le_of_lt e0.lt)); have v10 := v1.cell 0 rfl; have c0 := e1.cell 0 rfl; have c1 := e1.cell 1 rfl; have c2 := e1.cell 2 rfl; have c3 := e1.cell 3 rfl; have c4 := e1.cell 4 rfl; have c5 := e1.cell 5 rfl; have c6 := e1.cell 6 rfl; have c7 := e1.cell 7 rfl; have c8 := e1.cell 8 rfl)
    go_ret
    exact ⟨rfl, b1⟩
  | false =>
    have hF : q = hasP sk x := by rw [HT2.out, h1]; rfl
    subst hF
    clear HT2
    rw [h1] at hp1
    go_wp2_with (first | (go_at_call 32; refine (hp1 _ g0).mono ?_; rintro e wp ⟨rfl, hbwp⟩; have e1 := e0.kept hbwp; have g1 := g0.kept hbwp; have k1 := k0.kept hbwp; have s1 := s0.keep hbwp; have u1 := u0.kept hbwp; have v1 := v0.kept hbwp; have b1 := b0.trans (hbwp.mono (Nat.le_of_lt e0.lt)); have v10 := v1.cell 0 rfl; have c0 := e1.cell 0 rfl; have c1 := e1.cell 1 rfl; have c2 := e1.cell 2 rfl; have c3 := e1.cell 3 rfl; have c4 := e1.cell 4 rfl; have c5 := e1.cell 5 rfl; have c6 := e1.cell 6 rfl; have c7 := e1.cell 7 rfl; have c8 := e1.cell 8 rfl) | (go_at_call 34; refine (hp2 _ s1 k1).mono ?_; rintro e wc ⟨rfl, hbwc⟩; have b2 := b1.trans (hbwc.mono (Nat.le_of_lt e1.lt))))
    go_ret
    exact ⟨rfl, b2⟩
end Go.Proofs.Ytnbamacdcggaeaa
