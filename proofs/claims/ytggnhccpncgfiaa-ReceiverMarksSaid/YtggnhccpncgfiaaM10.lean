/- The texts Wo3c. -/
import Derived.Below
import Derived.IntWalk
import Derived.Lib.Hide
import Derived.Outline
import Derived.Test.YtggnhccpncgfiaaProg
import Derived.WalkKit
import Derived.WalkSmall
import Derived.WalkSpells
import Derived.Test.YtggnhccpncgfiaaM03
import Derived.Test.YtggnhccpncgfiaaM07
set_option linter.all false
namespace Go.Proofs.Ytggnhccpncgfiaa
open Go.RowKit
set_option maxRecDepth 100000 in
set_option maxHeartbeats 4000000 in
theorem wvmay_8 (base : Int) (A : Option Addr) (n c : Nat) (G : Option Addr) (m d : Nat) (cap en : Int) (bl : List Int) (gl : List Sp) (w : World) (hb : Sl w A n c bl) (hg : Ss w G m d gl) (hn : n ≤ 140737488355328) (c1 : 0 ≤ cap) (c2 : cap ≤ 65536) (c3 : posB base = true) (c4 : mayB gl = true) (c5 : base ≤ headOf base gl) (c6 : lastOf base gl ≤ min (base + cap) 2305843009213693952) (c7 : (n : Int) = lastOf base gl - base) (c8 : okW ⟨base, bl, gl, cap, en⟩ = false) :
    Calls Try.prog 54 #[.agg #[.int .i64 base, .slice A n c, .slice G m d, .int .i64 cap, .int .i64 en]] w fun e w' => e = .returned (.bool (false)) ∧ Below w.heap.size w w' := by
  have hbl := hb.rd.len
  have hgl := hg.rd.len
  have e0 := Bx.new w 25 [.int .i64 base, .slice A n c, .slice G m d, .int .i64 cap, .int .i64 en]
  have hb0 : Below w.heap.size w (w.alloc (.cells #[.int .i64 base, .slice A n c, .slice G m d, .int .i64 cap, .int .i64 en] 25)) := (Below.refl _ _).alloc (Nat.le_refl _) _
  obtain ⟨B, hB⟩ : ∃ B, w.heap.size = B := ⟨_, rfl⟩
  rw [hB] at e0 hb0
  obtain ⟨w0, hw0⟩ : ∃ w0, w.alloc (.cells #[.int .i64 base, .slice A n c, .slice G m d, .int .i64 cap, .int .i64 en] 25) = w0 := ⟨_, rfl⟩
  have e1 : Bx w0 B 25 [.int .i64 base, .slice A n c, .slice G m d, .int .i64 cap, .int .i64 en] := by rw [← hw0]; exact e0
  have b1 : Below B w w0 := by rw [← hw0]; exact hb0
  clear e0 hb0
  have hbk : ∀ {w' : World}, Below B w w' → Sl w' A n c bl := fun h => hb.keep (by rw [hB]; exact h)
  have hgk : ∀ {w' : World}, Below B w w' → Ss w' G m d gl := fun h => hg.keep (by rw [hB]; exact h)
  have e2 := e1.drew
  have b2 := b1.drew
  have d1 : decide ((0 : Int) ≤ cap) = true := decide_eq_true c1
  have d2 : decide (cap ≤ (65536 : Int)) = true := decide_eq_true c2
  obtain ⟨p1, p2⟩ := posB_iff.1 c3
  have hhead := fun (w' : World) (h : Below B w w') => wbegin_any base A n c G m d cap en gl w' (hgk h)
  have hend := fun (w' : World) (h : Below B w w') => wend_any base A n c G m d cap en gl w' (hgk h)
  have hedge := fun (w' : World) => wedge_in base A n c G m d cap en w' p1 p2 c1 c2
  have hU0 : 0 ≤ lastOf base gl ∧ lastOf base gl ≤ 4611686018427387904 := by
    have hchn := (mayB_parts c4).2
    by_cases h0 : gl = []
    · rw [h0, lastOf_nil]; omega
    · rw [show lastOf base gl = lastOf (-1) gl from last_any h0]
      have h1 := last_in hchn (last_mem hchn h0)
      have h2 := ch_in hchn (last_mem hchn h0)
      omega
  obtain ⟨u0, u1⟩ := hU0
  have hch : chain (base - 1) gl = true := by
    refine (head_chain (mayB_parts c4).2).2 (fun h => ?_)
    rw [head_sp h.1] at c5
    omega
  have hclean := fun (w' : World) (h : Below B w w') => wclean_any base A n c G m d cap en bl gl w' (hbk h) (hgk h) p1 p2 hch (by omega) (by omega) (by have := (mayB_parts c4).1; omega)
  clear hch
  obtain ⟨H, hH⟩ : ∃ H, headOf base gl = H := ⟨_, rfl⟩
  rw [hH] at hhead c5
  obtain ⟨E, hE⟩ : ∃ E, min (base + cap) 2305843009213693952 = E := ⟨_, rfl⟩
  obtain ⟨U, hU⟩ : ∃ U, lastOf base gl = U := ⟨_, rfl⟩
  rw [hE] at hedge c6
  rw [hU] at hend c6
  have HE := Lib.hid hE; clear hE
  rw [hU] at u0 u1 c7
  have q1 : IntKind.i64.wrap (U - base) = U - base := IntWalk.i64_in _ (by omega)
  have HU := Lib.hid hU; clear hU
  have HH := Lib.hid hH; clear hH
  have d5 : decide (base ≤ H) = true := decide_eq_true c5
  have d6 : decide (U ≤ E) = true := decide_eq_true c6
  have d7 : ((n : Int) == U - base) = true := by simpa using c7
  have C1 := Lib.hid c1; clear c1
  have C2 := Lib.hid c2; clear c2
  have C5 := Lib.hid c5; clear c5
  have C6 := Lib.hid c6; clear c6
  have C7 := Lib.hid c7; clear c7
  go_enter Try.func54, Try.ntmps54
  rw [hB]
  go_wp2_with fail
  refine wp_region_tail 59 60 (fun w' : World => w'.cell? ⟨B, 0, none⟩ = some (.int .i64 base) ∧ w'.cell? ⟨B, 1, none⟩ = some (.slice A n c) ∧ w'.cell? ⟨B, 2, none⟩ = some (.slice G m d) ∧ w'.cell? ⟨B, 3, none⟩ = some (.int .i64 cap) ∧ w'.cell? ⟨B, 4, none⟩ = some (.int .i64 en)) (by kernel_rfl) (by rfl) (by decide) ?_
  have HS : ((fun w' : World => w'.cell? ⟨B, 0, none⟩ = some (.int .i64 base) ∧ w'.cell? ⟨B, 1, none⟩ = some (.slice A n c) ∧ w'.cell? ⟨B, 2, none⟩ = some (.slice G m d) ∧ w'.cell? ⟨B, 3, none⟩ = some (.int .i64 cap) ∧ w'.cell? ⟨B, 4, none⟩ = some (.int .i64 en))) _ := ⟨e2.cell 0 rfl, e2.cell 1 rfl, e2.cell 2 rfl, e2.cell 3 rfl, e2.cell 4 rfl⟩
  refine wpAnyT_take (i := 0) (v := ?vv196) rfl (by kernel_rfl) (fun _ _ _ h => h) (Or.inl ⟨by rfl, fun w hSw => ?yy196⟩) HS ?rr196
  case yy196 =>
    (try dsimp only at hSw); go_simp
    try with_reducible rfl
  try simp only [Act.put, List.setIfInBounds_toArray, List.set_cons_zero, List.set_cons_succ]
  refine wpAnyT_take (i := 1) (v := ?vv197) rfl (by kernel_rfl) (fun _ _ _ h => h) (Or.inl ⟨by rfl, fun w hSw => ?yy197⟩) HS ?rr197
  case yy197 =>
    (try dsimp only at hSw); go_simp
    try with_reducible rfl
  try simp only [Act.put, List.setIfInBounds_toArray, List.set_cons_zero, List.set_cons_succ]
  refine wpAnyT_take (i := 2) (v := ?vv198) rfl (by kernel_rfl) (fun _ _ _ h => h) (Or.inl ⟨by rfl, fun w hSw => ?yy198⟩) HS ?rr198
  case yy198 =>
    (try dsimp only at hSw); go_simp
    try with_reducible rfl
  try simp only [Act.put, List.setIfInBounds_toArray, List.set_cons_zero, List.set_cons_succ]
  refine wpAnyT_take (i := 3) (v := ?vv199) rfl (by kernel_rfl) (fun _ _ _ h => h) (Or.inl ⟨by rfl, fun w hSw => ?yy199⟩) HS ?rr199
  case yy199 =>
    (try dsimp only at hSw); go_simp
    try with_reducible rfl
  try simp only [Act.put, List.setIfInBounds_toArray, List.set_cons_zero, List.set_cons_succ]
  refine wpAnyT_take (i := 4) (v := ?vv200) rfl (by kernel_rfl) (fun _ _ _ h => h) (Or.inl ⟨by rfl, fun w hSw => ?yy200⟩) HS ?rr200
  case yy200 =>
    (try dsimp only at hSw); go_simp
    try with_reducible rfl
  try simp only [Act.put, List.setIfInBounds_toArray, List.set_cons_zero, List.set_cons_succ]
  refine wpAnyT_take (i := 5) (v := ?vv201) rfl (by kernel_rfl) (fun _ _ _ h => h) (Or.inl ⟨by rfl, fun w hSw => ?yy201⟩) HS ?rr201
  case yy201 =>
    (try dsimp only at hSw); go_simp
    try with_reducible rfl
  try simp only [Act.put, List.setIfInBounds_toArray, List.set_cons_zero, List.set_cons_succ]
  refine wpAnyT_take (i := 6) (v := ?vv202) rfl (by kernel_rfl) (fun _ _ _ h => h) (Or.inl ⟨by rfl, fun w hSw => ?yy202⟩) HS ?rr202
  case yy202 =>
    (try dsimp only at hSw); go_simp
    try with_reducible rfl
  try simp only [Act.put, List.setIfInBounds_toArray, List.set_cons_zero, List.set_cons_succ]
  refine wpAnyT_take (i := 7) (v := ?vv203) rfl (by kernel_rfl) (fun _ _ _ h => h) (Or.inl ⟨by rfl, fun w hSw => ?yy203⟩) HS ?rr203
  case yy203 =>
    (try dsimp only at hSw); go_simp
    try with_reducible rfl
  try simp only [Act.put, List.setIfInBounds_toArray, List.set_cons_zero, List.set_cons_succ]
  refine wpAnyT_take (i := 8) (v := ?vv204) rfl (by kernel_rfl) (fun _ _ _ h => h) (Or.inl ⟨by rfl, fun w hSw => ?yy204⟩) HS ?rr204
  case yy204 =>
    (try dsimp only at hSw); go_simp
    try with_reducible rfl
  try simp only [Act.put, List.setIfInBounds_toArray, List.set_cons_zero, List.set_cons_succ]
  refine wpAnyT_take (i := 9) (v := ?vv205) rfl (by kernel_rfl) (fun _ _ _ h => h) (Or.inl ⟨by rfl, fun w hSw => ?yy205⟩) HS ?rr205
  case yy205 =>
    (try dsimp only at hSw); go_simp
    try with_reducible rfl
  try simp only [Act.put, List.setIfInBounds_toArray, List.set_cons_zero, List.set_cons_succ]
  refine wpAnyT_take (i := 10) (v := ?vv206) rfl (by kernel_rfl) (fun _ _ _ h => h) (Or.inl ⟨by rfl, fun w hSw => ?yy206⟩) HS ?rr206
  case yy206 =>
    (try dsimp only at hSw); go_simp
    try with_reducible rfl
  try simp only [Act.put, List.setIfInBounds_toArray, List.set_cons_zero, List.set_cons_succ]
  refine wpAnyT_one (k := 11) rfl (by kernel_rfl) (by decide) (fun K hK => ?_)
  go_simp
  refine (wpos_any base _).mono ?_
  rintro e w3 ⟨he, rfl⟩
  rw [c3] at he
  subst he
  have HS : ((fun w' : World => w'.cell? ⟨B, 0, none⟩ = some (.int .i64 base) ∧ w'.cell? ⟨B, 1, none⟩ = some (.slice A n c) ∧ w'.cell? ⟨B, 2, none⟩ = some (.slice G m d) ∧ w'.cell? ⟨B, 3, none⟩ = some (.int .i64 cap) ∧ w'.cell? ⟨B, 4, none⟩ = some (.int .i64 en))) _ := ⟨e2.cell 0 rfl, e2.cell 1 rfl, e2.cell 2 rfl, e2.cell 3 rfl, e2.cell 4 rfl⟩
  refine hK _ _ HS ?_
  clear hK K
  try simp only [Act.put, List.setIfInBounds_toArray, List.set_cons_zero, List.set_cons_succ]
  refine wpAnyT_take (i := 12) (v := ?vv207) rfl (by kernel_rfl) (fun _ _ _ h => h) (Or.inl ⟨by rfl, fun w hSw => ?yy207⟩) HS ?rr207
  case yy207 =>
    (try dsimp only at hSw); go_simp
    try with_reducible rfl
  try simp only [Act.put, List.setIfInBounds_toArray, List.set_cons_zero, List.set_cons_succ]
  refine wpAnyT_take (i := 13) (v := ?vv208) rfl (by kernel_rfl) (fun _ _ _ h => h) (Or.inl ⟨by rfl, fun w hSw => ?yy208⟩) HS ?rr208
  case yy208 =>
    (try dsimp only at hSw); go_simp
    try with_reducible rfl
  try simp only [Act.put, List.setIfInBounds_toArray, List.set_cons_zero, List.set_cons_succ]
  refine wpAnyT_take (i := 14) (v := ?vv209) rfl (by kernel_rfl) (fun _ _ _ h => h) (Or.inl ⟨by rfl, fun w hSw => ?yy209⟩) HS ?rr209
  case yy209 =>
    (try dsimp only at hSw); go_simp
    try with_reducible rfl
  try simp only [Act.put, List.setIfInBounds_toArray, List.set_cons_zero, List.set_cons_succ]
  refine wpAnyT_take (i := 15) (v := ?vv210) rfl (by kernel_rfl) (fun _ _ _ h => h) (Or.inl ⟨by rfl, fun w hSw => ?yy210⟩) HS ?rr210
  case yy210 =>
    (try dsimp only at hSw); go_simp
    try with_reducible rfl
  try simp only [Act.put, List.setIfInBounds_toArray, List.set_cons_zero, List.set_cons_succ]
  refine wpAnyT_one (k := 16) rfl (by kernel_rfl) (by decide) (fun K hK => ?_)
  go_simp
  refine (may_any G m d gl _ (hgk b2)).mono ?_
  rintro e w4 ⟨he, hb4⟩
  rw [c4] at he
  subst he
  have e4 := e2.kept hb4
  have b4 := b2.trans (hb4.mono (Nat.le_of_lt e2.lt))
  have HS : ((fun w' : World => w'.cell? ⟨B, 0, none⟩ = some (.int .i64 base) ∧ w'.cell? ⟨B, 1, none⟩ = some (.slice A n c) ∧ w'.cell? ⟨B, 2, none⟩ = some (.slice G m d) ∧ w'.cell? ⟨B, 3, none⟩ = some (.int .i64 cap) ∧ w'.cell? ⟨B, 4, none⟩ = some (.int .i64 en))) _ := ⟨e4.cell 0 rfl, e4.cell 1 rfl, e4.cell 2 rfl, e4.cell 3 rfl, e4.cell 4 rfl⟩
  refine hK _ _ HS ?_
  clear hK K
  try simp only [Act.put, List.setIfInBounds_toArray, List.set_cons_zero, List.set_cons_succ]
  refine wpAnyT_take (i := 17) (v := ?vv211) rfl (by kernel_rfl) (fun _ _ _ h => h) (Or.inl ⟨by rfl, fun w hSw => ?yy211⟩) HS ?rr211
  case yy211 =>
    (try dsimp only at hSw); go_simp
    try with_reducible rfl
  try simp only [Act.put, List.setIfInBounds_toArray, List.set_cons_zero, List.set_cons_succ]
  refine wpAnyT_take (i := 18) (v := ?vv212) rfl (by kernel_rfl) (fun _ _ _ h => h) (Or.inl ⟨by rfl, fun w hSw => ?yy212⟩) HS ?rr212
  case yy212 =>
    (try dsimp only at hSw); go_simp
    try with_reducible rfl
  try simp only [Act.put, List.setIfInBounds_toArray, List.set_cons_zero, List.set_cons_succ]
  refine wpAnyT_take (i := 19) (v := ?vv213) rfl (by kernel_rfl) (fun _ _ _ h => h) (Or.inl ⟨by rfl, fun w hSw => ?yy213⟩) HS ?rr213
  case yy213 =>
    (try dsimp only at hSw); go_simp
    try with_reducible rfl
  try simp only [Act.put, List.setIfInBounds_toArray, List.set_cons_zero, List.set_cons_succ]
  refine wpAnyT_take (i := 20) (v := ?vv214) rfl (by kernel_rfl) (fun _ _ _ h => h) (Or.inl ⟨by rfl, fun w hSw => ?yy214⟩) HS ?rr214
  case yy214 =>
    (try dsimp only at hSw); go_simp
    try with_reducible rfl
  try simp only [Act.put, List.setIfInBounds_toArray, List.set_cons_zero, List.set_cons_succ]
  refine wpAnyT_take (i := 21) (v := ?vv215) rfl (by kernel_rfl) (fun _ _ _ h => h) (Or.inl ⟨by rfl, fun w hSw => ?yy215⟩) HS ?rr215
  case yy215 =>
    (try dsimp only at hSw); go_simp
    try with_reducible rfl
  try simp only [Act.put, List.setIfInBounds_toArray, List.set_cons_zero, List.set_cons_succ]
  refine wpAnyT_one (k := 22) rfl (by kernel_rfl) (by decide) (fun K hK => ?_)
  go_simp
  refine (hhead _ b4).mono ?_
  rintro e w5 ⟨rfl, hb5⟩
  have e5 := e4.kept hb5
  have b5 := b4.trans (hb5.mono (Nat.le_of_lt e4.lt))
  have HS : ((fun w' : World => w'.cell? ⟨B, 0, none⟩ = some (.int .i64 base) ∧ w'.cell? ⟨B, 1, none⟩ = some (.slice A n c) ∧ w'.cell? ⟨B, 2, none⟩ = some (.slice G m d) ∧ w'.cell? ⟨B, 3, none⟩ = some (.int .i64 cap) ∧ w'.cell? ⟨B, 4, none⟩ = some (.int .i64 en))) _ := ⟨e5.cell 0 rfl, e5.cell 1 rfl, e5.cell 2 rfl, e5.cell 3 rfl, e5.cell 4 rfl⟩
  refine hK _ _ HS ?_
  clear hK K
  try simp only [Act.put, List.setIfInBounds_toArray, List.set_cons_zero, List.set_cons_succ]
  refine wpAnyT_take (i := 23) (v := ?vv216) rfl (by kernel_rfl) (fun _ _ _ h => h) (Or.inl ⟨by rfl, fun w hSw => ?yy216⟩) HS ?rr216
  case yy216 =>
    (try dsimp only at hSw); go_simp
    try with_reducible rfl
  try simp only [Act.put, List.setIfInBounds_toArray, List.set_cons_zero, List.set_cons_succ]
  refine wpAnyT_take (i := 24) (v := ?vv217) rfl (by kernel_rfl) (fun _ _ _ h => h) (Or.inl ⟨by rfl, fun w hSw => ?yy217⟩) HS ?rr217
  case yy217 =>
    (try dsimp only at hSw); go_simp
    try with_reducible rfl
  try simp only [Act.put, List.setIfInBounds_toArray, List.set_cons_zero, List.set_cons_succ]
  refine wpAnyT_take (i := 25) (v := ?vv218) rfl (by kernel_rfl) (fun _ _ _ h => h) (Or.inl ⟨by rfl, fun w hSw => ?yy218⟩) HS ?rr218
  case yy218 =>
    (try dsimp only at hSw); go_simp
    try with_reducible rfl
  try simp only [Act.put, List.setIfInBounds_toArray, List.set_cons_zero, List.set_cons_succ]
  refine wpAnyT_take (i := 26) (v := ?vv219) rfl (by kernel_rfl) (fun _ _ _ h => h) (Or.inl ⟨by rfl, fun w hSw => ?yy219⟩) HS ?rr219
  case yy219 =>
    (try dsimp only at hSw); go_simp
    try with_reducible rfl
  try simp only [Act.put, List.setIfInBounds_toArray, List.set_cons_zero, List.set_cons_succ]
  refine wpAnyT_take (i := 28) (v := ?vv220) rfl (by kernel_rfl) (fun _ _ _ h => h) (Or.inl ⟨by rfl, fun w hSw => ?yy220⟩) HS ?rr220
  case yy220 =>
    (try dsimp only at hSw); go_simp
    try with_reducible rfl
  try simp only [Act.put, List.setIfInBounds_toArray, List.set_cons_zero, List.set_cons_succ]
  refine wpAnyT_one (k := 27) rfl (by kernel_rfl) (by decide) (fun K hK => ?_)
  go_simp
  refine (hend _ b5).mono ?_
  rintro e w6 ⟨rfl, hb6⟩
  have e6 := e5.kept hb6
  have b6 := b5.trans (hb6.mono (Nat.le_of_lt e5.lt))
  have HS : ((fun w' : World => w'.cell? ⟨B, 0, none⟩ = some (.int .i64 base) ∧ w'.cell? ⟨B, 1, none⟩ = some (.slice A n c) ∧ w'.cell? ⟨B, 2, none⟩ = some (.slice G m d) ∧ w'.cell? ⟨B, 3, none⟩ = some (.int .i64 cap) ∧ w'.cell? ⟨B, 4, none⟩ = some (.int .i64 en))) _ := ⟨e6.cell 0 rfl, e6.cell 1 rfl, e6.cell 2 rfl, e6.cell 3 rfl, e6.cell 4 rfl⟩
  refine hK _ _ HS ?_
  clear hK K
  try simp only [Act.put, List.setIfInBounds_toArray, List.set_cons_zero, List.set_cons_succ]
  refine wpAnyT_one (k := 29) rfl (by kernel_rfl) (by decide) (fun K hK => ?_)
  go_simp
  refine (hedge _).mono ?_
  rintro e w7 ⟨rfl, hb7⟩
  have e7 := e6.kept hb7
  have b7 := b6.trans (hb7.mono (Nat.le_of_lt e6.lt))
  have HS : ((fun w' : World => w'.cell? ⟨B, 0, none⟩ = some (.int .i64 base) ∧ w'.cell? ⟨B, 1, none⟩ = some (.slice A n c) ∧ w'.cell? ⟨B, 2, none⟩ = some (.slice G m d) ∧ w'.cell? ⟨B, 3, none⟩ = some (.int .i64 cap) ∧ w'.cell? ⟨B, 4, none⟩ = some (.int .i64 en))) _ := ⟨e7.cell 0 rfl, e7.cell 1 rfl, e7.cell 2 rfl, e7.cell 3 rfl, e7.cell 4 rfl⟩
  refine hK _ _ HS ?_
  clear hK K
  try simp only [Act.put, List.setIfInBounds_toArray, List.set_cons_zero, List.set_cons_succ]
  refine wpAnyT_take (i := 30) (v := ?vv221) rfl (by kernel_rfl) (fun _ _ _ h => h) (Or.inl ⟨by rfl, fun w hSw => ?yy221⟩) HS ?rr221
  case yy221 =>
    (try dsimp only at hSw); go_simp
    try with_reducible rfl
  try simp only [Act.put, List.setIfInBounds_toArray, List.set_cons_zero, List.set_cons_succ]
  refine wpAnyT_take (i := 31) (v := ?vv222) rfl (by kernel_rfl) (fun _ _ _ h => h) (Or.inl ⟨by rfl, fun w hSw => ?yy222⟩) HS ?rr222
  case yy222 =>
    (try dsimp only at hSw); go_simp
    try with_reducible rfl
  try simp only [Act.put, List.setIfInBounds_toArray, List.set_cons_zero, List.set_cons_succ]
  refine wpAnyT_take (i := 32) (v := ?vv223) rfl (by kernel_rfl) (fun _ _ _ h => h) (Or.inl ⟨by rfl, fun w hSw => ?yy223⟩) HS ?rr223
  case yy223 =>
    (try dsimp only at hSw); go_simp
    try with_reducible rfl
  try simp only [Act.put, List.setIfInBounds_toArray, List.set_cons_zero, List.set_cons_succ]
  refine wpAnyT_take (i := 33) (v := ?vv224) rfl (by kernel_rfl) (fun _ _ _ h => h) (Or.inl ⟨by rfl, fun w hSw => ?yy224⟩) HS ?rr224
  case yy224 =>
    (try dsimp only at hSw); go_simp
    try with_reducible rfl
  try simp only [Act.put, List.setIfInBounds_toArray, List.set_cons_zero, List.set_cons_succ]
  refine wpAnyT_take (i := 34) (v := ?vv225) rfl (by kernel_rfl) (fun _ _ _ h => h) (Or.inl ⟨by rfl, fun w hSw => ?yy225⟩) HS ?rr225
  case yy225 =>
    (try dsimp only at hSw); go_simp
    try with_reducible rfl
  try simp only [Act.put, List.setIfInBounds_toArray, List.set_cons_zero, List.set_cons_succ]
  refine wpAnyT_take (i := 35) (v := ?vv226) rfl (by kernel_rfl) (fun _ _ _ h => h) (Or.inl ⟨by rfl, fun w hSw => ?yy226⟩) HS ?rr226
  case yy226 =>
    (try dsimp only at hSw); go_simp
    try with_reducible rfl
  try simp only [Act.put, List.setIfInBounds_toArray, List.set_cons_zero, List.set_cons_succ]
  refine wpAnyT_take (i := 36) (v := ?vv227) rfl (by kernel_rfl) (fun _ _ _ h => h) (Or.inl ⟨by rfl, fun w hSw => ?yy227⟩) HS ?rr227
  case yy227 =>
    (try dsimp only at hSw); go_simp
    try with_reducible rfl
  try simp only [Act.put, List.setIfInBounds_toArray, List.set_cons_zero, List.set_cons_succ]
  refine wpAnyT_take (i := 38) (v := ?vv228) rfl (by kernel_rfl) (fun _ _ _ h => h) (Or.inl ⟨by rfl, fun w hSw => ?yy228⟩) HS ?rr228
  case yy228 =>
    (try dsimp only at hSw); go_simp
    try with_reducible rfl
  try simp only [Act.put, List.setIfInBounds_toArray, List.set_cons_zero, List.set_cons_succ]
  refine wpAnyT_take (i := 39) (v := ?vv229) rfl (by kernel_rfl) (fun _ _ _ h => h) (Or.inl ⟨by rfl, fun w hSw => ?yy229⟩) HS ?rr229
  case yy229 =>
    (try dsimp only at hSw); go_simp
    try with_reducible rfl
  try simp only [Act.put, List.setIfInBounds_toArray, List.set_cons_zero, List.set_cons_succ]
  refine wpAnyT_one (k := 37) rfl (by kernel_rfl) (by decide) (fun K hK => ?_)
  go_simp
  refine (hend _ b7).mono ?_
  rintro e w8 ⟨rfl, hb8⟩
  have e8 := e7.kept hb8
  have b8 := b7.trans (hb8.mono (Nat.le_of_lt e7.lt))
  have HS : ((fun w' : World => w'.cell? ⟨B, 0, none⟩ = some (.int .i64 base) ∧ w'.cell? ⟨B, 1, none⟩ = some (.slice A n c) ∧ w'.cell? ⟨B, 2, none⟩ = some (.slice G m d) ∧ w'.cell? ⟨B, 3, none⟩ = some (.int .i64 cap) ∧ w'.cell? ⟨B, 4, none⟩ = some (.int .i64 en))) _ := ⟨e8.cell 0 rfl, e8.cell 1 rfl, e8.cell 2 rfl, e8.cell 3 rfl, e8.cell 4 rfl⟩
  refine hK _ _ HS ?_
  clear hK K
  try simp only [Act.put, List.setIfInBounds_toArray, List.set_cons_zero, List.set_cons_succ]
  refine wpAnyT_take (i := 40) (v := ?vv230) rfl (by kernel_rfl) (fun _ _ _ h => h) (Or.inl ⟨by rfl, fun w hSw => ?yy230⟩) HS ?rr230
  case yy230 =>
    (try dsimp only at hSw); go_simp
    try with_reducible rfl
  try simp only [Act.put, List.setIfInBounds_toArray, List.set_cons_zero, List.set_cons_succ]
  refine wpAnyT_take (i := 41) (v := ?vv231) rfl (by kernel_rfl) (fun _ _ _ h => h) (Or.inl ⟨by rfl, fun w hSw => ?yy231⟩) HS ?rr231
  case yy231 =>
    (try dsimp only at hSw); go_simp
    try with_reducible rfl
  try simp only [Act.put, List.setIfInBounds_toArray, List.set_cons_zero, List.set_cons_succ]
  refine wpAnyT_take (i := 42) (v := ?vv232) rfl (by kernel_rfl) (fun _ _ _ h => h) (Or.inl ⟨by rfl, fun w hSw => ?yy232⟩) HS ?rr232
  case yy232 =>
    (try dsimp only at hSw); go_simp
    try with_reducible rfl
  try simp only [Act.put, List.setIfInBounds_toArray, List.set_cons_zero, List.set_cons_succ]
  refine wpAnyT_take (i := 43) (v := ?vv233) rfl (by kernel_rfl) (fun _ _ _ h => h) (Or.inl ⟨by rfl, fun w hSw => ?yy233⟩) HS ?rr233
  case yy233 =>
    (try dsimp only at hSw); go_simp
    try with_reducible rfl
  try simp only [Act.put, List.setIfInBounds_toArray, List.set_cons_zero, List.set_cons_succ]
  refine wpAnyT_take (i := 44) (v := ?vv234) rfl (by kernel_rfl) (fun _ _ _ h => h) (Or.inl ⟨by rfl, fun w hSw => ?yy234⟩) HS ?rr234
  case yy234 =>
    (try dsimp only at hSw); go_simp
    try with_reducible rfl
  try simp only [Act.put, List.setIfInBounds_toArray, List.set_cons_zero, List.set_cons_succ]
  refine wpAnyT_one (k := 45) rfl (by kernel_rfl) (by decide) (fun K hK => ?_)
  go_simp
  refine (hclean _ b8).mono ?_
  rintro e w9 ⟨he, hb9⟩
  rw [c8] at he
  subst he
  have e9 := e8.kept hb9
  have b9 := b8.trans (hb9.mono (Nat.le_of_lt e8.lt))
  have HS : ((fun w' : World => w'.cell? ⟨B, 0, none⟩ = some (.int .i64 base) ∧ w'.cell? ⟨B, 1, none⟩ = some (.slice A n c) ∧ w'.cell? ⟨B, 2, none⟩ = some (.slice G m d) ∧ w'.cell? ⟨B, 3, none⟩ = some (.int .i64 cap) ∧ w'.cell? ⟨B, 4, none⟩ = some (.int .i64 en))) _ := ⟨e9.cell 0 rfl, e9.cell 1 rfl, e9.cell 2 rfl, e9.cell 3 rfl, e9.cell 4 rfl⟩
  refine hK _ _ HS ?_
  clear hK K
  try simp only [Act.put, List.setIfInBounds_toArray, List.set_cons_zero, List.set_cons_succ]
  refine wpAnyT_take (i := 46) (v := ?vv235) rfl (by kernel_rfl) (fun _ _ _ h => h) (Or.inl ⟨by rfl, fun w hSw => ?yy235⟩) HS ?rr235
  case yy235 =>
    (try dsimp only at hSw); go_simp
    try with_reducible rfl
  try simp only [Act.put, List.setIfInBounds_toArray, List.set_cons_zero, List.set_cons_succ]
  refine wpAnyT_take (i := 47) (v := ?vv236) rfl (by kernel_rfl) (fun _ _ _ h => h) (Or.inl ⟨by rfl, fun w hSw => ?yy236⟩) HS ?rr236
  case yy236 =>
    (try dsimp only at hSw); go_simp
    try with_reducible rfl
  try simp only [Act.put, List.setIfInBounds_toArray, List.set_cons_zero, List.set_cons_succ]
  refine wpAnyT_take (i := 48) (v := undef) rfl (by kernel_rfl) (fun _ _ _ h => h) (Or.inr ⟨by kernel_rfl, rfl⟩) HS ?_
  try simp only [Act.put, List.setIfInBounds_toArray, List.set_cons_zero, List.set_cons_succ]
  refine wpAnyT_take (i := 49) (v := undef) rfl (by kernel_rfl) (fun _ _ _ h => h) (Or.inr ⟨by kernel_rfl, rfl⟩) HS ?_
  try simp only [Act.put, List.setIfInBounds_toArray, List.set_cons_zero, List.set_cons_succ]
  refine wpAnyT_take (i := 50) (v := undef) rfl (by kernel_rfl) (fun _ _ _ h => h) (Or.inr ⟨by kernel_rfl, rfl⟩) HS ?_
  try simp only [Act.put, List.setIfInBounds_toArray, List.set_cons_zero, List.set_cons_succ]
  refine wpAnyT_take (i := 51) (v := undef) rfl (by kernel_rfl) (fun _ _ _ h => h) (Or.inr ⟨by kernel_rfl, rfl⟩) HS ?_
  try simp only [Act.put, List.setIfInBounds_toArray, List.set_cons_zero, List.set_cons_succ]
  refine wpAnyT_take (i := 52) (v := undef) rfl (by kernel_rfl) (fun _ _ _ h => h) (Or.inr ⟨by kernel_rfl, rfl⟩) HS ?_
  try simp only [Act.put, List.setIfInBounds_toArray, List.set_cons_zero, List.set_cons_succ]
  refine wpAnyT_take (i := 53) (v := undef) rfl (by kernel_rfl) (fun _ _ _ h => h) (Or.inr ⟨by kernel_rfl, rfl⟩) HS ?_
  try simp only [Act.put, List.setIfInBounds_toArray, List.set_cons_zero, List.set_cons_succ]
  refine wpAnyT_take (i := 54) (v := undef) rfl (by kernel_rfl) (fun _ _ _ h => h) (Or.inr ⟨by kernel_rfl, rfl⟩) HS ?_
  try simp only [Act.put, List.setIfInBounds_toArray, List.set_cons_zero, List.set_cons_succ]
  refine wpAnyT_take (i := 55) (v := undef) rfl (by kernel_rfl) (fun _ _ _ h => h) (Or.inr ⟨by kernel_rfl, rfl⟩) HS ?_
  try simp only [Act.put, List.setIfInBounds_toArray, List.set_cons_zero, List.set_cons_succ]
  refine wpAnyT_take (i := 56) (v := undef) rfl (by kernel_rfl) (fun _ _ _ h => h) (Or.inr ⟨by kernel_rfl, rfl⟩) HS ?_
  try simp only [Act.put, List.setIfInBounds_toArray, List.set_cons_zero, List.set_cons_succ]
  refine wpAnyT_take (i := 57) (v := undef) rfl (by kernel_rfl) (fun _ _ _ h => h) (Or.inr ⟨by kernel_rfl, rfl⟩) HS ?_
  try simp only [Act.put, List.setIfInBounds_toArray, List.set_cons_zero, List.set_cons_succ]
  refine wpAnyT_take (i := 58) (v := ?vv237) rfl (by kernel_rfl) (fun _ _ _ h => h) (Or.inl ⟨by rfl, fun w hSw => ?yy237⟩) HS ?rr237
  case yy237 =>
    (try dsimp only at hSw); go_simp
    try with_reducible rfl
  try simp only [Act.put, List.setIfInBounds_toArray, List.set_cons_zero, List.set_cons_succ]
  refine ⟨by kernel_rfl, ?_⟩
  simp only [List.drop_succ_cons, List.drop_zero]
  clear HS
  go_wp2_with fail
  go_ret
  exact ⟨rfl, b9⟩
set_option maxRecDepth 100000 in
set_option maxHeartbeats 4000000 in
theorem wvmay_9 (base : Int) (A : Option Addr) (n c : Nat) (G : Option Addr) (m d : Nat) (cap en : Int) (bl : List Int) (gl : List Sp) (w : World) (hb : Sl w A n c bl) (hg : Ss w G m d gl) (hn : n ≤ 140737488355328) (c1 : 0 ≤ cap) (c2 : cap ≤ 65536) (c3 : posB base = true) (c4 : mayB gl = true) (c5 : base ≤ headOf base gl) (c6 : lastOf base gl ≤ min (base + cap) 2305843009213693952) (c7 : (n : Int) = lastOf base gl - base) (c8 : okW ⟨base, bl, gl, cap, en⟩ = true) (c9 : en = -1) :
    Calls Try.prog 54 #[.agg #[.int .i64 base, .slice A n c, .slice G m d, .int .i64 cap, .int .i64 en]] w fun e w' => e = .returned (.bool (true)) ∧ Below w.heap.size w w' := by
  have hbl := hb.rd.len
  have hgl := hg.rd.len
  have e0 := Bx.new w 25 [.int .i64 base, .slice A n c, .slice G m d, .int .i64 cap, .int .i64 en]
  have hb0 : Below w.heap.size w (w.alloc (.cells #[.int .i64 base, .slice A n c, .slice G m d, .int .i64 cap, .int .i64 en] 25)) := (Below.refl _ _).alloc (Nat.le_refl _) _
  obtain ⟨B, hB⟩ : ∃ B, w.heap.size = B := ⟨_, rfl⟩
  rw [hB] at e0 hb0
  obtain ⟨w0, hw0⟩ : ∃ w0, w.alloc (.cells #[.int .i64 base, .slice A n c, .slice G m d, .int .i64 cap, .int .i64 en] 25) = w0 := ⟨_, rfl⟩
  have e1 : Bx w0 B 25 [.int .i64 base, .slice A n c, .slice G m d, .int .i64 cap, .int .i64 en] := by rw [← hw0]; exact e0
  have b1 : Below B w w0 := by rw [← hw0]; exact hb0
  clear e0 hb0
  have hbk : ∀ {w' : World}, Below B w w' → Sl w' A n c bl := fun h => hb.keep (by rw [hB]; exact h)
  have hgk : ∀ {w' : World}, Below B w w' → Ss w' G m d gl := fun h => hg.keep (by rw [hB]; exact h)
  have e2 := e1.drew
  have b2 := b1.drew
  have d1 : decide ((0 : Int) ≤ cap) = true := decide_eq_true c1
  have d2 : decide (cap ≤ (65536 : Int)) = true := decide_eq_true c2
  obtain ⟨p1, p2⟩ := posB_iff.1 c3
  have hhead := fun (w' : World) (h : Below B w w') => wbegin_any base A n c G m d cap en gl w' (hgk h)
  have hend := fun (w' : World) (h : Below B w w') => wend_any base A n c G m d cap en gl w' (hgk h)
  have hedge := fun (w' : World) => wedge_in base A n c G m d cap en w' p1 p2 c1 c2
  have hU0 : 0 ≤ lastOf base gl ∧ lastOf base gl ≤ 4611686018427387904 := by
    have hchn := (mayB_parts c4).2
    by_cases h0 : gl = []
    · rw [h0, lastOf_nil]; omega
    · rw [show lastOf base gl = lastOf (-1) gl from last_any h0]
      have h1 := last_in hchn (last_mem hchn h0)
      have h2 := ch_in hchn (last_mem hchn h0)
      omega
  obtain ⟨u0, u1⟩ := hU0
  have hch : chain (base - 1) gl = true := by
    refine (head_chain (mayB_parts c4).2).2 (fun h => ?_)
    rw [head_sp h.1] at c5
    omega
  have hclean := fun (w' : World) (h : Below B w w') => wclean_any base A n c G m d cap en bl gl w' (hbk h) (hgk h) p1 p2 hch (by omega) (by omega) (by have := (mayB_parts c4).1; omega)
  clear hch
  obtain ⟨H, hH⟩ : ∃ H, headOf base gl = H := ⟨_, rfl⟩
  rw [hH] at hhead c5
  obtain ⟨E, hE⟩ : ∃ E, min (base + cap) 2305843009213693952 = E := ⟨_, rfl⟩
  obtain ⟨U, hU⟩ : ∃ U, lastOf base gl = U := ⟨_, rfl⟩
  rw [hE] at hedge c6
  rw [hU] at hend c6
  have HE := Lib.hid hE; clear hE
  rw [hU] at u0 u1 c7
  have q1 : IntKind.i64.wrap (U - base) = U - base := IntWalk.i64_in _ (by omega)
  have HU := Lib.hid hU; clear hU
  have HH := Lib.hid hH; clear hH
  have d5 : decide (base ≤ H) = true := decide_eq_true c5
  have d6 : decide (U ≤ E) = true := decide_eq_true c6
  have d7 : ((n : Int) == U - base) = true := by simpa using c7
  have d9 : (en == -1) = true := by simpa using c9
  have d9' : decide (en = -1) = true := decide_eq_true c9
  have C1 := Lib.hid c1; clear c1
  have C2 := Lib.hid c2; clear c2
  have C5 := Lib.hid c5; clear c5
  have C6 := Lib.hid c6; clear c6
  have C7 := Lib.hid c7; clear c7
  have C9 := Lib.hid c9; clear c9
  go_enter Try.func54, Try.ntmps54
  rw [hB]
  go_wp2_with fail
  refine wp_region_tail 59 60 (fun w' : World => w'.cell? ⟨B, 0, none⟩ = some (.int .i64 base) ∧ w'.cell? ⟨B, 1, none⟩ = some (.slice A n c) ∧ w'.cell? ⟨B, 2, none⟩ = some (.slice G m d) ∧ w'.cell? ⟨B, 3, none⟩ = some (.int .i64 cap) ∧ w'.cell? ⟨B, 4, none⟩ = some (.int .i64 en)) (by kernel_rfl) (by rfl) (by decide) ?_
  have HS : ((fun w' : World => w'.cell? ⟨B, 0, none⟩ = some (.int .i64 base) ∧ w'.cell? ⟨B, 1, none⟩ = some (.slice A n c) ∧ w'.cell? ⟨B, 2, none⟩ = some (.slice G m d) ∧ w'.cell? ⟨B, 3, none⟩ = some (.int .i64 cap) ∧ w'.cell? ⟨B, 4, none⟩ = some (.int .i64 en))) _ := ⟨e2.cell 0 rfl, e2.cell 1 rfl, e2.cell 2 rfl, e2.cell 3 rfl, e2.cell 4 rfl⟩
  refine wpAnyT_take (i := 0) (v := ?vv238) rfl (by kernel_rfl) (fun _ _ _ h => h) (Or.inl ⟨by rfl, fun w hSw => ?yy238⟩) HS ?rr238
  case yy238 =>
    (try dsimp only at hSw); go_simp
    try with_reducible rfl
  try simp only [Act.put, List.setIfInBounds_toArray, List.set_cons_zero, List.set_cons_succ]
  refine wpAnyT_take (i := 1) (v := ?vv239) rfl (by kernel_rfl) (fun _ _ _ h => h) (Or.inl ⟨by rfl, fun w hSw => ?yy239⟩) HS ?rr239
  case yy239 =>
    (try dsimp only at hSw); go_simp
    try with_reducible rfl
  try simp only [Act.put, List.setIfInBounds_toArray, List.set_cons_zero, List.set_cons_succ]
  refine wpAnyT_take (i := 2) (v := ?vv240) rfl (by kernel_rfl) (fun _ _ _ h => h) (Or.inl ⟨by rfl, fun w hSw => ?yy240⟩) HS ?rr240
  case yy240 =>
    (try dsimp only at hSw); go_simp
    try with_reducible rfl
  try simp only [Act.put, List.setIfInBounds_toArray, List.set_cons_zero, List.set_cons_succ]
  refine wpAnyT_take (i := 3) (v := ?vv241) rfl (by kernel_rfl) (fun _ _ _ h => h) (Or.inl ⟨by rfl, fun w hSw => ?yy241⟩) HS ?rr241
  case yy241 =>
    (try dsimp only at hSw); go_simp
    try with_reducible rfl
  try simp only [Act.put, List.setIfInBounds_toArray, List.set_cons_zero, List.set_cons_succ]
  refine wpAnyT_take (i := 4) (v := ?vv242) rfl (by kernel_rfl) (fun _ _ _ h => h) (Or.inl ⟨by rfl, fun w hSw => ?yy242⟩) HS ?rr242
  case yy242 =>
    (try dsimp only at hSw); go_simp
    try with_reducible rfl
  try simp only [Act.put, List.setIfInBounds_toArray, List.set_cons_zero, List.set_cons_succ]
  refine wpAnyT_take (i := 5) (v := ?vv243) rfl (by kernel_rfl) (fun _ _ _ h => h) (Or.inl ⟨by rfl, fun w hSw => ?yy243⟩) HS ?rr243
  case yy243 =>
    (try dsimp only at hSw); go_simp
    try with_reducible rfl
  try simp only [Act.put, List.setIfInBounds_toArray, List.set_cons_zero, List.set_cons_succ]
  refine wpAnyT_take (i := 6) (v := ?vv244) rfl (by kernel_rfl) (fun _ _ _ h => h) (Or.inl ⟨by rfl, fun w hSw => ?yy244⟩) HS ?rr244
  case yy244 =>
    (try dsimp only at hSw); go_simp
    try with_reducible rfl
  try simp only [Act.put, List.setIfInBounds_toArray, List.set_cons_zero, List.set_cons_succ]
  refine wpAnyT_take (i := 7) (v := ?vv245) rfl (by kernel_rfl) (fun _ _ _ h => h) (Or.inl ⟨by rfl, fun w hSw => ?yy245⟩) HS ?rr245
  case yy245 =>
    (try dsimp only at hSw); go_simp
    try with_reducible rfl
  try simp only [Act.put, List.setIfInBounds_toArray, List.set_cons_zero, List.set_cons_succ]
  refine wpAnyT_take (i := 8) (v := ?vv246) rfl (by kernel_rfl) (fun _ _ _ h => h) (Or.inl ⟨by rfl, fun w hSw => ?yy246⟩) HS ?rr246
  case yy246 =>
    (try dsimp only at hSw); go_simp
    try with_reducible rfl
  try simp only [Act.put, List.setIfInBounds_toArray, List.set_cons_zero, List.set_cons_succ]
  refine wpAnyT_take (i := 9) (v := ?vv247) rfl (by kernel_rfl) (fun _ _ _ h => h) (Or.inl ⟨by rfl, fun w hSw => ?yy247⟩) HS ?rr247
  case yy247 =>
    (try dsimp only at hSw); go_simp
    try with_reducible rfl
  try simp only [Act.put, List.setIfInBounds_toArray, List.set_cons_zero, List.set_cons_succ]
  refine wpAnyT_take (i := 10) (v := ?vv248) rfl (by kernel_rfl) (fun _ _ _ h => h) (Or.inl ⟨by rfl, fun w hSw => ?yy248⟩) HS ?rr248
  case yy248 =>
    (try dsimp only at hSw); go_simp
    try with_reducible rfl
  try simp only [Act.put, List.setIfInBounds_toArray, List.set_cons_zero, List.set_cons_succ]
  refine wpAnyT_one (k := 11) rfl (by kernel_rfl) (by decide) (fun K hK => ?_)
  go_simp
  refine (wpos_any base _).mono ?_
  rintro e w3 ⟨he, rfl⟩
  rw [c3] at he
  subst he
  have HS : ((fun w' : World => w'.cell? ⟨B, 0, none⟩ = some (.int .i64 base) ∧ w'.cell? ⟨B, 1, none⟩ = some (.slice A n c) ∧ w'.cell? ⟨B, 2, none⟩ = some (.slice G m d) ∧ w'.cell? ⟨B, 3, none⟩ = some (.int .i64 cap) ∧ w'.cell? ⟨B, 4, none⟩ = some (.int .i64 en))) _ := ⟨e2.cell 0 rfl, e2.cell 1 rfl, e2.cell 2 rfl, e2.cell 3 rfl, e2.cell 4 rfl⟩
  refine hK _ _ HS ?_
  clear hK K
  try simp only [Act.put, List.setIfInBounds_toArray, List.set_cons_zero, List.set_cons_succ]
  refine wpAnyT_take (i := 12) (v := ?vv249) rfl (by kernel_rfl) (fun _ _ _ h => h) (Or.inl ⟨by rfl, fun w hSw => ?yy249⟩) HS ?rr249
  case yy249 =>
    (try dsimp only at hSw); go_simp
    try with_reducible rfl
  try simp only [Act.put, List.setIfInBounds_toArray, List.set_cons_zero, List.set_cons_succ]
  refine wpAnyT_take (i := 13) (v := ?vv250) rfl (by kernel_rfl) (fun _ _ _ h => h) (Or.inl ⟨by rfl, fun w hSw => ?yy250⟩) HS ?rr250
  case yy250 =>
    (try dsimp only at hSw); go_simp
    try with_reducible rfl
  try simp only [Act.put, List.setIfInBounds_toArray, List.set_cons_zero, List.set_cons_succ]
  refine wpAnyT_take (i := 14) (v := ?vv251) rfl (by kernel_rfl) (fun _ _ _ h => h) (Or.inl ⟨by rfl, fun w hSw => ?yy251⟩) HS ?rr251
  case yy251 =>
    (try dsimp only at hSw); go_simp
    try with_reducible rfl
  try simp only [Act.put, List.setIfInBounds_toArray, List.set_cons_zero, List.set_cons_succ]
  refine wpAnyT_take (i := 15) (v := ?vv252) rfl (by kernel_rfl) (fun _ _ _ h => h) (Or.inl ⟨by rfl, fun w hSw => ?yy252⟩) HS ?rr252
  case yy252 =>
    (try dsimp only at hSw); go_simp
    try with_reducible rfl
  try simp only [Act.put, List.setIfInBounds_toArray, List.set_cons_zero, List.set_cons_succ]
  refine wpAnyT_one (k := 16) rfl (by kernel_rfl) (by decide) (fun K hK => ?_)
  go_simp
  refine (may_any G m d gl _ (hgk b2)).mono ?_
  rintro e w4 ⟨he, hb4⟩
  rw [c4] at he
  subst he
  have e4 := e2.kept hb4
  have b4 := b2.trans (hb4.mono (Nat.le_of_lt e2.lt))
  have HS : ((fun w' : World => w'.cell? ⟨B, 0, none⟩ = some (.int .i64 base) ∧ w'.cell? ⟨B, 1, none⟩ = some (.slice A n c) ∧ w'.cell? ⟨B, 2, none⟩ = some (.slice G m d) ∧ w'.cell? ⟨B, 3, none⟩ = some (.int .i64 cap) ∧ w'.cell? ⟨B, 4, none⟩ = some (.int .i64 en))) _ := ⟨e4.cell 0 rfl, e4.cell 1 rfl, e4.cell 2 rfl, e4.cell 3 rfl, e4.cell 4 rfl⟩
  refine hK _ _ HS ?_
  clear hK K
  try simp only [Act.put, List.setIfInBounds_toArray, List.set_cons_zero, List.set_cons_succ]
  refine wpAnyT_take (i := 17) (v := ?vv253) rfl (by kernel_rfl) (fun _ _ _ h => h) (Or.inl ⟨by rfl, fun w hSw => ?yy253⟩) HS ?rr253
  case yy253 =>
    (try dsimp only at hSw); go_simp
    try with_reducible rfl
  try simp only [Act.put, List.setIfInBounds_toArray, List.set_cons_zero, List.set_cons_succ]
  refine wpAnyT_take (i := 18) (v := ?vv254) rfl (by kernel_rfl) (fun _ _ _ h => h) (Or.inl ⟨by rfl, fun w hSw => ?yy254⟩) HS ?rr254
  case yy254 =>
    (try dsimp only at hSw); go_simp
    try with_reducible rfl
  try simp only [Act.put, List.setIfInBounds_toArray, List.set_cons_zero, List.set_cons_succ]
  refine wpAnyT_take (i := 19) (v := ?vv255) rfl (by kernel_rfl) (fun _ _ _ h => h) (Or.inl ⟨by rfl, fun w hSw => ?yy255⟩) HS ?rr255
  case yy255 =>
    (try dsimp only at hSw); go_simp
    try with_reducible rfl
  try simp only [Act.put, List.setIfInBounds_toArray, List.set_cons_zero, List.set_cons_succ]
  refine wpAnyT_take (i := 20) (v := ?vv256) rfl (by kernel_rfl) (fun _ _ _ h => h) (Or.inl ⟨by rfl, fun w hSw => ?yy256⟩) HS ?rr256
  case yy256 =>
    (try dsimp only at hSw); go_simp
    try with_reducible rfl
  try simp only [Act.put, List.setIfInBounds_toArray, List.set_cons_zero, List.set_cons_succ]
  refine wpAnyT_take (i := 21) (v := ?vv257) rfl (by kernel_rfl) (fun _ _ _ h => h) (Or.inl ⟨by rfl, fun w hSw => ?yy257⟩) HS ?rr257
  case yy257 =>
    (try dsimp only at hSw); go_simp
    try with_reducible rfl
  try simp only [Act.put, List.setIfInBounds_toArray, List.set_cons_zero, List.set_cons_succ]
  refine wpAnyT_one (k := 22) rfl (by kernel_rfl) (by decide) (fun K hK => ?_)
  go_simp
  refine (hhead _ b4).mono ?_
  rintro e w5 ⟨rfl, hb5⟩
  have e5 := e4.kept hb5
  have b5 := b4.trans (hb5.mono (Nat.le_of_lt e4.lt))
  have HS : ((fun w' : World => w'.cell? ⟨B, 0, none⟩ = some (.int .i64 base) ∧ w'.cell? ⟨B, 1, none⟩ = some (.slice A n c) ∧ w'.cell? ⟨B, 2, none⟩ = some (.slice G m d) ∧ w'.cell? ⟨B, 3, none⟩ = some (.int .i64 cap) ∧ w'.cell? ⟨B, 4, none⟩ = some (.int .i64 en))) _ := ⟨e5.cell 0 rfl, e5.cell 1 rfl, e5.cell 2 rfl, e5.cell 3 rfl, e5.cell 4 rfl⟩
  refine hK _ _ HS ?_
  clear hK K
  try simp only [Act.put, List.setIfInBounds_toArray, List.set_cons_zero, List.set_cons_succ]
  refine wpAnyT_take (i := 23) (v := ?vv258) rfl (by kernel_rfl) (fun _ _ _ h => h) (Or.inl ⟨by rfl, fun w hSw => ?yy258⟩) HS ?rr258
  case yy258 =>
    (try dsimp only at hSw); go_simp
    try with_reducible rfl
  try simp only [Act.put, List.setIfInBounds_toArray, List.set_cons_zero, List.set_cons_succ]
  refine wpAnyT_take (i := 24) (v := ?vv259) rfl (by kernel_rfl) (fun _ _ _ h => h) (Or.inl ⟨by rfl, fun w hSw => ?yy259⟩) HS ?rr259
  case yy259 =>
    (try dsimp only at hSw); go_simp
    try with_reducible rfl
  try simp only [Act.put, List.setIfInBounds_toArray, List.set_cons_zero, List.set_cons_succ]
  refine wpAnyT_take (i := 25) (v := ?vv260) rfl (by kernel_rfl) (fun _ _ _ h => h) (Or.inl ⟨by rfl, fun w hSw => ?yy260⟩) HS ?rr260
  case yy260 =>
    (try dsimp only at hSw); go_simp
    try with_reducible rfl
  try simp only [Act.put, List.setIfInBounds_toArray, List.set_cons_zero, List.set_cons_succ]
  refine wpAnyT_take (i := 26) (v := ?vv261) rfl (by kernel_rfl) (fun _ _ _ h => h) (Or.inl ⟨by rfl, fun w hSw => ?yy261⟩) HS ?rr261
  case yy261 =>
    (try dsimp only at hSw); go_simp
    try with_reducible rfl
  try simp only [Act.put, List.setIfInBounds_toArray, List.set_cons_zero, List.set_cons_succ]
  refine wpAnyT_take (i := 28) (v := ?vv262) rfl (by kernel_rfl) (fun _ _ _ h => h) (Or.inl ⟨by rfl, fun w hSw => ?yy262⟩) HS ?rr262
  case yy262 =>
    (try dsimp only at hSw); go_simp
    try with_reducible rfl
  try simp only [Act.put, List.setIfInBounds_toArray, List.set_cons_zero, List.set_cons_succ]
  refine wpAnyT_one (k := 27) rfl (by kernel_rfl) (by decide) (fun K hK => ?_)
  go_simp
  refine (hend _ b5).mono ?_
  rintro e w6 ⟨rfl, hb6⟩
  have e6 := e5.kept hb6
  have b6 := b5.trans (hb6.mono (Nat.le_of_lt e5.lt))
  have HS : ((fun w' : World => w'.cell? ⟨B, 0, none⟩ = some (.int .i64 base) ∧ w'.cell? ⟨B, 1, none⟩ = some (.slice A n c) ∧ w'.cell? ⟨B, 2, none⟩ = some (.slice G m d) ∧ w'.cell? ⟨B, 3, none⟩ = some (.int .i64 cap) ∧ w'.cell? ⟨B, 4, none⟩ = some (.int .i64 en))) _ := ⟨e6.cell 0 rfl, e6.cell 1 rfl, e6.cell 2 rfl, e6.cell 3 rfl, e6.cell 4 rfl⟩
  refine hK _ _ HS ?_
  clear hK K
  try simp only [Act.put, List.setIfInBounds_toArray, List.set_cons_zero, List.set_cons_succ]
  refine wpAnyT_one (k := 29) rfl (by kernel_rfl) (by decide) (fun K hK => ?_)
  go_simp
  refine (hedge _).mono ?_
  rintro e w7 ⟨rfl, hb7⟩
  have e7 := e6.kept hb7
  have b7 := b6.trans (hb7.mono (Nat.le_of_lt e6.lt))
  have HS : ((fun w' : World => w'.cell? ⟨B, 0, none⟩ = some (.int .i64 base) ∧ w'.cell? ⟨B, 1, none⟩ = some (.slice A n c) ∧ w'.cell? ⟨B, 2, none⟩ = some (.slice G m d) ∧ w'.cell? ⟨B, 3, none⟩ = some (.int .i64 cap) ∧ w'.cell? ⟨B, 4, none⟩ = some (.int .i64 en))) _ := ⟨e7.cell 0 rfl, e7.cell 1 rfl, e7.cell 2 rfl, e7.cell 3 rfl, e7.cell 4 rfl⟩
  refine hK _ _ HS ?_
  clear hK K
  try simp only [Act.put, List.setIfInBounds_toArray, List.set_cons_zero, List.set_cons_succ]
  refine wpAnyT_take (i := 30) (v := ?vv263) rfl (by kernel_rfl) (fun _ _ _ h => h) (Or.inl ⟨by rfl, fun w hSw => ?yy263⟩) HS ?rr263
  case yy263 =>
    (try dsimp only at hSw); go_simp
    try with_reducible rfl
  try simp only [Act.put, List.setIfInBounds_toArray, List.set_cons_zero, List.set_cons_succ]
  refine wpAnyT_take (i := 31) (v := ?vv264) rfl (by kernel_rfl) (fun _ _ _ h => h) (Or.inl ⟨by rfl, fun w hSw => ?yy264⟩) HS ?rr264
  case yy264 =>
    (try dsimp only at hSw); go_simp
    try with_reducible rfl
  try simp only [Act.put, List.setIfInBounds_toArray, List.set_cons_zero, List.set_cons_succ]
  refine wpAnyT_take (i := 32) (v := ?vv265) rfl (by kernel_rfl) (fun _ _ _ h => h) (Or.inl ⟨by rfl, fun w hSw => ?yy265⟩) HS ?rr265
  case yy265 =>
    (try dsimp only at hSw); go_simp
    try with_reducible rfl
  try simp only [Act.put, List.setIfInBounds_toArray, List.set_cons_zero, List.set_cons_succ]
  refine wpAnyT_take (i := 33) (v := ?vv266) rfl (by kernel_rfl) (fun _ _ _ h => h) (Or.inl ⟨by rfl, fun w hSw => ?yy266⟩) HS ?rr266
  case yy266 =>
    (try dsimp only at hSw); go_simp
    try with_reducible rfl
  try simp only [Act.put, List.setIfInBounds_toArray, List.set_cons_zero, List.set_cons_succ]
  refine wpAnyT_take (i := 34) (v := ?vv267) rfl (by kernel_rfl) (fun _ _ _ h => h) (Or.inl ⟨by rfl, fun w hSw => ?yy267⟩) HS ?rr267
  case yy267 =>
    (try dsimp only at hSw); go_simp
    try with_reducible rfl
  try simp only [Act.put, List.setIfInBounds_toArray, List.set_cons_zero, List.set_cons_succ]
  refine wpAnyT_take (i := 35) (v := ?vv268) rfl (by kernel_rfl) (fun _ _ _ h => h) (Or.inl ⟨by rfl, fun w hSw => ?yy268⟩) HS ?rr268
  case yy268 =>
    (try dsimp only at hSw); go_simp
    try with_reducible rfl
  try simp only [Act.put, List.setIfInBounds_toArray, List.set_cons_zero, List.set_cons_succ]
  refine wpAnyT_take (i := 36) (v := ?vv269) rfl (by kernel_rfl) (fun _ _ _ h => h) (Or.inl ⟨by rfl, fun w hSw => ?yy269⟩) HS ?rr269
  case yy269 =>
    (try dsimp only at hSw); go_simp
    try with_reducible rfl
  try simp only [Act.put, List.setIfInBounds_toArray, List.set_cons_zero, List.set_cons_succ]
  refine wpAnyT_take (i := 38) (v := ?vv270) rfl (by kernel_rfl) (fun _ _ _ h => h) (Or.inl ⟨by rfl, fun w hSw => ?yy270⟩) HS ?rr270
  case yy270 =>
    (try dsimp only at hSw); go_simp
    try with_reducible rfl
  try simp only [Act.put, List.setIfInBounds_toArray, List.set_cons_zero, List.set_cons_succ]
  refine wpAnyT_take (i := 39) (v := ?vv271) rfl (by kernel_rfl) (fun _ _ _ h => h) (Or.inl ⟨by rfl, fun w hSw => ?yy271⟩) HS ?rr271
  case yy271 =>
    (try dsimp only at hSw); go_simp
    try with_reducible rfl
  try simp only [Act.put, List.setIfInBounds_toArray, List.set_cons_zero, List.set_cons_succ]
  refine wpAnyT_one (k := 37) rfl (by kernel_rfl) (by decide) (fun K hK => ?_)
  go_simp
  refine (hend _ b7).mono ?_
  rintro e w8 ⟨rfl, hb8⟩
  have e8 := e7.kept hb8
  have b8 := b7.trans (hb8.mono (Nat.le_of_lt e7.lt))
  have HS : ((fun w' : World => w'.cell? ⟨B, 0, none⟩ = some (.int .i64 base) ∧ w'.cell? ⟨B, 1, none⟩ = some (.slice A n c) ∧ w'.cell? ⟨B, 2, none⟩ = some (.slice G m d) ∧ w'.cell? ⟨B, 3, none⟩ = some (.int .i64 cap) ∧ w'.cell? ⟨B, 4, none⟩ = some (.int .i64 en))) _ := ⟨e8.cell 0 rfl, e8.cell 1 rfl, e8.cell 2 rfl, e8.cell 3 rfl, e8.cell 4 rfl⟩
  refine hK _ _ HS ?_
  clear hK K
  try simp only [Act.put, List.setIfInBounds_toArray, List.set_cons_zero, List.set_cons_succ]
  refine wpAnyT_take (i := 40) (v := ?vv272) rfl (by kernel_rfl) (fun _ _ _ h => h) (Or.inl ⟨by rfl, fun w hSw => ?yy272⟩) HS ?rr272
  case yy272 =>
    (try dsimp only at hSw); go_simp
    try with_reducible rfl
  try simp only [Act.put, List.setIfInBounds_toArray, List.set_cons_zero, List.set_cons_succ]
  refine wpAnyT_take (i := 41) (v := ?vv273) rfl (by kernel_rfl) (fun _ _ _ h => h) (Or.inl ⟨by rfl, fun w hSw => ?yy273⟩) HS ?rr273
  case yy273 =>
    (try dsimp only at hSw); go_simp
    try with_reducible rfl
  try simp only [Act.put, List.setIfInBounds_toArray, List.set_cons_zero, List.set_cons_succ]
  refine wpAnyT_take (i := 42) (v := ?vv274) rfl (by kernel_rfl) (fun _ _ _ h => h) (Or.inl ⟨by rfl, fun w hSw => ?yy274⟩) HS ?rr274
  case yy274 =>
    (try dsimp only at hSw); go_simp
    try with_reducible rfl
  try simp only [Act.put, List.setIfInBounds_toArray, List.set_cons_zero, List.set_cons_succ]
  refine wpAnyT_take (i := 43) (v := ?vv275) rfl (by kernel_rfl) (fun _ _ _ h => h) (Or.inl ⟨by rfl, fun w hSw => ?yy275⟩) HS ?rr275
  case yy275 =>
    (try dsimp only at hSw); go_simp
    try with_reducible rfl
  try simp only [Act.put, List.setIfInBounds_toArray, List.set_cons_zero, List.set_cons_succ]
  refine wpAnyT_take (i := 44) (v := ?vv276) rfl (by kernel_rfl) (fun _ _ _ h => h) (Or.inl ⟨by rfl, fun w hSw => ?yy276⟩) HS ?rr276
  case yy276 =>
    (try dsimp only at hSw); go_simp
    try with_reducible rfl
  try simp only [Act.put, List.setIfInBounds_toArray, List.set_cons_zero, List.set_cons_succ]
  refine wpAnyT_one (k := 45) rfl (by kernel_rfl) (by decide) (fun K hK => ?_)
  go_simp
  refine (hclean _ b8).mono ?_
  rintro e w9 ⟨he, hb9⟩
  rw [c8] at he
  subst he
  have e9 := e8.kept hb9
  have b9 := b8.trans (hb9.mono (Nat.le_of_lt e8.lt))
  have HS : ((fun w' : World => w'.cell? ⟨B, 0, none⟩ = some (.int .i64 base) ∧ w'.cell? ⟨B, 1, none⟩ = some (.slice A n c) ∧ w'.cell? ⟨B, 2, none⟩ = some (.slice G m d) ∧ w'.cell? ⟨B, 3, none⟩ = some (.int .i64 cap) ∧ w'.cell? ⟨B, 4, none⟩ = some (.int .i64 en))) _ := ⟨e9.cell 0 rfl, e9.cell 1 rfl, e9.cell 2 rfl, e9.cell 3 rfl, e9.cell 4 rfl⟩
  refine hK _ _ HS ?_
  clear hK K
  try simp only [Act.put, List.setIfInBounds_toArray, List.set_cons_zero, List.set_cons_succ]
  refine wpAnyT_take (i := 46) (v := ?vv277) rfl (by kernel_rfl) (fun _ _ _ h => h) (Or.inl ⟨by rfl, fun w hSw => ?yy277⟩) HS ?rr277
  case yy277 =>
    (try dsimp only at hSw); go_simp
    try with_reducible rfl
  try simp only [Act.put, List.setIfInBounds_toArray, List.set_cons_zero, List.set_cons_succ]
  refine wpAnyT_take (i := 47) (v := ?vv278) rfl (by kernel_rfl) (fun _ _ _ h => h) (Or.inl ⟨by rfl, fun w hSw => ?yy278⟩) HS ?rr278
  case yy278 =>
    (try dsimp only at hSw); go_simp
    try with_reducible rfl
  try simp only [Act.put, List.setIfInBounds_toArray, List.set_cons_zero, List.set_cons_succ]
  refine wpAnyT_take (i := 48) (v := ?vv279) rfl (by kernel_rfl) (fun _ _ _ h => h) (Or.inl ⟨by rfl, fun w hSw => ?yy279⟩) HS ?rr279
  case yy279 =>
    (try dsimp only at hSw); go_simp
    try with_reducible rfl
  try simp only [Act.put, List.setIfInBounds_toArray, List.set_cons_zero, List.set_cons_succ]
  refine wpAnyT_take (i := 49) (v := ?vv280) rfl (by kernel_rfl) (fun _ _ _ h => h) (Or.inl ⟨by rfl, fun w hSw => ?yy280⟩) HS ?rr280
  case yy280 =>
    (try dsimp only at hSw); go_simp
    try with_reducible rfl
  try simp only [Act.put, List.setIfInBounds_toArray, List.set_cons_zero, List.set_cons_succ]
  refine wpAnyT_take (i := 50) (v := ?vv281) rfl (by kernel_rfl) (fun _ _ _ h => h) (Or.inl ⟨by rfl, fun w hSw => ?yy281⟩) HS ?rr281
  case yy281 =>
    (try dsimp only at hSw); go_simp
    try with_reducible rfl
  try simp only [Act.put, List.setIfInBounds_toArray, List.set_cons_zero, List.set_cons_succ]
  refine wpAnyT_take (i := 51) (v := ?vv282) rfl (by kernel_rfl) (fun _ _ _ h => h) (Or.inl ⟨by rfl, fun w hSw => ?yy282⟩) HS ?rr282
  case yy282 =>
    (try dsimp only at hSw); go_simp
    try with_reducible rfl
  try simp only [Act.put, List.setIfInBounds_toArray, List.set_cons_zero, List.set_cons_succ]
  refine wpAnyT_take (i := 52) (v := undef) rfl (by kernel_rfl) (fun _ _ _ h => h) (Or.inr ⟨by kernel_rfl, rfl⟩) HS ?_
  try simp only [Act.put, List.setIfInBounds_toArray, List.set_cons_zero, List.set_cons_succ]
  refine wpAnyT_take (i := 53) (v := undef) rfl (by kernel_rfl) (fun _ _ _ h => h) (Or.inr ⟨by kernel_rfl, rfl⟩) HS ?_
  try simp only [Act.put, List.setIfInBounds_toArray, List.set_cons_zero, List.set_cons_succ]
  refine wpAnyT_take (i := 54) (v := undef) rfl (by kernel_rfl) (fun _ _ _ h => h) (Or.inr ⟨by kernel_rfl, rfl⟩) HS ?_
  try simp only [Act.put, List.setIfInBounds_toArray, List.set_cons_zero, List.set_cons_succ]
  refine wpAnyT_take (i := 55) (v := undef) rfl (by kernel_rfl) (fun _ _ _ h => h) (Or.inr ⟨by kernel_rfl, rfl⟩) HS ?_
  try simp only [Act.put, List.setIfInBounds_toArray, List.set_cons_zero, List.set_cons_succ]
  refine wpAnyT_take (i := 56) (v := undef) rfl (by kernel_rfl) (fun _ _ _ h => h) (Or.inr ⟨by kernel_rfl, rfl⟩) HS ?_
  try simp only [Act.put, List.setIfInBounds_toArray, List.set_cons_zero, List.set_cons_succ]
  refine wpAnyT_take (i := 57) (v := ?vv283) rfl (by kernel_rfl) (fun _ _ _ h => h) (Or.inl ⟨by rfl, fun w hSw => ?yy283⟩) HS ?rr283
  case yy283 =>
    (try dsimp only at hSw); go_simp
    try with_reducible rfl
  try simp only [Act.put, List.setIfInBounds_toArray, List.set_cons_zero, List.set_cons_succ]
  refine wpAnyT_take (i := 58) (v := ?vv284) rfl (by kernel_rfl) (fun _ _ _ h => h) (Or.inl ⟨by rfl, fun w hSw => ?yy284⟩) HS ?rr284
  case yy284 =>
    (try dsimp only at hSw); go_simp
    try with_reducible rfl
  try simp only [Act.put, List.setIfInBounds_toArray, List.set_cons_zero, List.set_cons_succ]
  refine ⟨by kernel_rfl, ?_⟩
  simp only [List.drop_succ_cons, List.drop_zero]
  clear HS
  go_wp2_with fail
  go_ret
  exact ⟨rfl, b9⟩
set_option maxRecDepth 100000 in
set_option maxHeartbeats 4000000 in
theorem wvmay_10 (base : Int) (A : Option Addr) (n c : Nat) (G : Option Addr) (m d : Nat) (cap en : Int) (bl : List Int) (gl : List Sp) (w : World) (hb : Sl w A n c bl) (hg : Ss w G m d gl) (hn : n ≤ 140737488355328) (c1 : 0 ≤ cap) (c2 : cap ≤ 65536) (c3 : posB base = true) (c4 : mayB gl = true) (c5 : base ≤ headOf base gl) (c6 : lastOf base gl ≤ min (base + cap) 2305843009213693952) (c7 : (n : Int) = lastOf base gl - base) (c8 : okW ⟨base, bl, gl, cap, en⟩ = true) (c9 : ¬ en = -1) :
    Calls Try.prog 54 #[.agg #[.int .i64 base, .slice A n c, .slice G m d, .int .i64 cap, .int .i64 en]] w fun e w' => e = .returned (.bool (decide (lastOf base gl ≤ en))) ∧ Below w.heap.size w w' := by
  have hbl := hb.rd.len
  have hgl := hg.rd.len
  have e0 := Bx.new w 25 [.int .i64 base, .slice A n c, .slice G m d, .int .i64 cap, .int .i64 en]
  have hb0 : Below w.heap.size w (w.alloc (.cells #[.int .i64 base, .slice A n c, .slice G m d, .int .i64 cap, .int .i64 en] 25)) := (Below.refl _ _).alloc (Nat.le_refl _) _
  obtain ⟨B, hB⟩ : ∃ B, w.heap.size = B := ⟨_, rfl⟩
  rw [hB] at e0 hb0
  obtain ⟨w0, hw0⟩ : ∃ w0, w.alloc (.cells #[.int .i64 base, .slice A n c, .slice G m d, .int .i64 cap, .int .i64 en] 25) = w0 := ⟨_, rfl⟩
  have e1 : Bx w0 B 25 [.int .i64 base, .slice A n c, .slice G m d, .int .i64 cap, .int .i64 en] := by rw [← hw0]; exact e0
  have b1 : Below B w w0 := by rw [← hw0]; exact hb0
  clear e0 hb0
  have hbk : ∀ {w' : World}, Below B w w' → Sl w' A n c bl := fun h => hb.keep (by rw [hB]; exact h)
  have hgk : ∀ {w' : World}, Below B w w' → Ss w' G m d gl := fun h => hg.keep (by rw [hB]; exact h)
  have e2 := e1.drew
  have b2 := b1.drew
  have d1 : decide ((0 : Int) ≤ cap) = true := decide_eq_true c1
  have d2 : decide (cap ≤ (65536 : Int)) = true := decide_eq_true c2
  obtain ⟨p1, p2⟩ := posB_iff.1 c3
  have hhead := fun (w' : World) (h : Below B w w') => wbegin_any base A n c G m d cap en gl w' (hgk h)
  have hend := fun (w' : World) (h : Below B w w') => wend_any base A n c G m d cap en gl w' (hgk h)
  have hedge := fun (w' : World) => wedge_in base A n c G m d cap en w' p1 p2 c1 c2
  have hU0 : 0 ≤ lastOf base gl ∧ lastOf base gl ≤ 4611686018427387904 := by
    have hchn := (mayB_parts c4).2
    by_cases h0 : gl = []
    · rw [h0, lastOf_nil]; omega
    · rw [show lastOf base gl = lastOf (-1) gl from last_any h0]
      have h1 := last_in hchn (last_mem hchn h0)
      have h2 := ch_in hchn (last_mem hchn h0)
      omega
  obtain ⟨u0, u1⟩ := hU0
  have hch : chain (base - 1) gl = true := by
    refine (head_chain (mayB_parts c4).2).2 (fun h => ?_)
    rw [head_sp h.1] at c5
    omega
  have hclean := fun (w' : World) (h : Below B w w') => wclean_any base A n c G m d cap en bl gl w' (hbk h) (hgk h) p1 p2 hch (by omega) (by omega) (by have := (mayB_parts c4).1; omega)
  clear hch
  obtain ⟨H, hH⟩ : ∃ H, headOf base gl = H := ⟨_, rfl⟩
  rw [hH] at hhead c5
  obtain ⟨E, hE⟩ : ∃ E, min (base + cap) 2305843009213693952 = E := ⟨_, rfl⟩
  obtain ⟨U, hU⟩ : ∃ U, lastOf base gl = U := ⟨_, rfl⟩
  rw [hE] at hedge c6
  rw [hU] at hend c6
  have HE := Lib.hid hE; clear hE
  rw [hU] at u0 u1 c7
  have q1 : IntKind.i64.wrap (U - base) = U - base := IntWalk.i64_in _ (by omega)
  rw [hU]
  have HU := Lib.hid hU; clear hU
  have HH := Lib.hid hH; clear hH
  have d5 : decide (base ≤ H) = true := decide_eq_true c5
  have d6 : decide (U ≤ E) = true := decide_eq_true c6
  have d7 : ((n : Int) == U - base) = true := by simpa using c7
  have d9 : (en == -1) = false := by simpa using c9
  have d9' : decide (en = -1) = false := decide_eq_false c9
  have C1 := Lib.hid c1; clear c1
  have C2 := Lib.hid c2; clear c2
  have C5 := Lib.hid c5; clear c5
  have C6 := Lib.hid c6; clear c6
  have C7 := Lib.hid c7; clear c7
  have C9 := Lib.hid c9; clear c9
  go_enter Try.func54, Try.ntmps54
  rw [hB]
  go_wp2_with fail
  refine wp_region_tail 59 60 (fun w' : World => w'.cell? ⟨B, 0, none⟩ = some (.int .i64 base) ∧ w'.cell? ⟨B, 1, none⟩ = some (.slice A n c) ∧ w'.cell? ⟨B, 2, none⟩ = some (.slice G m d) ∧ w'.cell? ⟨B, 3, none⟩ = some (.int .i64 cap) ∧ w'.cell? ⟨B, 4, none⟩ = some (.int .i64 en)) (by kernel_rfl) (by rfl) (by decide) ?_
  have HS : ((fun w' : World => w'.cell? ⟨B, 0, none⟩ = some (.int .i64 base) ∧ w'.cell? ⟨B, 1, none⟩ = some (.slice A n c) ∧ w'.cell? ⟨B, 2, none⟩ = some (.slice G m d) ∧ w'.cell? ⟨B, 3, none⟩ = some (.int .i64 cap) ∧ w'.cell? ⟨B, 4, none⟩ = some (.int .i64 en))) _ := ⟨e2.cell 0 rfl, e2.cell 1 rfl, e2.cell 2 rfl, e2.cell 3 rfl, e2.cell 4 rfl⟩
  refine wpAnyT_take (i := 0) (v := ?vv285) rfl (by kernel_rfl) (fun _ _ _ h => h) (Or.inl ⟨by rfl, fun w hSw => ?yy285⟩) HS ?rr285
  case yy285 =>
    (try dsimp only at hSw); go_simp
    try with_reducible rfl
  try simp only [Act.put, List.setIfInBounds_toArray, List.set_cons_zero, List.set_cons_succ]
  refine wpAnyT_take (i := 1) (v := ?vv286) rfl (by kernel_rfl) (fun _ _ _ h => h) (Or.inl ⟨by rfl, fun w hSw => ?yy286⟩) HS ?rr286
  case yy286 =>
    (try dsimp only at hSw); go_simp
    try with_reducible rfl
  try simp only [Act.put, List.setIfInBounds_toArray, List.set_cons_zero, List.set_cons_succ]
  refine wpAnyT_take (i := 2) (v := ?vv287) rfl (by kernel_rfl) (fun _ _ _ h => h) (Or.inl ⟨by rfl, fun w hSw => ?yy287⟩) HS ?rr287
  case yy287 =>
    (try dsimp only at hSw); go_simp
    try with_reducible rfl
  try simp only [Act.put, List.setIfInBounds_toArray, List.set_cons_zero, List.set_cons_succ]
  refine wpAnyT_take (i := 3) (v := ?vv288) rfl (by kernel_rfl) (fun _ _ _ h => h) (Or.inl ⟨by rfl, fun w hSw => ?yy288⟩) HS ?rr288
  case yy288 =>
    (try dsimp only at hSw); go_simp
    try with_reducible rfl
  try simp only [Act.put, List.setIfInBounds_toArray, List.set_cons_zero, List.set_cons_succ]
  refine wpAnyT_take (i := 4) (v := ?vv289) rfl (by kernel_rfl) (fun _ _ _ h => h) (Or.inl ⟨by rfl, fun w hSw => ?yy289⟩) HS ?rr289
  case yy289 =>
    (try dsimp only at hSw); go_simp
    try with_reducible rfl
  try simp only [Act.put, List.setIfInBounds_toArray, List.set_cons_zero, List.set_cons_succ]
  refine wpAnyT_take (i := 5) (v := ?vv290) rfl (by kernel_rfl) (fun _ _ _ h => h) (Or.inl ⟨by rfl, fun w hSw => ?yy290⟩) HS ?rr290
  case yy290 =>
    (try dsimp only at hSw); go_simp
    try with_reducible rfl
  try simp only [Act.put, List.setIfInBounds_toArray, List.set_cons_zero, List.set_cons_succ]
  refine wpAnyT_take (i := 6) (v := ?vv291) rfl (by kernel_rfl) (fun _ _ _ h => h) (Or.inl ⟨by rfl, fun w hSw => ?yy291⟩) HS ?rr291
  case yy291 =>
    (try dsimp only at hSw); go_simp
    try with_reducible rfl
  try simp only [Act.put, List.setIfInBounds_toArray, List.set_cons_zero, List.set_cons_succ]
  refine wpAnyT_take (i := 7) (v := ?vv292) rfl (by kernel_rfl) (fun _ _ _ h => h) (Or.inl ⟨by rfl, fun w hSw => ?yy292⟩) HS ?rr292
  case yy292 =>
    (try dsimp only at hSw); go_simp
    try with_reducible rfl
  try simp only [Act.put, List.setIfInBounds_toArray, List.set_cons_zero, List.set_cons_succ]
  refine wpAnyT_take (i := 8) (v := ?vv293) rfl (by kernel_rfl) (fun _ _ _ h => h) (Or.inl ⟨by rfl, fun w hSw => ?yy293⟩) HS ?rr293
  case yy293 =>
    (try dsimp only at hSw); go_simp
    try with_reducible rfl
  try simp only [Act.put, List.setIfInBounds_toArray, List.set_cons_zero, List.set_cons_succ]
  refine wpAnyT_take (i := 9) (v := ?vv294) rfl (by kernel_rfl) (fun _ _ _ h => h) (Or.inl ⟨by rfl, fun w hSw => ?yy294⟩) HS ?rr294
  case yy294 =>
    (try dsimp only at hSw); go_simp
    try with_reducible rfl
  try simp only [Act.put, List.setIfInBounds_toArray, List.set_cons_zero, List.set_cons_succ]
  refine wpAnyT_take (i := 10) (v := ?vv295) rfl (by kernel_rfl) (fun _ _ _ h => h) (Or.inl ⟨by rfl, fun w hSw => ?yy295⟩) HS ?rr295
  case yy295 =>
    (try dsimp only at hSw); go_simp
    try with_reducible rfl
  try simp only [Act.put, List.setIfInBounds_toArray, List.set_cons_zero, List.set_cons_succ]
  refine wpAnyT_one (k := 11) rfl (by kernel_rfl) (by decide) (fun K hK => ?_)
  go_simp
  refine (wpos_any base _).mono ?_
  rintro e w3 ⟨he, rfl⟩
  rw [c3] at he
  subst he
  have HS : ((fun w' : World => w'.cell? ⟨B, 0, none⟩ = some (.int .i64 base) ∧ w'.cell? ⟨B, 1, none⟩ = some (.slice A n c) ∧ w'.cell? ⟨B, 2, none⟩ = some (.slice G m d) ∧ w'.cell? ⟨B, 3, none⟩ = some (.int .i64 cap) ∧ w'.cell? ⟨B, 4, none⟩ = some (.int .i64 en))) _ := ⟨e2.cell 0 rfl, e2.cell 1 rfl, e2.cell 2 rfl, e2.cell 3 rfl, e2.cell 4 rfl⟩
  refine hK _ _ HS ?_
  clear hK K
  try simp only [Act.put, List.setIfInBounds_toArray, List.set_cons_zero, List.set_cons_succ]
  refine wpAnyT_take (i := 12) (v := ?vv296) rfl (by kernel_rfl) (fun _ _ _ h => h) (Or.inl ⟨by rfl, fun w hSw => ?yy296⟩) HS ?rr296
  case yy296 =>
    (try dsimp only at hSw); go_simp
    try with_reducible rfl
  try simp only [Act.put, List.setIfInBounds_toArray, List.set_cons_zero, List.set_cons_succ]
  refine wpAnyT_take (i := 13) (v := ?vv297) rfl (by kernel_rfl) (fun _ _ _ h => h) (Or.inl ⟨by rfl, fun w hSw => ?yy297⟩) HS ?rr297
  case yy297 =>
    (try dsimp only at hSw); go_simp
    try with_reducible rfl
  try simp only [Act.put, List.setIfInBounds_toArray, List.set_cons_zero, List.set_cons_succ]
  refine wpAnyT_take (i := 14) (v := ?vv298) rfl (by kernel_rfl) (fun _ _ _ h => h) (Or.inl ⟨by rfl, fun w hSw => ?yy298⟩) HS ?rr298
  case yy298 =>
    (try dsimp only at hSw); go_simp
    try with_reducible rfl
  try simp only [Act.put, List.setIfInBounds_toArray, List.set_cons_zero, List.set_cons_succ]
  refine wpAnyT_take (i := 15) (v := ?vv299) rfl (by kernel_rfl) (fun _ _ _ h => h) (Or.inl ⟨by rfl, fun w hSw => ?yy299⟩) HS ?rr299
  case yy299 =>
    (try dsimp only at hSw); go_simp
    try with_reducible rfl
  try simp only [Act.put, List.setIfInBounds_toArray, List.set_cons_zero, List.set_cons_succ]
  refine wpAnyT_one (k := 16) rfl (by kernel_rfl) (by decide) (fun K hK => ?_)
  go_simp
  refine (may_any G m d gl _ (hgk b2)).mono ?_
  rintro e w4 ⟨he, hb4⟩
  rw [c4] at he
  subst he
  have e4 := e2.kept hb4
  have b4 := b2.trans (hb4.mono (Nat.le_of_lt e2.lt))
  have HS : ((fun w' : World => w'.cell? ⟨B, 0, none⟩ = some (.int .i64 base) ∧ w'.cell? ⟨B, 1, none⟩ = some (.slice A n c) ∧ w'.cell? ⟨B, 2, none⟩ = some (.slice G m d) ∧ w'.cell? ⟨B, 3, none⟩ = some (.int .i64 cap) ∧ w'.cell? ⟨B, 4, none⟩ = some (.int .i64 en))) _ := ⟨e4.cell 0 rfl, e4.cell 1 rfl, e4.cell 2 rfl, e4.cell 3 rfl, e4.cell 4 rfl⟩
  refine hK _ _ HS ?_
  clear hK K
  try simp only [Act.put, List.setIfInBounds_toArray, List.set_cons_zero, List.set_cons_succ]
  refine wpAnyT_take (i := 17) (v := ?vv300) rfl (by kernel_rfl) (fun _ _ _ h => h) (Or.inl ⟨by rfl, fun w hSw => ?yy300⟩) HS ?rr300
  case yy300 =>
    (try dsimp only at hSw); go_simp
    try with_reducible rfl
  try simp only [Act.put, List.setIfInBounds_toArray, List.set_cons_zero, List.set_cons_succ]
  refine wpAnyT_take (i := 18) (v := ?vv301) rfl (by kernel_rfl) (fun _ _ _ h => h) (Or.inl ⟨by rfl, fun w hSw => ?yy301⟩) HS ?rr301
  case yy301 =>
    (try dsimp only at hSw); go_simp
    try with_reducible rfl
  try simp only [Act.put, List.setIfInBounds_toArray, List.set_cons_zero, List.set_cons_succ]
  refine wpAnyT_take (i := 19) (v := ?vv302) rfl (by kernel_rfl) (fun _ _ _ h => h) (Or.inl ⟨by rfl, fun w hSw => ?yy302⟩) HS ?rr302
  case yy302 =>
    (try dsimp only at hSw); go_simp
    try with_reducible rfl
  try simp only [Act.put, List.setIfInBounds_toArray, List.set_cons_zero, List.set_cons_succ]
  refine wpAnyT_take (i := 20) (v := ?vv303) rfl (by kernel_rfl) (fun _ _ _ h => h) (Or.inl ⟨by rfl, fun w hSw => ?yy303⟩) HS ?rr303
  case yy303 =>
    (try dsimp only at hSw); go_simp
    try with_reducible rfl
  try simp only [Act.put, List.setIfInBounds_toArray, List.set_cons_zero, List.set_cons_succ]
  refine wpAnyT_take (i := 21) (v := ?vv304) rfl (by kernel_rfl) (fun _ _ _ h => h) (Or.inl ⟨by rfl, fun w hSw => ?yy304⟩) HS ?rr304
  case yy304 =>
    (try dsimp only at hSw); go_simp
    try with_reducible rfl
  try simp only [Act.put, List.setIfInBounds_toArray, List.set_cons_zero, List.set_cons_succ]
  refine wpAnyT_one (k := 22) rfl (by kernel_rfl) (by decide) (fun K hK => ?_)
  go_simp
  refine (hhead _ b4).mono ?_
  rintro e w5 ⟨rfl, hb5⟩
  have e5 := e4.kept hb5
  have b5 := b4.trans (hb5.mono (Nat.le_of_lt e4.lt))
  have HS : ((fun w' : World => w'.cell? ⟨B, 0, none⟩ = some (.int .i64 base) ∧ w'.cell? ⟨B, 1, none⟩ = some (.slice A n c) ∧ w'.cell? ⟨B, 2, none⟩ = some (.slice G m d) ∧ w'.cell? ⟨B, 3, none⟩ = some (.int .i64 cap) ∧ w'.cell? ⟨B, 4, none⟩ = some (.int .i64 en))) _ := ⟨e5.cell 0 rfl, e5.cell 1 rfl, e5.cell 2 rfl, e5.cell 3 rfl, e5.cell 4 rfl⟩
  refine hK _ _ HS ?_
  clear hK K
  try simp only [Act.put, List.setIfInBounds_toArray, List.set_cons_zero, List.set_cons_succ]
  refine wpAnyT_take (i := 23) (v := ?vv305) rfl (by kernel_rfl) (fun _ _ _ h => h) (Or.inl ⟨by rfl, fun w hSw => ?yy305⟩) HS ?rr305
  case yy305 =>
    (try dsimp only at hSw); go_simp
    try with_reducible rfl
  try simp only [Act.put, List.setIfInBounds_toArray, List.set_cons_zero, List.set_cons_succ]
  refine wpAnyT_take (i := 24) (v := ?vv306) rfl (by kernel_rfl) (fun _ _ _ h => h) (Or.inl ⟨by rfl, fun w hSw => ?yy306⟩) HS ?rr306
  case yy306 =>
    (try dsimp only at hSw); go_simp
    try with_reducible rfl
  try simp only [Act.put, List.setIfInBounds_toArray, List.set_cons_zero, List.set_cons_succ]
  refine wpAnyT_take (i := 25) (v := ?vv307) rfl (by kernel_rfl) (fun _ _ _ h => h) (Or.inl ⟨by rfl, fun w hSw => ?yy307⟩) HS ?rr307
  case yy307 =>
    (try dsimp only at hSw); go_simp
    try with_reducible rfl
  try simp only [Act.put, List.setIfInBounds_toArray, List.set_cons_zero, List.set_cons_succ]
  refine wpAnyT_take (i := 26) (v := ?vv308) rfl (by kernel_rfl) (fun _ _ _ h => h) (Or.inl ⟨by rfl, fun w hSw => ?yy308⟩) HS ?rr308
  case yy308 =>
    (try dsimp only at hSw); go_simp
    try with_reducible rfl
  try simp only [Act.put, List.setIfInBounds_toArray, List.set_cons_zero, List.set_cons_succ]
  refine wpAnyT_take (i := 28) (v := ?vv309) rfl (by kernel_rfl) (fun _ _ _ h => h) (Or.inl ⟨by rfl, fun w hSw => ?yy309⟩) HS ?rr309
  case yy309 =>
    (try dsimp only at hSw); go_simp
    try with_reducible rfl
  try simp only [Act.put, List.setIfInBounds_toArray, List.set_cons_zero, List.set_cons_succ]
  refine wpAnyT_one (k := 27) rfl (by kernel_rfl) (by decide) (fun K hK => ?_)
  go_simp
  refine (hend _ b5).mono ?_
  rintro e w6 ⟨rfl, hb6⟩
  have e6 := e5.kept hb6
  have b6 := b5.trans (hb6.mono (Nat.le_of_lt e5.lt))
  have HS : ((fun w' : World => w'.cell? ⟨B, 0, none⟩ = some (.int .i64 base) ∧ w'.cell? ⟨B, 1, none⟩ = some (.slice A n c) ∧ w'.cell? ⟨B, 2, none⟩ = some (.slice G m d) ∧ w'.cell? ⟨B, 3, none⟩ = some (.int .i64 cap) ∧ w'.cell? ⟨B, 4, none⟩ = some (.int .i64 en))) _ := ⟨e6.cell 0 rfl, e6.cell 1 rfl, e6.cell 2 rfl, e6.cell 3 rfl, e6.cell 4 rfl⟩
  refine hK _ _ HS ?_
  clear hK K
  try simp only [Act.put, List.setIfInBounds_toArray, List.set_cons_zero, List.set_cons_succ]
  refine wpAnyT_one (k := 29) rfl (by kernel_rfl) (by decide) (fun K hK => ?_)
  go_simp
  refine (hedge _).mono ?_
  rintro e w7 ⟨rfl, hb7⟩
  have e7 := e6.kept hb7
  have b7 := b6.trans (hb7.mono (Nat.le_of_lt e6.lt))
  have HS : ((fun w' : World => w'.cell? ⟨B, 0, none⟩ = some (.int .i64 base) ∧ w'.cell? ⟨B, 1, none⟩ = some (.slice A n c) ∧ w'.cell? ⟨B, 2, none⟩ = some (.slice G m d) ∧ w'.cell? ⟨B, 3, none⟩ = some (.int .i64 cap) ∧ w'.cell? ⟨B, 4, none⟩ = some (.int .i64 en))) _ := ⟨e7.cell 0 rfl, e7.cell 1 rfl, e7.cell 2 rfl, e7.cell 3 rfl, e7.cell 4 rfl⟩
  refine hK _ _ HS ?_
  clear hK K
  try simp only [Act.put, List.setIfInBounds_toArray, List.set_cons_zero, List.set_cons_succ]
  refine wpAnyT_take (i := 30) (v := ?vv310) rfl (by kernel_rfl) (fun _ _ _ h => h) (Or.inl ⟨by rfl, fun w hSw => ?yy310⟩) HS ?rr310
  case yy310 =>
    (try dsimp only at hSw); go_simp
    try with_reducible rfl
  try simp only [Act.put, List.setIfInBounds_toArray, List.set_cons_zero, List.set_cons_succ]
  refine wpAnyT_take (i := 31) (v := ?vv311) rfl (by kernel_rfl) (fun _ _ _ h => h) (Or.inl ⟨by rfl, fun w hSw => ?yy311⟩) HS ?rr311
  case yy311 =>
    (try dsimp only at hSw); go_simp
    try with_reducible rfl
  try simp only [Act.put, List.setIfInBounds_toArray, List.set_cons_zero, List.set_cons_succ]
  refine wpAnyT_take (i := 32) (v := ?vv312) rfl (by kernel_rfl) (fun _ _ _ h => h) (Or.inl ⟨by rfl, fun w hSw => ?yy312⟩) HS ?rr312
  case yy312 =>
    (try dsimp only at hSw); go_simp
    try with_reducible rfl
  try simp only [Act.put, List.setIfInBounds_toArray, List.set_cons_zero, List.set_cons_succ]
  refine wpAnyT_take (i := 33) (v := ?vv313) rfl (by kernel_rfl) (fun _ _ _ h => h) (Or.inl ⟨by rfl, fun w hSw => ?yy313⟩) HS ?rr313
  case yy313 =>
    (try dsimp only at hSw); go_simp
    try with_reducible rfl
  try simp only [Act.put, List.setIfInBounds_toArray, List.set_cons_zero, List.set_cons_succ]
  refine wpAnyT_take (i := 34) (v := ?vv314) rfl (by kernel_rfl) (fun _ _ _ h => h) (Or.inl ⟨by rfl, fun w hSw => ?yy314⟩) HS ?rr314
  case yy314 =>
    (try dsimp only at hSw); go_simp
    try with_reducible rfl
  try simp only [Act.put, List.setIfInBounds_toArray, List.set_cons_zero, List.set_cons_succ]
  refine wpAnyT_take (i := 35) (v := ?vv315) rfl (by kernel_rfl) (fun _ _ _ h => h) (Or.inl ⟨by rfl, fun w hSw => ?yy315⟩) HS ?rr315
  case yy315 =>
    (try dsimp only at hSw); go_simp
    try with_reducible rfl
  try simp only [Act.put, List.setIfInBounds_toArray, List.set_cons_zero, List.set_cons_succ]
  refine wpAnyT_take (i := 36) (v := ?vv316) rfl (by kernel_rfl) (fun _ _ _ h => h) (Or.inl ⟨by rfl, fun w hSw => ?yy316⟩) HS ?rr316
  case yy316 =>
    (try dsimp only at hSw); go_simp
    try with_reducible rfl
  try simp only [Act.put, List.setIfInBounds_toArray, List.set_cons_zero, List.set_cons_succ]
  refine wpAnyT_take (i := 38) (v := ?vv317) rfl (by kernel_rfl) (fun _ _ _ h => h) (Or.inl ⟨by rfl, fun w hSw => ?yy317⟩) HS ?rr317
  case yy317 =>
    (try dsimp only at hSw); go_simp
    try with_reducible rfl
  try simp only [Act.put, List.setIfInBounds_toArray, List.set_cons_zero, List.set_cons_succ]
  refine wpAnyT_take (i := 39) (v := ?vv318) rfl (by kernel_rfl) (fun _ _ _ h => h) (Or.inl ⟨by rfl, fun w hSw => ?yy318⟩) HS ?rr318
  case yy318 =>
    (try dsimp only at hSw); go_simp
    try with_reducible rfl
  try simp only [Act.put, List.setIfInBounds_toArray, List.set_cons_zero, List.set_cons_succ]
  refine wpAnyT_one (k := 37) rfl (by kernel_rfl) (by decide) (fun K hK => ?_)
  go_simp
  refine (hend _ b7).mono ?_
  rintro e w8 ⟨rfl, hb8⟩
  have e8 := e7.kept hb8
  have b8 := b7.trans (hb8.mono (Nat.le_of_lt e7.lt))
  have HS : ((fun w' : World => w'.cell? ⟨B, 0, none⟩ = some (.int .i64 base) ∧ w'.cell? ⟨B, 1, none⟩ = some (.slice A n c) ∧ w'.cell? ⟨B, 2, none⟩ = some (.slice G m d) ∧ w'.cell? ⟨B, 3, none⟩ = some (.int .i64 cap) ∧ w'.cell? ⟨B, 4, none⟩ = some (.int .i64 en))) _ := ⟨e8.cell 0 rfl, e8.cell 1 rfl, e8.cell 2 rfl, e8.cell 3 rfl, e8.cell 4 rfl⟩
  refine hK _ _ HS ?_
  clear hK K
  try simp only [Act.put, List.setIfInBounds_toArray, List.set_cons_zero, List.set_cons_succ]
  refine wpAnyT_take (i := 40) (v := ?vv319) rfl (by kernel_rfl) (fun _ _ _ h => h) (Or.inl ⟨by rfl, fun w hSw => ?yy319⟩) HS ?rr319
  case yy319 =>
    (try dsimp only at hSw); go_simp
    try with_reducible rfl
  try simp only [Act.put, List.setIfInBounds_toArray, List.set_cons_zero, List.set_cons_succ]
  refine wpAnyT_take (i := 41) (v := ?vv320) rfl (by kernel_rfl) (fun _ _ _ h => h) (Or.inl ⟨by rfl, fun w hSw => ?yy320⟩) HS ?rr320
  case yy320 =>
    (try dsimp only at hSw); go_simp
    try with_reducible rfl
  try simp only [Act.put, List.setIfInBounds_toArray, List.set_cons_zero, List.set_cons_succ]
  refine wpAnyT_take (i := 42) (v := ?vv321) rfl (by kernel_rfl) (fun _ _ _ h => h) (Or.inl ⟨by rfl, fun w hSw => ?yy321⟩) HS ?rr321
  case yy321 =>
    (try dsimp only at hSw); go_simp
    try with_reducible rfl
  try simp only [Act.put, List.setIfInBounds_toArray, List.set_cons_zero, List.set_cons_succ]
  refine wpAnyT_take (i := 43) (v := ?vv322) rfl (by kernel_rfl) (fun _ _ _ h => h) (Or.inl ⟨by rfl, fun w hSw => ?yy322⟩) HS ?rr322
  case yy322 =>
    (try dsimp only at hSw); go_simp
    try with_reducible rfl
  try simp only [Act.put, List.setIfInBounds_toArray, List.set_cons_zero, List.set_cons_succ]
  refine wpAnyT_take (i := 44) (v := ?vv323) rfl (by kernel_rfl) (fun _ _ _ h => h) (Or.inl ⟨by rfl, fun w hSw => ?yy323⟩) HS ?rr323
  case yy323 =>
    (try dsimp only at hSw); go_simp
    try with_reducible rfl
  try simp only [Act.put, List.setIfInBounds_toArray, List.set_cons_zero, List.set_cons_succ]
  refine wpAnyT_one (k := 45) rfl (by kernel_rfl) (by decide) (fun K hK => ?_)
  go_simp
  refine (hclean _ b8).mono ?_
  rintro e w9 ⟨he, hb9⟩
  rw [c8] at he
  subst he
  have e9 := e8.kept hb9
  have b9 := b8.trans (hb9.mono (Nat.le_of_lt e8.lt))
  have HS : ((fun w' : World => w'.cell? ⟨B, 0, none⟩ = some (.int .i64 base) ∧ w'.cell? ⟨B, 1, none⟩ = some (.slice A n c) ∧ w'.cell? ⟨B, 2, none⟩ = some (.slice G m d) ∧ w'.cell? ⟨B, 3, none⟩ = some (.int .i64 cap) ∧ w'.cell? ⟨B, 4, none⟩ = some (.int .i64 en))) _ := ⟨e9.cell 0 rfl, e9.cell 1 rfl, e9.cell 2 rfl, e9.cell 3 rfl, e9.cell 4 rfl⟩
  refine hK _ _ HS ?_
  clear hK K
  try simp only [Act.put, List.setIfInBounds_toArray, List.set_cons_zero, List.set_cons_succ]
  refine wpAnyT_take (i := 46) (v := ?vv324) rfl (by kernel_rfl) (fun _ _ _ h => h) (Or.inl ⟨by rfl, fun w hSw => ?yy324⟩) HS ?rr324
  case yy324 =>
    (try dsimp only at hSw); go_simp
    try with_reducible rfl
  try simp only [Act.put, List.setIfInBounds_toArray, List.set_cons_zero, List.set_cons_succ]
  refine wpAnyT_take (i := 47) (v := ?vv325) rfl (by kernel_rfl) (fun _ _ _ h => h) (Or.inl ⟨by rfl, fun w hSw => ?yy325⟩) HS ?rr325
  case yy325 =>
    (try dsimp only at hSw); go_simp
    try with_reducible rfl
  try simp only [Act.put, List.setIfInBounds_toArray, List.set_cons_zero, List.set_cons_succ]
  refine wpAnyT_take (i := 48) (v := ?vv326) rfl (by kernel_rfl) (fun _ _ _ h => h) (Or.inl ⟨by rfl, fun w hSw => ?yy326⟩) HS ?rr326
  case yy326 =>
    (try dsimp only at hSw); go_simp
    try with_reducible rfl
  try simp only [Act.put, List.setIfInBounds_toArray, List.set_cons_zero, List.set_cons_succ]
  refine wpAnyT_take (i := 49) (v := ?vv327) rfl (by kernel_rfl) (fun _ _ _ h => h) (Or.inl ⟨by rfl, fun w hSw => ?yy327⟩) HS ?rr327
  case yy327 =>
    (try dsimp only at hSw); go_simp
    try with_reducible rfl
  try simp only [Act.put, List.setIfInBounds_toArray, List.set_cons_zero, List.set_cons_succ]
  refine wpAnyT_take (i := 50) (v := ?vv328) rfl (by kernel_rfl) (fun _ _ _ h => h) (Or.inl ⟨by rfl, fun w hSw => ?yy328⟩) HS ?rr328
  case yy328 =>
    (try dsimp only at hSw); go_simp
    try with_reducible rfl
  try simp only [Act.put, List.setIfInBounds_toArray, List.set_cons_zero, List.set_cons_succ]
  refine wpAnyT_take (i := 51) (v := ?vv329) rfl (by kernel_rfl) (fun _ _ _ h => h) (Or.inl ⟨by rfl, fun w hSw => ?yy329⟩) HS ?rr329
  case yy329 =>
    (try dsimp only at hSw); go_simp
    try with_reducible rfl
  try simp only [Act.put, List.setIfInBounds_toArray, List.set_cons_zero, List.set_cons_succ]
  refine wpAnyT_take (i := 52) (v := ?vv330) rfl (by kernel_rfl) (fun _ _ _ h => h) (Or.inl ⟨by rfl, fun w hSw => ?yy330⟩) HS ?rr330
  case yy330 =>
    (try dsimp only at hSw); go_simp
    try with_reducible rfl
  try simp only [Act.put, List.setIfInBounds_toArray, List.set_cons_zero, List.set_cons_succ]
  refine wpAnyT_take (i := 53) (v := ?vv331) rfl (by kernel_rfl) (fun _ _ _ h => h) (Or.inl ⟨by rfl, fun w hSw => ?yy331⟩) HS ?rr331
  case yy331 =>
    (try dsimp only at hSw); go_simp
    try with_reducible rfl
  try simp only [Act.put, List.setIfInBounds_toArray, List.set_cons_zero, List.set_cons_succ]
  refine wpAnyT_take (i := 54) (v := ?vv332) rfl (by kernel_rfl) (fun _ _ _ h => h) (Or.inl ⟨by rfl, fun w hSw => ?yy332⟩) HS ?rr332
  case yy332 =>
    (try dsimp only at hSw); go_simp
    try with_reducible rfl
  try simp only [Act.put, List.setIfInBounds_toArray, List.set_cons_zero, List.set_cons_succ]
  refine wpAnyT_one (k := 55) rfl (by kernel_rfl) (by decide) (fun K hK => ?_)
  go_simp
  refine (hend _ b9).mono ?_
  rintro e w10 ⟨rfl, hb10⟩
  have e10 := e9.kept hb10
  have b10 := b9.trans (hb10.mono (Nat.le_of_lt e9.lt))
  have HS : ((fun w' : World => w'.cell? ⟨B, 0, none⟩ = some (.int .i64 base) ∧ w'.cell? ⟨B, 1, none⟩ = some (.slice A n c) ∧ w'.cell? ⟨B, 2, none⟩ = some (.slice G m d) ∧ w'.cell? ⟨B, 3, none⟩ = some (.int .i64 cap) ∧ w'.cell? ⟨B, 4, none⟩ = some (.int .i64 en))) _ := ⟨e10.cell 0 rfl, e10.cell 1 rfl, e10.cell 2 rfl, e10.cell 3 rfl, e10.cell 4 rfl⟩
  refine hK _ _ HS ?_
  clear hK K
  try simp only [Act.put, List.setIfInBounds_toArray, List.set_cons_zero, List.set_cons_succ]
  refine wpAnyT_take (i := 56) (v := ?vv333) rfl (by kernel_rfl) (fun _ _ _ h => h) (Or.inl ⟨by rfl, fun w hSw => ?yy333⟩) HS ?rr333
  case yy333 =>
    (try dsimp only at hSw); go_simp
    try with_reducible rfl
  try simp only [Act.put, List.setIfInBounds_toArray, List.set_cons_zero, List.set_cons_succ]
  refine wpAnyT_take (i := 57) (v := ?vv334) rfl (by kernel_rfl) (fun _ _ _ h => h) (Or.inl ⟨by rfl, fun w hSw => ?yy334⟩) HS ?rr334
  case yy334 =>
    (try dsimp only at hSw); go_simp
    try with_reducible rfl
  try simp only [Act.put, List.setIfInBounds_toArray, List.set_cons_zero, List.set_cons_succ]
  refine wpAnyT_take (i := 58) (v := ?vv335) rfl (by kernel_rfl) (fun _ _ _ h => h) (Or.inl ⟨by rfl, fun w hSw => ?yy335⟩) HS ?rr335
  case yy335 =>
    (try dsimp only at hSw); go_simp
    try with_reducible rfl
  try simp only [Act.put, List.setIfInBounds_toArray, List.set_cons_zero, List.set_cons_succ]
  refine ⟨by kernel_rfl, ?_⟩
  simp only [List.drop_succ_cons, List.drop_zero]
  clear HS
  go_wp2_with fail
  go_ret
  exact ⟨rfl, b10⟩
end Go.Proofs.Ytggnhccpncgfiaa
