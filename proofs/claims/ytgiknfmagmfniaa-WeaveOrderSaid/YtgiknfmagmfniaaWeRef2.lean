/- The reference of package weave: May as a contract of the call. -/
import Derived.Test.YtgiknfmagmfniaaProg
import Derived.Test.YtgiknfmagmfniaaWeRef1
import Derived.Test.YtgiknfmagmfniaaTail
import Derived.WalkKit
import Derived.WalkSpells
import Derived.WalkSmall
import Derived.Lib.Hide
import Derived.Below
import Derived.Outline
import Derived.IntWalk
namespace Go.Proofs.Ytgiknfmagmfniaa
open Go.RowKit
set_option linter.unusedSimpArgs false
set_option linter.unusedVariables false

theorem wmay_false {w : Wv} (h : ¬ Va w) : wmay w = false := by
  cases hk : wmay w with
  | false => rfl
  | true => exact absurd ((wmay_iff w).1 hk) h

set_option maxRecDepth 100000 in
set_option maxHeartbeats 4000000 in
theorem rwmay_any (base : Int) (A : Option Addr) (n c : Nat) (G : Option Addr) (m d : Nat) (cap en : Int) (bl : List Int) (gl : List Sp) (w : World) (hb : Sl w A n c bl) (hg : Ss w G m d gl) (hn : n ≤ 140737488355328) :
    Calls Try.prog 28 #[.agg #[.int .i64 base, .slice A n c, .slice G m d, .int .i64 cap, .int .i64 en]] w fun e w' => e = .returned (.bool (wmay ⟨base, bl, gl, cap, en⟩)) ∧ Below w.heap.size w w' := by
  have hbl := hb.rd.len
  have hgl := hg.rd.len
  have e0 := Bx.new w 25 [.int .i64 base, .slice A n c, .slice G m d, .int .i64 cap, .int .i64 en]
  have hb0 : Below w.heap.size w (w.alloc (.cells #[.int .i64 base, .slice A n c, .slice G m d, .int .i64 cap, .int .i64 en] 25)) := (Below.refl _ _).alloc (Nat.le_refl _) _
  obtain ⟨B, hB⟩ : ∃ B, w.heap.size = B := ⟨_, rfl⟩
  rw [hB] at e0 hb0
  obtain ⟨w0, hw0⟩ : ∃ w0, w.alloc (.cells #[.int .i64 base, .slice A n c, .slice G m d, .int .i64 cap, .int .i64 en] 25) = w0 := ⟨_, rfl⟩
  have e0' : Bx w0 B 25 [.int .i64 base, .slice A n c, .slice G m d, .int .i64 cap, .int .i64 en] := by rw [← hw0]; exact e0
  rw [hw0] at hb0
  clear e0
  have hbk : ∀ {w' : World}, Below B w w' → Sl w' A n c bl := fun h => hb.keep (by rw [hB]; exact h)
  have hgk : ∀ {w' : World}, Below B w w' → Ss w' G m d gl := fun h => hg.keep (by rw [hB]; exact h)
  have x0 := e0'.cell 0 rfl
  have x1 := e0'.cell 1 rfl
  have x2 := e0'.cell 2 rfl
  have x3 := e0'.cell 3 rfl
  have x4 := e0'.cell 4 rfl
  go_enter Try.func28, Try.ntmps28
  rw [hB]
  go_wp2_with fail
  refine (rmay_any G m d gl _ (hgk hb0)).mono ?_
  rintro e w1 ⟨he, hb1⟩
  clear x0 x1 x2 x3 x4
  have e1 := e0'.kept hb1
  have b1 := hb0.trans (hb1.mono (Nat.le_of_lt e0'.lt))
  have x0 := e1.cell 0 rfl
  have x1 := e1.cell 1 rfl
  have x2 := e1.cell 2 rfl
  have x3 := e1.cell 3 rfl
  have x4 := e1.cell 4 rfl
  have fin : ∀ {v : Bool}, v = wmay ⟨base, bl, gl, cap, en⟩ → Ending.returned (.bool v) = .returned (.bool (wmay ⟨base, bl, gl, cap, en⟩)) := fun h => by rw [h]
  have isF : ¬ Va ⟨base, bl, gl, cap, en⟩ → false = wmay ⟨base, bl, gl, cap, en⟩ := fun h => by rw [wmay_false h]
  cases hm : mayB gl with
  | false =>
    rw [hm] at he
    subst he
    go_wp2_with fail
    go_ret
    exact ⟨fin (isF (fun h => by have := h.may; rw [hm] at this; cases this)), b1⟩
  | true =>
  rw [hm] at he
  subst he
  by_cases c1 : 0 ≤ cap ∧ cap ≤ 65536 ∧ 0 ≤ base ∧ base ≤ 2305843009213693952
  case neg =>
    have hF := fin (isF (fun h => c1 ⟨h.cap0, h.cap1, h.base0, h.base1⟩))
    have HC := Lib.hid c1; clear c1
    go_wp2_with fail
    all_goals first
      | (go_ret; exact ⟨hF, b1⟩)
      | (exfalso; have := HC.out; omega)
  case pos =>
  obtain ⟨p0, p1, p2, p3⟩ := c1
  have hchn := (mayB_parts hm).2
  have hU0 : 0 ≤ lastOf base gl ∧ lastOf base gl ≤ 4611686018427387904 := by
    by_cases h0 : gl = []
    · rw [h0, lastOf_nil]; omega
    · rw [show lastOf base gl = lastOf (-1) gl from last_any h0]
      have h1 := last_in hchn (last_mem hchn h0)
      have h2 := ch_in hchn (last_mem hchn h0)
      omega
  have hupto := fun (w' : World) (h : Below B w w') => rupto_any base A n c G m d cap en gl w' (hgk h)
  obtain ⟨U, hU⟩ : ∃ U, lastOf base gl = U := ⟨_, rfl⟩
  rw [hU] at hU0 hupto
  obtain ⟨u0, u1⟩ := hU0
  have hedge := fun (w' : World) => redge_any base A n c G m d cap en w' p2 p3 p0 p1
  obtain ⟨E, hE⟩ : ∃ E, min (base + cap) 2305843009213693952 = E := ⟨_, rfl⟩
  rw [hE] at hedge
  have HU := Lib.hid hU; clear hU
  have HE := Lib.hid hE; clear hE
  have upE : upW ⟨base, bl, gl, cap, en⟩ = U := HU.out
  have edE : edW ⟨base, bl, gl, cap, en⟩ = E := HE.out
  have q1 : IntKind.i64.wrap (U - base) = U - base := IntWalk.i64_in _ (by omega)
  have e1d := e1.drew
  have b1d := b1.drew
  by_cases hm0 : 0 < m
  case neg =>
    have d0 : decide ((0 : Int) < (m : Int)) = false := decide_eq_false (by omega)
    have gnil : gl = [] := List.eq_nil_of_length_eq_zero (by omega)
    have uE' : ¬ (E < U) := by
      have h1 := HU.out
      have h2 := HE.out
      rw [gnil, lastOf_nil] at h1
      omega
    have uE : decide (E < U) = false := decide_eq_false uE'
    have notB := Lib.hid (show U ≤ E by omega)
    have notA := Lib.hid (show ¬ (0 < gl.length ∧ (sp gl 0).1 < base) from fun h => by rw [gnil] at h; simp at h)
    clear uE' gnil
    by_cases hC : (n : Int) = U - base
    case neg =>
      have d1 : ((n : Int) != U - base) = true := by simpa using hC
      have HCN := Lib.hid hC; clear hC
      go_wp2_with fail
      refine wp_region_tail 31 32 (fun w' : World => w'.cell? ⟨B, 0, none⟩ = some (.int .i64 base) ∧ w'.cell? ⟨B, 1, none⟩ = some (.slice A n c) ∧ w'.cell? ⟨B, 2, none⟩ = some (.slice G m d) ∧ w'.cell? ⟨B, 3, none⟩ = some (.int .i64 cap) ∧ w'.cell? ⟨B, 4, none⟩ = some (.int .i64 en)) (by kernel_rfl) (by rfl) (by decide) ?_
      have HS : ((fun w' : World => w'.cell? ⟨B, 0, none⟩ = some (.int .i64 base) ∧ w'.cell? ⟨B, 1, none⟩ = some (.slice A n c) ∧ w'.cell? ⟨B, 2, none⟩ = some (.slice G m d) ∧ w'.cell? ⟨B, 3, none⟩ = some (.int .i64 cap) ∧ w'.cell? ⟨B, 4, none⟩ = some (.int .i64 en))) _ := ⟨e1d.cell 0 rfl, e1d.cell 1 rfl, e1d.cell 2 rfl, e1d.cell 3 rfl, e1d.cell 4 rfl⟩
      refine wpAnyT_take (i := 0) (v := ?vv1) rfl (by kernel_rfl) (fun _ _ _ h => h) (Or.inl ⟨by rfl, fun w hSw => ?yy1⟩) HS ?rr1
      case yy1 =>
        (try dsimp only at hSw); go_simp
        try with_reducible rfl
      try simp only [Act.put, List.setIfInBounds_toArray, List.set_cons_zero, List.set_cons_succ]
      refine wpAnyT_take (i := 1) (v := ?vv2) rfl (by kernel_rfl) (fun _ _ _ h => h) (Or.inl ⟨by rfl, fun w hSw => ?yy2⟩) HS ?rr2
      case yy2 =>
        (try dsimp only at hSw); go_simp
        try with_reducible rfl
      try simp only [Act.put, List.setIfInBounds_toArray, List.set_cons_zero, List.set_cons_succ]
      refine wpAnyT_take (i := 2) (v := ?vv3) rfl (by kernel_rfl) (fun _ _ _ h => h) (Or.inl ⟨by rfl, fun w hSw => ?yy3⟩) HS ?rr3
      case yy3 =>
        (try dsimp only at hSw); go_simp
        try with_reducible rfl
      try simp only [Act.put, List.setIfInBounds_toArray, List.set_cons_zero, List.set_cons_succ]
      refine wpAnyT_take (i := 3) (v := ?vv4) rfl (by kernel_rfl) (fun _ _ _ h => h) (Or.inl ⟨by rfl, fun w hSw => ?yy4⟩) HS ?rr4
      case yy4 =>
        (try dsimp only at hSw); go_simp
        try with_reducible rfl
      try simp only [Act.put, List.setIfInBounds_toArray, List.set_cons_zero, List.set_cons_succ]
      refine wpAnyT_take (i := 4) (v := ?vv5) rfl (by kernel_rfl) (fun _ _ _ h => h) (Or.inl ⟨by rfl, fun w hSw => ?yy5⟩) HS ?rr5
      case yy5 =>
        (try dsimp only at hSw); go_simp
        try with_reducible rfl
      try simp only [Act.put, List.setIfInBounds_toArray, List.set_cons_zero, List.set_cons_succ]
      refine wpAnyT_take (i := 5) (v := undef) rfl (by kernel_rfl) (fun _ _ _ h => h) (Or.inr ⟨by kernel_rfl, rfl⟩) HS ?_
      try simp only [Act.put, List.setIfInBounds_toArray, List.set_cons_zero, List.set_cons_succ]
      refine wpAnyT_take (i := 6) (v := undef) rfl (by kernel_rfl) (fun _ _ _ h => h) (Or.inr ⟨by kernel_rfl, rfl⟩) HS ?_
      try simp only [Act.put, List.setIfInBounds_toArray, List.set_cons_zero, List.set_cons_succ]
      refine wpAnyT_take (i := 7) (v := undef) rfl (by kernel_rfl) (fun _ _ _ h => h) (Or.inr ⟨by kernel_rfl, rfl⟩) HS ?_
      try simp only [Act.put, List.setIfInBounds_toArray, List.set_cons_zero, List.set_cons_succ]
      refine wpAnyT_take (i := 8) (v := undef) rfl (by kernel_rfl) (fun _ _ _ h => h) (Or.inr ⟨by kernel_rfl, rfl⟩) HS ?_
      try simp only [Act.put, List.setIfInBounds_toArray, List.set_cons_zero, List.set_cons_succ]
      refine wpAnyT_take (i := 9) (v := undef) rfl (by kernel_rfl) (fun _ _ _ h => h) (Or.inr ⟨by kernel_rfl, rfl⟩) HS ?_
      try simp only [Act.put, List.setIfInBounds_toArray, List.set_cons_zero, List.set_cons_succ]
      refine wpAnyT_take (i := 10) (v := undef) rfl (by kernel_rfl) (fun _ _ _ h => h) (Or.inr ⟨by kernel_rfl, rfl⟩) HS ?_
      try simp only [Act.put, List.setIfInBounds_toArray, List.set_cons_zero, List.set_cons_succ]
      refine wpAnyT_take (i := 11) (v := undef) rfl (by kernel_rfl) (fun _ _ _ h => h) (Or.inr ⟨by kernel_rfl, rfl⟩) HS ?_
      try simp only [Act.put, List.setIfInBounds_toArray, List.set_cons_zero, List.set_cons_succ]
      refine wpAnyT_take (i := 12) (v := undef) rfl (by kernel_rfl) (fun _ _ _ h => h) (Or.inr ⟨by kernel_rfl, rfl⟩) HS ?_
      try simp only [Act.put, List.setIfInBounds_toArray, List.set_cons_zero, List.set_cons_succ]
      refine wpAnyT_take (i := 13) (v := ?vv6) rfl (by kernel_rfl) (fun _ _ _ h => h) (Or.inl ⟨by rfl, fun w hSw => ?yy6⟩) HS ?rr6
      case yy6 =>
        (try dsimp only at hSw); go_simp
        try with_reducible rfl
      try simp only [Act.put, List.setIfInBounds_toArray, List.set_cons_zero, List.set_cons_succ]
      refine wpAnyT_take (i := 14) (v := ?vv7) rfl (by kernel_rfl) (fun _ _ _ h => h) (Or.inl ⟨by rfl, fun w hSw => ?yy7⟩) HS ?rr7
      case yy7 =>
        (try dsimp only at hSw); go_simp
        try with_reducible rfl
      try simp only [Act.put, List.setIfInBounds_toArray, List.set_cons_zero, List.set_cons_succ]
      refine wpAnyT_take (i := 15) (v := ?vv8) rfl (by kernel_rfl) (fun _ _ _ h => h) (Or.inl ⟨by rfl, fun w hSw => ?yy8⟩) HS ?rr8
      case yy8 =>
        (try dsimp only at hSw); go_simp
        try with_reducible rfl
      try simp only [Act.put, List.setIfInBounds_toArray, List.set_cons_zero, List.set_cons_succ]
      refine wpAnyT_take (i := 17) (v := ?vv9) rfl (by kernel_rfl) (fun _ _ _ h => h) (Or.inl ⟨by rfl, fun w hSw => ?yy9⟩) HS ?rr9
      case yy9 =>
        (try dsimp only at hSw); go_simp
        try with_reducible rfl
      try simp only [Act.put, List.setIfInBounds_toArray, List.set_cons_zero, List.set_cons_succ]
      refine wpAnyT_one (k := 16) rfl (by kernel_rfl) (by decide) (fun K hK => ?_)
      go_simp
      refine (hupto _ b1d).mono ?_
      rintro e w2 ⟨rfl, hb2⟩
      have e2 := e1d.kept hb2
      have b2 := b1d.trans (hb2.mono (Nat.le_of_lt e1d.lt))
      have HS : ((fun w' : World => w'.cell? ⟨B, 0, none⟩ = some (.int .i64 base) ∧ w'.cell? ⟨B, 1, none⟩ = some (.slice A n c) ∧ w'.cell? ⟨B, 2, none⟩ = some (.slice G m d) ∧ w'.cell? ⟨B, 3, none⟩ = some (.int .i64 cap) ∧ w'.cell? ⟨B, 4, none⟩ = some (.int .i64 en))) _ := ⟨e2.cell 0 rfl, e2.cell 1 rfl, e2.cell 2 rfl, e2.cell 3 rfl, e2.cell 4 rfl⟩
      refine hK _ _ HS ?_
      clear hK K
      try simp only [Act.put, List.setIfInBounds_toArray, List.set_cons_zero, List.set_cons_succ]
      refine wpAnyT_one (k := 18) rfl (by kernel_rfl) (by decide) (fun K hK => ?_)
      go_simp
      refine (hedge _).mono ?_
      rintro e w3 ⟨rfl, hb3⟩
      have e3 := e2.kept hb3
      have b3 := b2.trans (hb3.mono (Nat.le_of_lt e2.lt))
      have HS : ((fun w' : World => w'.cell? ⟨B, 0, none⟩ = some (.int .i64 base) ∧ w'.cell? ⟨B, 1, none⟩ = some (.slice A n c) ∧ w'.cell? ⟨B, 2, none⟩ = some (.slice G m d) ∧ w'.cell? ⟨B, 3, none⟩ = some (.int .i64 cap) ∧ w'.cell? ⟨B, 4, none⟩ = some (.int .i64 en))) _ := ⟨e3.cell 0 rfl, e3.cell 1 rfl, e3.cell 2 rfl, e3.cell 3 rfl, e3.cell 4 rfl⟩
      refine hK _ _ HS ?_
      clear hK K
      try simp only [Act.put, List.setIfInBounds_toArray, List.set_cons_zero, List.set_cons_succ]
      refine wpAnyT_take (i := 19) (v := ?vv10) rfl (by kernel_rfl) (fun _ _ _ h => h) (Or.inl ⟨by rfl, fun w hSw => ?yy10⟩) HS ?rr10
      case yy10 =>
        (try dsimp only at hSw); go_simp
        try with_reducible rfl
      try simp only [Act.put, List.setIfInBounds_toArray, List.set_cons_zero, List.set_cons_succ]
      refine wpAnyT_take (i := 20) (v := ?vv11) rfl (by kernel_rfl) (fun _ _ _ h => h) (Or.inl ⟨by rfl, fun w hSw => ?yy11⟩) HS ?rr11
      case yy11 =>
        (try dsimp only at hSw); go_simp
        try with_reducible rfl
      try simp only [Act.put, List.setIfInBounds_toArray, List.set_cons_zero, List.set_cons_succ]
      refine wpAnyT_take (i := 21) (v := ?vv12) rfl (by kernel_rfl) (fun _ _ _ h => h) (Or.inl ⟨by rfl, fun w hSw => ?yy12⟩) HS ?rr12
      case yy12 =>
        (try dsimp only at hSw); go_simp
        try with_reducible rfl
      try simp only [Act.put, List.setIfInBounds_toArray, List.set_cons_zero, List.set_cons_succ]
      refine wpAnyT_take (i := 22) (v := ?vv13) rfl (by kernel_rfl) (fun _ _ _ h => h) (Or.inl ⟨by rfl, fun w hSw => ?yy13⟩) HS ?rr13
      case yy13 =>
        (try dsimp only at hSw); go_simp
        try with_reducible rfl
      try simp only [Act.put, List.setIfInBounds_toArray, List.set_cons_zero, List.set_cons_succ]
      refine wpAnyT_take (i := 23) (v := ?vv14) rfl (by kernel_rfl) (fun _ _ _ h => h) (Or.inl ⟨by rfl, fun w hSw => ?yy14⟩) HS ?rr14
      case yy14 =>
        (try dsimp only at hSw); go_simp
        try with_reducible rfl
      try simp only [Act.put, List.setIfInBounds_toArray, List.set_cons_zero, List.set_cons_succ]
      refine wpAnyT_take (i := 24) (v := ?vv15) rfl (by kernel_rfl) (fun _ _ _ h => h) (Or.inl ⟨by rfl, fun w hSw => ?yy15⟩) HS ?rr15
      case yy15 =>
        (try dsimp only at hSw); go_simp
        try with_reducible rfl
      try simp only [Act.put, List.setIfInBounds_toArray, List.set_cons_zero, List.set_cons_succ]
      refine wpAnyT_take (i := 25) (v := ?vv16) rfl (by kernel_rfl) (fun _ _ _ h => h) (Or.inl ⟨by rfl, fun w hSw => ?yy16⟩) HS ?rr16
      case yy16 =>
        (try dsimp only at hSw); go_simp
        try with_reducible rfl
      try simp only [Act.put, List.setIfInBounds_toArray, List.set_cons_zero, List.set_cons_succ]
      refine wpAnyT_take (i := 27) (v := ?vv17) rfl (by kernel_rfl) (fun _ _ _ h => h) (Or.inl ⟨by rfl, fun w hSw => ?yy17⟩) HS ?rr17
      case yy17 =>
        (try dsimp only at hSw); go_simp
        try with_reducible rfl
      try simp only [Act.put, List.setIfInBounds_toArray, List.set_cons_zero, List.set_cons_succ]
      refine wpAnyT_take (i := 28) (v := ?vv18) rfl (by kernel_rfl) (fun _ _ _ h => h) (Or.inl ⟨by rfl, fun w hSw => ?yy18⟩) HS ?rr18
      case yy18 =>
        (try dsimp only at hSw); go_simp
        try with_reducible rfl
      try simp only [Act.put, List.setIfInBounds_toArray, List.set_cons_zero, List.set_cons_succ]
      refine wpAnyT_one (k := 26) rfl (by kernel_rfl) (by decide) (fun K hK => ?_)
      go_simp
      refine (hupto _ b3).mono ?_
      rintro e w4 ⟨rfl, hb4⟩
      have e4 := e3.kept hb4
      have b4 := b3.trans (hb4.mono (Nat.le_of_lt e3.lt))
      have HS : ((fun w' : World => w'.cell? ⟨B, 0, none⟩ = some (.int .i64 base) ∧ w'.cell? ⟨B, 1, none⟩ = some (.slice A n c) ∧ w'.cell? ⟨B, 2, none⟩ = some (.slice G m d) ∧ w'.cell? ⟨B, 3, none⟩ = some (.int .i64 cap) ∧ w'.cell? ⟨B, 4, none⟩ = some (.int .i64 en))) _ := ⟨e4.cell 0 rfl, e4.cell 1 rfl, e4.cell 2 rfl, e4.cell 3 rfl, e4.cell 4 rfl⟩
      refine hK _ _ HS ?_
      clear hK K
      try simp only [Act.put, List.setIfInBounds_toArray, List.set_cons_zero, List.set_cons_succ]
      refine wpAnyT_take (i := 29) (v := ?vv19) rfl (by kernel_rfl) (fun _ _ _ h => h) (Or.inl ⟨by rfl, fun w hSw => ?yy19⟩) HS ?rr19
      case yy19 =>
        (try dsimp only at hSw); go_simp
        try with_reducible rfl
      try simp only [Act.put, List.setIfInBounds_toArray, List.set_cons_zero, List.set_cons_succ]
      refine wpAnyT_take (i := 30) (v := ?vv20) rfl (by kernel_rfl) (fun _ _ _ h => h) (Or.inl ⟨by rfl, fun w hSw => ?yy20⟩) HS ?rr20
      case yy20 =>
        (try dsimp only at hSw); go_simp
        try with_reducible rfl
      try simp only [Act.put, List.setIfInBounds_toArray, List.set_cons_zero, List.set_cons_succ]
      refine ⟨by kernel_rfl, ?_⟩
      simp only [List.drop_succ_cons, List.drop_zero]
      clear HS
      go_wp2_with fail
      go_ret
      exact ⟨fin (isF (fun h => HCN.out (by have := h.blen; rw [upE] at this; rw [← hbl]; exact this))), b4⟩
    case pos =>
      have d1 : ((n : Int) != U - base) = false := by simpa using hC
      have HC := Lib.hid hC
      clear hC
      go_wp2_with fail
      refine wp_region_tail 31 32 (fun w' : World => w'.cell? ⟨B, 0, none⟩ = some (.int .i64 base) ∧ w'.cell? ⟨B, 1, none⟩ = some (.slice A n c) ∧ w'.cell? ⟨B, 2, none⟩ = some (.slice G m d) ∧ w'.cell? ⟨B, 3, none⟩ = some (.int .i64 cap) ∧ w'.cell? ⟨B, 4, none⟩ = some (.int .i64 en)) (by kernel_rfl) (by rfl) (by decide) ?_
      have HS : ((fun w' : World => w'.cell? ⟨B, 0, none⟩ = some (.int .i64 base) ∧ w'.cell? ⟨B, 1, none⟩ = some (.slice A n c) ∧ w'.cell? ⟨B, 2, none⟩ = some (.slice G m d) ∧ w'.cell? ⟨B, 3, none⟩ = some (.int .i64 cap) ∧ w'.cell? ⟨B, 4, none⟩ = some (.int .i64 en))) _ := ⟨e1d.cell 0 rfl, e1d.cell 1 rfl, e1d.cell 2 rfl, e1d.cell 3 rfl, e1d.cell 4 rfl⟩
      refine wpAnyT_take (i := 0) (v := ?vv21) rfl (by kernel_rfl) (fun _ _ _ h => h) (Or.inl ⟨by rfl, fun w hSw => ?yy21⟩) HS ?rr21
      case yy21 =>
        (try dsimp only at hSw); go_simp
        try with_reducible rfl
      try simp only [Act.put, List.setIfInBounds_toArray, List.set_cons_zero, List.set_cons_succ]
      refine wpAnyT_take (i := 1) (v := ?vv22) rfl (by kernel_rfl) (fun _ _ _ h => h) (Or.inl ⟨by rfl, fun w hSw => ?yy22⟩) HS ?rr22
      case yy22 =>
        (try dsimp only at hSw); go_simp
        try with_reducible rfl
      try simp only [Act.put, List.setIfInBounds_toArray, List.set_cons_zero, List.set_cons_succ]
      refine wpAnyT_take (i := 2) (v := ?vv23) rfl (by kernel_rfl) (fun _ _ _ h => h) (Or.inl ⟨by rfl, fun w hSw => ?yy23⟩) HS ?rr23
      case yy23 =>
        (try dsimp only at hSw); go_simp
        try with_reducible rfl
      try simp only [Act.put, List.setIfInBounds_toArray, List.set_cons_zero, List.set_cons_succ]
      refine wpAnyT_take (i := 3) (v := ?vv24) rfl (by kernel_rfl) (fun _ _ _ h => h) (Or.inl ⟨by rfl, fun w hSw => ?yy24⟩) HS ?rr24
      case yy24 =>
        (try dsimp only at hSw); go_simp
        try with_reducible rfl
      try simp only [Act.put, List.setIfInBounds_toArray, List.set_cons_zero, List.set_cons_succ]
      refine wpAnyT_take (i := 4) (v := ?vv25) rfl (by kernel_rfl) (fun _ _ _ h => h) (Or.inl ⟨by rfl, fun w hSw => ?yy25⟩) HS ?rr25
      case yy25 =>
        (try dsimp only at hSw); go_simp
        try with_reducible rfl
      try simp only [Act.put, List.setIfInBounds_toArray, List.set_cons_zero, List.set_cons_succ]
      refine wpAnyT_take (i := 5) (v := undef) rfl (by kernel_rfl) (fun _ _ _ h => h) (Or.inr ⟨by kernel_rfl, rfl⟩) HS ?_
      try simp only [Act.put, List.setIfInBounds_toArray, List.set_cons_zero, List.set_cons_succ]
      refine wpAnyT_take (i := 6) (v := undef) rfl (by kernel_rfl) (fun _ _ _ h => h) (Or.inr ⟨by kernel_rfl, rfl⟩) HS ?_
      try simp only [Act.put, List.setIfInBounds_toArray, List.set_cons_zero, List.set_cons_succ]
      refine wpAnyT_take (i := 7) (v := undef) rfl (by kernel_rfl) (fun _ _ _ h => h) (Or.inr ⟨by kernel_rfl, rfl⟩) HS ?_
      try simp only [Act.put, List.setIfInBounds_toArray, List.set_cons_zero, List.set_cons_succ]
      refine wpAnyT_take (i := 8) (v := undef) rfl (by kernel_rfl) (fun _ _ _ h => h) (Or.inr ⟨by kernel_rfl, rfl⟩) HS ?_
      try simp only [Act.put, List.setIfInBounds_toArray, List.set_cons_zero, List.set_cons_succ]
      refine wpAnyT_take (i := 9) (v := undef) rfl (by kernel_rfl) (fun _ _ _ h => h) (Or.inr ⟨by kernel_rfl, rfl⟩) HS ?_
      try simp only [Act.put, List.setIfInBounds_toArray, List.set_cons_zero, List.set_cons_succ]
      refine wpAnyT_take (i := 10) (v := undef) rfl (by kernel_rfl) (fun _ _ _ h => h) (Or.inr ⟨by kernel_rfl, rfl⟩) HS ?_
      try simp only [Act.put, List.setIfInBounds_toArray, List.set_cons_zero, List.set_cons_succ]
      refine wpAnyT_take (i := 11) (v := undef) rfl (by kernel_rfl) (fun _ _ _ h => h) (Or.inr ⟨by kernel_rfl, rfl⟩) HS ?_
      try simp only [Act.put, List.setIfInBounds_toArray, List.set_cons_zero, List.set_cons_succ]
      refine wpAnyT_take (i := 12) (v := undef) rfl (by kernel_rfl) (fun _ _ _ h => h) (Or.inr ⟨by kernel_rfl, rfl⟩) HS ?_
      try simp only [Act.put, List.setIfInBounds_toArray, List.set_cons_zero, List.set_cons_succ]
      refine wpAnyT_take (i := 13) (v := ?vv26) rfl (by kernel_rfl) (fun _ _ _ h => h) (Or.inl ⟨by rfl, fun w hSw => ?yy26⟩) HS ?rr26
      case yy26 =>
        (try dsimp only at hSw); go_simp
        try with_reducible rfl
      try simp only [Act.put, List.setIfInBounds_toArray, List.set_cons_zero, List.set_cons_succ]
      refine wpAnyT_take (i := 14) (v := ?vv27) rfl (by kernel_rfl) (fun _ _ _ h => h) (Or.inl ⟨by rfl, fun w hSw => ?yy27⟩) HS ?rr27
      case yy27 =>
        (try dsimp only at hSw); go_simp
        try with_reducible rfl
      try simp only [Act.put, List.setIfInBounds_toArray, List.set_cons_zero, List.set_cons_succ]
      refine wpAnyT_take (i := 15) (v := ?vv28) rfl (by kernel_rfl) (fun _ _ _ h => h) (Or.inl ⟨by rfl, fun w hSw => ?yy28⟩) HS ?rr28
      case yy28 =>
        (try dsimp only at hSw); go_simp
        try with_reducible rfl
      try simp only [Act.put, List.setIfInBounds_toArray, List.set_cons_zero, List.set_cons_succ]
      refine wpAnyT_take (i := 17) (v := ?vv29) rfl (by kernel_rfl) (fun _ _ _ h => h) (Or.inl ⟨by rfl, fun w hSw => ?yy29⟩) HS ?rr29
      case yy29 =>
        (try dsimp only at hSw); go_simp
        try with_reducible rfl
      try simp only [Act.put, List.setIfInBounds_toArray, List.set_cons_zero, List.set_cons_succ]
      refine wpAnyT_one (k := 16) rfl (by kernel_rfl) (by decide) (fun K hK => ?_)
      go_simp
      refine (hupto _ b1d).mono ?_
      rintro e w2 ⟨rfl, hb2⟩
      have e2 := e1d.kept hb2
      have b2 := b1d.trans (hb2.mono (Nat.le_of_lt e1d.lt))
      have HS : ((fun w' : World => w'.cell? ⟨B, 0, none⟩ = some (.int .i64 base) ∧ w'.cell? ⟨B, 1, none⟩ = some (.slice A n c) ∧ w'.cell? ⟨B, 2, none⟩ = some (.slice G m d) ∧ w'.cell? ⟨B, 3, none⟩ = some (.int .i64 cap) ∧ w'.cell? ⟨B, 4, none⟩ = some (.int .i64 en))) _ := ⟨e2.cell 0 rfl, e2.cell 1 rfl, e2.cell 2 rfl, e2.cell 3 rfl, e2.cell 4 rfl⟩
      refine hK _ _ HS ?_
      clear hK K
      try simp only [Act.put, List.setIfInBounds_toArray, List.set_cons_zero, List.set_cons_succ]
      refine wpAnyT_one (k := 18) rfl (by kernel_rfl) (by decide) (fun K hK => ?_)
      go_simp
      refine (hedge _).mono ?_
      rintro e w3 ⟨rfl, hb3⟩
      have e3 := e2.kept hb3
      have b3 := b2.trans (hb3.mono (Nat.le_of_lt e2.lt))
      have HS : ((fun w' : World => w'.cell? ⟨B, 0, none⟩ = some (.int .i64 base) ∧ w'.cell? ⟨B, 1, none⟩ = some (.slice A n c) ∧ w'.cell? ⟨B, 2, none⟩ = some (.slice G m d) ∧ w'.cell? ⟨B, 3, none⟩ = some (.int .i64 cap) ∧ w'.cell? ⟨B, 4, none⟩ = some (.int .i64 en))) _ := ⟨e3.cell 0 rfl, e3.cell 1 rfl, e3.cell 2 rfl, e3.cell 3 rfl, e3.cell 4 rfl⟩
      refine hK _ _ HS ?_
      clear hK K
      try simp only [Act.put, List.setIfInBounds_toArray, List.set_cons_zero, List.set_cons_succ]
      refine wpAnyT_take (i := 19) (v := ?vv30) rfl (by kernel_rfl) (fun _ _ _ h => h) (Or.inl ⟨by rfl, fun w hSw => ?yy30⟩) HS ?rr30
      case yy30 =>
        (try dsimp only at hSw); go_simp
        try with_reducible rfl
      try simp only [Act.put, List.setIfInBounds_toArray, List.set_cons_zero, List.set_cons_succ]
      refine wpAnyT_take (i := 20) (v := ?vv31) rfl (by kernel_rfl) (fun _ _ _ h => h) (Or.inl ⟨by rfl, fun w hSw => ?yy31⟩) HS ?rr31
      case yy31 =>
        (try dsimp only at hSw); go_simp
        try with_reducible rfl
      try simp only [Act.put, List.setIfInBounds_toArray, List.set_cons_zero, List.set_cons_succ]
      refine wpAnyT_take (i := 21) (v := ?vv32) rfl (by kernel_rfl) (fun _ _ _ h => h) (Or.inl ⟨by rfl, fun w hSw => ?yy32⟩) HS ?rr32
      case yy32 =>
        (try dsimp only at hSw); go_simp
        try with_reducible rfl
      try simp only [Act.put, List.setIfInBounds_toArray, List.set_cons_zero, List.set_cons_succ]
      refine wpAnyT_take (i := 22) (v := ?vv33) rfl (by kernel_rfl) (fun _ _ _ h => h) (Or.inl ⟨by rfl, fun w hSw => ?yy33⟩) HS ?rr33
      case yy33 =>
        (try dsimp only at hSw); go_simp
        try with_reducible rfl
      try simp only [Act.put, List.setIfInBounds_toArray, List.set_cons_zero, List.set_cons_succ]
      refine wpAnyT_take (i := 23) (v := ?vv34) rfl (by kernel_rfl) (fun _ _ _ h => h) (Or.inl ⟨by rfl, fun w hSw => ?yy34⟩) HS ?rr34
      case yy34 =>
        (try dsimp only at hSw); go_simp
        try with_reducible rfl
      try simp only [Act.put, List.setIfInBounds_toArray, List.set_cons_zero, List.set_cons_succ]
      refine wpAnyT_take (i := 24) (v := ?vv35) rfl (by kernel_rfl) (fun _ _ _ h => h) (Or.inl ⟨by rfl, fun w hSw => ?yy35⟩) HS ?rr35
      case yy35 =>
        (try dsimp only at hSw); go_simp
        try with_reducible rfl
      try simp only [Act.put, List.setIfInBounds_toArray, List.set_cons_zero, List.set_cons_succ]
      refine wpAnyT_take (i := 25) (v := ?vv36) rfl (by kernel_rfl) (fun _ _ _ h => h) (Or.inl ⟨by rfl, fun w hSw => ?yy36⟩) HS ?rr36
      case yy36 =>
        (try dsimp only at hSw); go_simp
        try with_reducible rfl
      try simp only [Act.put, List.setIfInBounds_toArray, List.set_cons_zero, List.set_cons_succ]
      refine wpAnyT_take (i := 27) (v := ?vv37) rfl (by kernel_rfl) (fun _ _ _ h => h) (Or.inl ⟨by rfl, fun w hSw => ?yy37⟩) HS ?rr37
      case yy37 =>
        (try dsimp only at hSw); go_simp
        try with_reducible rfl
      try simp only [Act.put, List.setIfInBounds_toArray, List.set_cons_zero, List.set_cons_succ]
      refine wpAnyT_take (i := 28) (v := ?vv38) rfl (by kernel_rfl) (fun _ _ _ h => h) (Or.inl ⟨by rfl, fun w hSw => ?yy38⟩) HS ?rr38
      case yy38 =>
        (try dsimp only at hSw); go_simp
        try with_reducible rfl
      try simp only [Act.put, List.setIfInBounds_toArray, List.set_cons_zero, List.set_cons_succ]
      refine wpAnyT_one (k := 26) rfl (by kernel_rfl) (by decide) (fun K hK => ?_)
      go_simp
      refine (hupto _ b3).mono ?_
      rintro e w4 ⟨rfl, hb4⟩
      have e4 := e3.kept hb4
      have b4 := b3.trans (hb4.mono (Nat.le_of_lt e3.lt))
      have HS : ((fun w' : World => w'.cell? ⟨B, 0, none⟩ = some (.int .i64 base) ∧ w'.cell? ⟨B, 1, none⟩ = some (.slice A n c) ∧ w'.cell? ⟨B, 2, none⟩ = some (.slice G m d) ∧ w'.cell? ⟨B, 3, none⟩ = some (.int .i64 cap) ∧ w'.cell? ⟨B, 4, none⟩ = some (.int .i64 en))) _ := ⟨e4.cell 0 rfl, e4.cell 1 rfl, e4.cell 2 rfl, e4.cell 3 rfl, e4.cell 4 rfl⟩
      refine hK _ _ HS ?_
      clear hK K
      try simp only [Act.put, List.setIfInBounds_toArray, List.set_cons_zero, List.set_cons_succ]
      refine wpAnyT_take (i := 29) (v := ?vv39) rfl (by kernel_rfl) (fun _ _ _ h => h) (Or.inl ⟨by rfl, fun w hSw => ?yy39⟩) HS ?rr39
      case yy39 =>
        (try dsimp only at hSw); go_simp
        try with_reducible rfl
      try simp only [Act.put, List.setIfInBounds_toArray, List.set_cons_zero, List.set_cons_succ]
      refine wpAnyT_take (i := 30) (v := ?vv40) rfl (by kernel_rfl) (fun _ _ _ h => h) (Or.inl ⟨by rfl, fun w hSw => ?yy40⟩) HS ?rr40
      case yy40 =>
        (try dsimp only at hSw); go_simp
        try with_reducible rfl
      try simp only [Act.put, List.setIfInBounds_toArray, List.set_cons_zero, List.set_cons_succ]
      refine ⟨by kernel_rfl, ?_⟩
      simp only [List.drop_succ_cons, List.drop_zero]
      clear HS
      go_wp2_with fail
      have notA' := notA
      go_loopw [4] (fun i wr => ∃ k : Nat, k ≤ n ∧ i = .int .i64 k ∧ (∀ j : Nat, j < k → byt bl j = 0 ∨ inL gl (base + j)) ∧ Bx wr B 25 [.int .i64 base, .slice A n c, .slice G m d, .int .i64 cap, .int .i64 en] ∧ Below B w wr) (fun i _ => n - (intOf i).toNat)
      case atStart => exact ⟨0, Nat.zero_le _, rfl, fun j hj => by omega, e4, b4⟩
      case round =>
        obtain ⟨k, hk, rfl, hok, e5, b5⟩ := hrel
        have HOK := Lib.hid hok; clear hok
        have y0 := e5.cell 0 rfl
        have y1 := e5.cell 1 rfl
        have y2 := e5.cell 2 rfl
        by_cases hlt : k < n
        · obtain ⟨bb, bo, hA', hbb, hcb⟩ := hb.rd.at_ (by omega)
          have hcell := (b5.cell (p := ⟨bb, bo + k, none⟩) (by rw [← hB]; exact hbb)).trans (hcb k hlt)
          obtain ⟨x, hx⟩ : ∃ x, byt bl k = x := ⟨_, rfl⟩
          rw [hx] at hcell
          have HX := Lib.hid hx; clear hx
          have qs : base + (k : Int) ≤ 9223372036854775807 := by omega
          subst hA'
          clear hcb
          by_cases hx0 : x = 0
          · have dx : (x != (0 : Int)) = false := by simpa using hx0
            have HX0 := Lib.hid hx0; clear hx0
            go_wp2_with fail
            go_roundw
            case rel =>
              refine ⟨k + 1, by omega, by go_num, fun j hj => ?_, e5, b5⟩
              by_cases h : j < k
              · exact HOK.out j h
              · obtain rfl : j = k := by omega
                exact .inl (HX.out.trans HX0.out)
            case measure => simp [intOf]; omega
          · have dx : (x != (0 : Int)) = true := by simpa using hx0
            have HX0 := Lib.hid hx0; clear hx0
            cases hin : inB gl (base + (k : Int)) with
            | true =>
              go_wp2_with fail
              refine (rin_any _ m d gl (base + k) _ (hgk b5)).mono ?_
              rintro e w6 ⟨he, rfl⟩
              rw [hin] at he
              subst he
              have HI := Lib.hid hin; clear hin
              go_wp2_with fail
              go_roundw
              case rel =>
                refine ⟨k + 1, by omega, by go_num, fun j hj => ?_, e5, b5⟩
                by_cases h : j < k
                · exact HOK.out j h
                · obtain rfl : j = k := by omega
                  exact .inr ((inB_iff _ _).1 HI.out)
              case measure => simp [intOf]; omega
            | false =>
              go_wp2_with fail
              refine (rin_any _ m d gl (base + k) _ (hgk b5)).mono ?_
              rintro e w6 ⟨he, rfl⟩
              rw [hin] at he
              subst he
              have HI := Lib.hid hin; clear hin
              go_wp2_with fail
              go_ret
              refine ⟨fin (isF (fun h => ?_)), b5⟩
              rcases h.ok k (by show k < bl.length; omega) with h1 | h1
              · exact HX0.out (HX.out.symm.trans h1)
              · rw [(inB_iff _ _).2 h1] at HI; exact absurd HI.out (by simp)
        · obtain rfl : n = k := by omega
          have hVa : (en = -1 ∨ U ≤ en) → Va ⟨base, bl, gl, cap, en⟩ := fun h => ⟨(mayB_parts hm).1, p0, p1, p2, p3, by rw [upE, edE]; exact notB.out, by rw [upE, hbl]; exact HC.out, by rw [upE]; exact h, (head_chain hchn).2 notA.out, fun i hi => HOK.out i (by rw [← hbl]; exact hi)⟩
          go_wp2_with fail
          have e6d := e5.drew
          have b6d := b5.drew
          clear y0 y1 y2
          by_cases hen : en = -1
          · have den : decide (en = -1) = true := decide_eq_true hen
            have den2 : (en == -1) = true := by simpa using hen
            have HEN := Lib.hid hen; clear hen
            refine wp_region_tail 10 11 (fun w' : World => w'.cell? ⟨B, 0, none⟩ = some (.int .i64 base) ∧ w'.cell? ⟨B, 1, none⟩ = some (.slice A n c) ∧ w'.cell? ⟨B, 2, none⟩ = some (.slice G m d) ∧ w'.cell? ⟨B, 3, none⟩ = some (.int .i64 cap) ∧ w'.cell? ⟨B, 4, none⟩ = some (.int .i64 en)) (by kernel_rfl) (by rfl) (by decide) ?_
            have HS : ((fun w' : World => w'.cell? ⟨B, 0, none⟩ = some (.int .i64 base) ∧ w'.cell? ⟨B, 1, none⟩ = some (.slice A n c) ∧ w'.cell? ⟨B, 2, none⟩ = some (.slice G m d) ∧ w'.cell? ⟨B, 3, none⟩ = some (.int .i64 cap) ∧ w'.cell? ⟨B, 4, none⟩ = some (.int .i64 en))) _ := ⟨e6d.cell 0 rfl, e6d.cell 1 rfl, e6d.cell 2 rfl, e6d.cell 3 rfl, e6d.cell 4 rfl⟩
            refine wpAnyT_take (i := 0) (v := ?vv41) rfl (by kernel_rfl) (fun _ _ _ h => h) (Or.inl ⟨by rfl, fun w hSw => ?yy41⟩) HS ?rr41
            case yy41 =>
              (try dsimp only at hSw); go_simp
              try with_reducible rfl
            try simp only [Act.put, List.setIfInBounds_toArray, List.set_cons_zero, List.set_cons_succ]
            refine wpAnyT_take (i := 1) (v := ?vv42) rfl (by kernel_rfl) (fun _ _ _ h => h) (Or.inl ⟨by rfl, fun w hSw => ?yy42⟩) HS ?rr42
            case yy42 =>
              (try dsimp only at hSw); go_simp
              try with_reducible rfl
            try simp only [Act.put, List.setIfInBounds_toArray, List.set_cons_zero, List.set_cons_succ]
            refine wpAnyT_take (i := 2) (v := ?vv43) rfl (by kernel_rfl) (fun _ _ _ h => h) (Or.inl ⟨by rfl, fun w hSw => ?yy43⟩) HS ?rr43
            case yy43 =>
              (try dsimp only at hSw); go_simp
              try with_reducible rfl
            try simp only [Act.put, List.setIfInBounds_toArray, List.set_cons_zero, List.set_cons_succ]
            refine wpAnyT_take (i := 3) (v := ?vv44) rfl (by kernel_rfl) (fun _ _ _ h => h) (Or.inl ⟨by rfl, fun w hSw => ?yy44⟩) HS ?rr44
            case yy44 =>
              (try dsimp only at hSw); go_simp
              try with_reducible rfl
            try simp only [Act.put, List.setIfInBounds_toArray, List.set_cons_zero, List.set_cons_succ]
            refine wpAnyT_take (i := 4) (v := undef) rfl (by kernel_rfl) (fun _ _ _ h => h) (Or.inr ⟨by kernel_rfl, rfl⟩) HS ?_
            try simp only [Act.put, List.setIfInBounds_toArray, List.set_cons_zero, List.set_cons_succ]
            refine wpAnyT_take (i := 5) (v := undef) rfl (by kernel_rfl) (fun _ _ _ h => h) (Or.inr ⟨by kernel_rfl, rfl⟩) HS ?_
            try simp only [Act.put, List.setIfInBounds_toArray, List.set_cons_zero, List.set_cons_succ]
            refine wpAnyT_take (i := 6) (v := undef) rfl (by kernel_rfl) (fun _ _ _ h => h) (Or.inr ⟨by kernel_rfl, rfl⟩) HS ?_
            try simp only [Act.put, List.setIfInBounds_toArray, List.set_cons_zero, List.set_cons_succ]
            refine wpAnyT_take (i := 7) (v := undef) rfl (by kernel_rfl) (fun _ _ _ h => h) (Or.inr ⟨by kernel_rfl, rfl⟩) HS ?_
            try simp only [Act.put, List.setIfInBounds_toArray, List.set_cons_zero, List.set_cons_succ]
            refine wpAnyT_take (i := 8) (v := undef) rfl (by kernel_rfl) (fun _ _ _ h => h) (Or.inr ⟨by kernel_rfl, rfl⟩) HS ?_
            try simp only [Act.put, List.setIfInBounds_toArray, List.set_cons_zero, List.set_cons_succ]
            refine wpAnyT_take (i := 9) (v := ?vv45) rfl (by kernel_rfl) (fun _ _ _ h => h) (Or.inl ⟨by rfl, fun w hSw => ?yy45⟩) HS ?rr45
            case yy45 =>
              (try dsimp only at hSw); go_simp
              try with_reducible rfl
            try simp only [Act.put, List.setIfInBounds_toArray, List.set_cons_zero, List.set_cons_succ]
            refine ⟨by kernel_rfl, ?_⟩
            simp only [List.drop_succ_cons, List.drop_zero]
            clear HS
            go_wp2_with fail
            go_ret
            exact ⟨fin ((wmay_iff _).2 (hVa (.inl HEN.out))).symm, b6d⟩
          · have den : decide (en = -1) = false := decide_eq_false hen
            have den2 : (en == -1) = false := by simpa using hen
            have HEN := Lib.hid hen; clear hen
            refine wp_region_tail 10 11 (fun w' : World => w'.cell? ⟨B, 0, none⟩ = some (.int .i64 base) ∧ w'.cell? ⟨B, 1, none⟩ = some (.slice A n c) ∧ w'.cell? ⟨B, 2, none⟩ = some (.slice G m d) ∧ w'.cell? ⟨B, 3, none⟩ = some (.int .i64 cap) ∧ w'.cell? ⟨B, 4, none⟩ = some (.int .i64 en)) (by kernel_rfl) (by rfl) (by decide) ?_
            have HS : ((fun w' : World => w'.cell? ⟨B, 0, none⟩ = some (.int .i64 base) ∧ w'.cell? ⟨B, 1, none⟩ = some (.slice A n c) ∧ w'.cell? ⟨B, 2, none⟩ = some (.slice G m d) ∧ w'.cell? ⟨B, 3, none⟩ = some (.int .i64 cap) ∧ w'.cell? ⟨B, 4, none⟩ = some (.int .i64 en))) _ := ⟨e6d.cell 0 rfl, e6d.cell 1 rfl, e6d.cell 2 rfl, e6d.cell 3 rfl, e6d.cell 4 rfl⟩
            refine wpAnyT_take (i := 0) (v := ?vv46) rfl (by kernel_rfl) (fun _ _ _ h => h) (Or.inl ⟨by rfl, fun w hSw => ?yy46⟩) HS ?rr46
            case yy46 =>
              (try dsimp only at hSw); go_simp
              try with_reducible rfl
            try simp only [Act.put, List.setIfInBounds_toArray, List.set_cons_zero, List.set_cons_succ]
            refine wpAnyT_take (i := 1) (v := ?vv47) rfl (by kernel_rfl) (fun _ _ _ h => h) (Or.inl ⟨by rfl, fun w hSw => ?yy47⟩) HS ?rr47
            case yy47 =>
              (try dsimp only at hSw); go_simp
              try with_reducible rfl
            try simp only [Act.put, List.setIfInBounds_toArray, List.set_cons_zero, List.set_cons_succ]
            refine wpAnyT_take (i := 2) (v := ?vv48) rfl (by kernel_rfl) (fun _ _ _ h => h) (Or.inl ⟨by rfl, fun w hSw => ?yy48⟩) HS ?rr48
            case yy48 =>
              (try dsimp only at hSw); go_simp
              try with_reducible rfl
            try simp only [Act.put, List.setIfInBounds_toArray, List.set_cons_zero, List.set_cons_succ]
            refine wpAnyT_take (i := 3) (v := ?vv49) rfl (by kernel_rfl) (fun _ _ _ h => h) (Or.inl ⟨by rfl, fun w hSw => ?yy49⟩) HS ?rr49
            case yy49 =>
              (try dsimp only at hSw); go_simp
              try with_reducible rfl
            try simp only [Act.put, List.setIfInBounds_toArray, List.set_cons_zero, List.set_cons_succ]
            refine wpAnyT_take (i := 4) (v := ?vv50) rfl (by kernel_rfl) (fun _ _ _ h => h) (Or.inl ⟨by rfl, fun w hSw => ?yy50⟩) HS ?rr50
            case yy50 =>
              (try dsimp only at hSw); go_simp
              try with_reducible rfl
            try simp only [Act.put, List.setIfInBounds_toArray, List.set_cons_zero, List.set_cons_succ]
            refine wpAnyT_take (i := 5) (v := ?vv51) rfl (by kernel_rfl) (fun _ _ _ h => h) (Or.inl ⟨by rfl, fun w hSw => ?yy51⟩) HS ?rr51
            case yy51 =>
              (try dsimp only at hSw); go_simp
              try with_reducible rfl
            try simp only [Act.put, List.setIfInBounds_toArray, List.set_cons_zero, List.set_cons_succ]
            refine wpAnyT_take (i := 6) (v := ?vv52) rfl (by kernel_rfl) (fun _ _ _ h => h) (Or.inl ⟨by rfl, fun w hSw => ?yy52⟩) HS ?rr52
            case yy52 =>
              (try dsimp only at hSw); go_simp
              try with_reducible rfl
            try simp only [Act.put, List.setIfInBounds_toArray, List.set_cons_zero, List.set_cons_succ]
            refine wpAnyT_one (k := 7) rfl (by kernel_rfl) (by decide) (fun K hK => ?_)
            go_simp
            refine (hupto _ b6d).mono ?_
            rintro e w7 ⟨rfl, hb7⟩
            have e7 := e6d.kept hb7
            have b7 := b6d.trans (hb7.mono (Nat.le_of_lt e6d.lt))
            have HS : ((fun w' : World => w'.cell? ⟨B, 0, none⟩ = some (.int .i64 base) ∧ w'.cell? ⟨B, 1, none⟩ = some (.slice A n c) ∧ w'.cell? ⟨B, 2, none⟩ = some (.slice G m d) ∧ w'.cell? ⟨B, 3, none⟩ = some (.int .i64 cap) ∧ w'.cell? ⟨B, 4, none⟩ = some (.int .i64 en))) _ := ⟨e7.cell 0 rfl, e7.cell 1 rfl, e7.cell 2 rfl, e7.cell 3 rfl, e7.cell 4 rfl⟩
            refine hK _ _ HS ?_
            clear hK K
            try simp only [Act.put, List.setIfInBounds_toArray, List.set_cons_zero, List.set_cons_succ]
            refine wpAnyT_take (i := 8) (v := ?vv53) rfl (by kernel_rfl) (fun _ _ _ h => h) (Or.inl ⟨by rfl, fun w hSw => ?yy53⟩) HS ?rr53
            case yy53 =>
              (try dsimp only at hSw); go_simp
              try with_reducible rfl
            try simp only [Act.put, List.setIfInBounds_toArray, List.set_cons_zero, List.set_cons_succ]
            refine wpAnyT_take (i := 9) (v := ?vv54) rfl (by kernel_rfl) (fun _ _ _ h => h) (Or.inl ⟨by rfl, fun w hSw => ?yy54⟩) HS ?rr54
            case yy54 =>
              (try dsimp only at hSw); go_simp
              try with_reducible rfl
            try simp only [Act.put, List.setIfInBounds_toArray, List.set_cons_zero, List.set_cons_succ]
            refine ⟨by kernel_rfl, ?_⟩
            simp only [List.drop_succ_cons, List.drop_zero]
            clear HS
            go_wp2_with fail
            go_ret
            refine ⟨fin ?_, b7⟩
            by_cases hue : U ≤ en
            · rw [(wmay_iff _).2 (hVa (.inr hue))]; exact decide_eq_true hue
            · rw [wmay_false (fun h => by have := h.en; rw [upE] at this; exact this.elim HEN.out hue)]; exact decide_eq_false hue
  case pos =>
    have d0 : decide ((0 : Int) < (m : Int)) = true := decide_eq_true (by omega)
    have hr := hg.rd.at_ (by omega)
    obtain ⟨gb, go, rfl, hgb, hgc⟩ := hr
    have hg00 := (hgc 0 (by omega)).1
    rw [show go + 0 * 2 = go by omega] at hg00
    obtain ⟨f0, hf0⟩ : ∃ f0, (sp gl 0).1 = f0 := ⟨_, rfl⟩
    rw [hf0] at hg00
    have hG0 : ∀ {w' : World}, Below B w w' → w'.cell? ⟨gb, go, none⟩ = some (.int .i64 f0) := fun h => (h.cell (p := ⟨gb, go, none⟩) (by rw [← hB]; exact hgb)).trans hg00
    have HG := Lib.hid hg00; clear hg00 hgc
    by_cases hA : f0 < base
    case pos =>
      have d2 : decide (f0 < base) = true := decide_eq_true hA
      have HA := Lib.hid hA; clear hA
      go_wp2_with fail
      refine wp_region_tail 31 32 (fun w' : World => w'.cell? ⟨B, 0, none⟩ = some (.int .i64 base) ∧ w'.cell? ⟨B, 1, none⟩ = some (.slice A n c) ∧ w'.cell? ⟨B, 2, none⟩ = some (.slice (some ⟨gb, go, none⟩) m d) ∧ w'.cell? ⟨B, 3, none⟩ = some (.int .i64 cap) ∧ w'.cell? ⟨B, 4, none⟩ = some (.int .i64 en) ∧ w'.cell? ⟨gb, go, none⟩ = some (.int .i64 f0)) (by kernel_rfl) (by rfl) (by decide) ?_
      have HS : ((fun w' : World => w'.cell? ⟨B, 0, none⟩ = some (.int .i64 base) ∧ w'.cell? ⟨B, 1, none⟩ = some (.slice A n c) ∧ w'.cell? ⟨B, 2, none⟩ = some (.slice (some ⟨gb, go, none⟩) m d) ∧ w'.cell? ⟨B, 3, none⟩ = some (.int .i64 cap) ∧ w'.cell? ⟨B, 4, none⟩ = some (.int .i64 en) ∧ w'.cell? ⟨gb, go, none⟩ = some (.int .i64 f0))) _ := ⟨e1d.cell 0 rfl, e1d.cell 1 rfl, e1d.cell 2 rfl, e1d.cell 3 rfl, e1d.cell 4 rfl, hG0 b1d⟩
      refine wpAnyT_take (i := 0) (v := ?vv55) rfl (by kernel_rfl) (fun _ _ _ h => h) (Or.inl ⟨by rfl, fun w hSw => ?yy55⟩) HS ?rr55
      case yy55 =>
        (try dsimp only at hSw); go_simp
        try with_reducible rfl
      try simp only [Act.put, List.setIfInBounds_toArray, List.set_cons_zero, List.set_cons_succ]
      refine wpAnyT_take (i := 1) (v := ?vv56) rfl (by kernel_rfl) (fun _ _ _ h => h) (Or.inl ⟨by rfl, fun w hSw => ?yy56⟩) HS ?rr56
      case yy56 =>
        (try dsimp only at hSw); go_simp
        try with_reducible rfl
      try simp only [Act.put, List.setIfInBounds_toArray, List.set_cons_zero, List.set_cons_succ]
      refine wpAnyT_take (i := 2) (v := ?vv57) rfl (by kernel_rfl) (fun _ _ _ h => h) (Or.inl ⟨by rfl, fun w hSw => ?yy57⟩) HS ?rr57
      case yy57 =>
        (try dsimp only at hSw); go_simp
        try with_reducible rfl
      try simp only [Act.put, List.setIfInBounds_toArray, List.set_cons_zero, List.set_cons_succ]
      refine wpAnyT_take (i := 3) (v := ?vv58) rfl (by kernel_rfl) (fun _ _ _ h => h) (Or.inl ⟨by rfl, fun w hSw => ?yy58⟩) HS ?rr58
      case yy58 =>
        (try dsimp only at hSw); go_simp
        try with_reducible rfl
      try simp only [Act.put, List.setIfInBounds_toArray, List.set_cons_zero, List.set_cons_succ]
      refine wpAnyT_take (i := 4) (v := ?vv59) rfl (by kernel_rfl) (fun _ _ _ h => h) (Or.inl ⟨by rfl, fun w hSw => ?yy59⟩) HS ?rr59
      case yy59 =>
        (try dsimp only at hSw); go_simp
        try with_reducible rfl
      try simp only [Act.put, List.setIfInBounds_toArray, List.set_cons_zero, List.set_cons_succ]
      refine wpAnyT_take (i := 5) (v := ?vv60) rfl (by kernel_rfl) (fun _ _ _ h => h) (Or.inl ⟨by rfl, fun w hSw => ?yy60⟩) HS ?rr60
      case yy60 =>
        (try dsimp only at hSw); go_simp
        try with_reducible rfl
      try simp only [Act.put, List.setIfInBounds_toArray, List.set_cons_zero, List.set_cons_succ]
      refine wpAnyT_take (i := 6) (v := ?vv61) rfl (by kernel_rfl) (fun _ _ _ h => h) (Or.inl ⟨by rfl, fun w hSw => ?yy61⟩) HS ?rr61
      case yy61 =>
        (try dsimp only at hSw); go_simp
        try with_reducible rfl
      try simp only [Act.put, List.setIfInBounds_toArray, List.set_cons_zero, List.set_cons_succ]
      refine wpAnyT_take (i := 7) (v := ?vv62) rfl (by kernel_rfl) (fun _ _ _ h => h) (Or.inl ⟨by rfl, fun w hSw => ?yy62⟩) HS ?rr62
      case yy62 =>
        (try dsimp only at hSw); go_simp
        try with_reducible rfl
      try simp only [Act.put, List.setIfInBounds_toArray, List.set_cons_zero, List.set_cons_succ]
      refine wpAnyT_take (i := 8) (v := ?vv63) rfl (by kernel_rfl) (fun _ _ _ h => h) (Or.inl ⟨by rfl, fun w hSw => ?yy63⟩) HS ?rr63
      case yy63 =>
        (try dsimp only at hSw); go_simp
        try with_reducible rfl
      try simp only [Act.put, List.setIfInBounds_toArray, List.set_cons_zero, List.set_cons_succ]
      refine wpAnyT_take (i := 9) (v := ?vv64) rfl (by kernel_rfl) (fun _ _ _ h => h) (Or.inl ⟨by rfl, fun w hSw => ?yy64⟩) HS ?rr64
      case yy64 =>
        (try dsimp only at hSw); go_simp
        try with_reducible rfl
      try simp only [Act.put, List.setIfInBounds_toArray, List.set_cons_zero, List.set_cons_succ]
      refine wpAnyT_take (i := 10) (v := ?vv65) rfl (by kernel_rfl) (fun _ _ _ h => h) (Or.inl ⟨by rfl, fun w hSw => ?yy65⟩) HS ?rr65
      case yy65 =>
        (try dsimp only at hSw); go_simp
        try with_reducible rfl
      try simp only [Act.put, List.setIfInBounds_toArray, List.set_cons_zero, List.set_cons_succ]
      refine wpAnyT_take (i := 11) (v := ?vv66) rfl (by kernel_rfl) (fun _ _ _ h => h) (Or.inl ⟨by rfl, fun w hSw => ?yy66⟩) HS ?rr66
      case yy66 =>
        (try dsimp only at hSw); go_simp
        try with_reducible rfl
      try simp only [Act.put, List.setIfInBounds_toArray, List.set_cons_zero, List.set_cons_succ]
      refine wpAnyT_take (i := 12) (v := ?vv67) rfl (by kernel_rfl) (fun _ _ _ h => h) (Or.inl ⟨by rfl, fun w hSw => ?yy67⟩) HS ?rr67
      case yy67 =>
        (try dsimp only at hSw); go_simp
        try with_reducible rfl
      try simp only [Act.put, List.setIfInBounds_toArray, List.set_cons_zero, List.set_cons_succ]
      refine wpAnyT_take (i := 13) (v := ?vv68) rfl (by kernel_rfl) (fun _ _ _ h => h) (Or.inl ⟨by rfl, fun w hSw => ?yy68⟩) HS ?rr68
      case yy68 =>
        (try dsimp only at hSw); go_simp
        try with_reducible rfl
      try simp only [Act.put, List.setIfInBounds_toArray, List.set_cons_zero, List.set_cons_succ]
      refine wpAnyT_take (i := 14) (v := ?vv69) rfl (by kernel_rfl) (fun _ _ _ h => h) (Or.inl ⟨by rfl, fun w hSw => ?yy69⟩) HS ?rr69
      case yy69 =>
        (try dsimp only at hSw); go_simp
        try with_reducible rfl
      try simp only [Act.put, List.setIfInBounds_toArray, List.set_cons_zero, List.set_cons_succ]
      refine wpAnyT_take (i := 15) (v := undef) rfl (by kernel_rfl) (fun _ _ _ h => h) (Or.inr ⟨by kernel_rfl, rfl⟩) HS ?_
      try simp only [Act.put, List.setIfInBounds_toArray, List.set_cons_zero, List.set_cons_succ]
      refine wpAnyT_take (i := 16) (v := undef) rfl (by kernel_rfl) (fun _ _ _ h => h) (Or.inr ⟨by kernel_rfl, rfl⟩) HS ?_
      try simp only [Act.put, List.setIfInBounds_toArray, List.set_cons_zero, List.set_cons_succ]
      refine wpAnyT_take (i := 17) (v := undef) rfl (by kernel_rfl) (fun _ _ _ h => h) (Or.inr ⟨by kernel_rfl, rfl⟩) HS ?_
      try simp only [Act.put, List.setIfInBounds_toArray, List.set_cons_zero, List.set_cons_succ]
      refine wpAnyT_take (i := 18) (v := undef) rfl (by kernel_rfl) (fun _ _ _ h => h) (Or.inr ⟨by kernel_rfl, rfl⟩) HS ?_
      try simp only [Act.put, List.setIfInBounds_toArray, List.set_cons_zero, List.set_cons_succ]
      refine wpAnyT_take (i := 19) (v := undef) rfl (by kernel_rfl) (fun _ _ _ h => h) (Or.inr ⟨by kernel_rfl, rfl⟩) HS ?_
      try simp only [Act.put, List.setIfInBounds_toArray, List.set_cons_zero, List.set_cons_succ]
      refine wpAnyT_take (i := 20) (v := ?vv70) rfl (by kernel_rfl) (fun _ _ _ h => h) (Or.inl ⟨by rfl, fun w hSw => ?yy70⟩) HS ?rr70
      case yy70 =>
        (try dsimp only at hSw); go_simp
        try with_reducible rfl
      try simp only [Act.put, List.setIfInBounds_toArray, List.set_cons_zero, List.set_cons_succ]
      refine wpAnyT_take (i := 21) (v := ?vv71) rfl (by kernel_rfl) (fun _ _ _ h => h) (Or.inl ⟨by rfl, fun w hSw => ?yy71⟩) HS ?rr71
      case yy71 =>
        (try dsimp only at hSw); go_simp
        try with_reducible rfl
      try simp only [Act.put, List.setIfInBounds_toArray, List.set_cons_zero, List.set_cons_succ]
      refine wpAnyT_take (i := 22) (v := undef) rfl (by kernel_rfl) (fun _ _ _ h => h) (Or.inr ⟨by kernel_rfl, rfl⟩) HS ?_
      try simp only [Act.put, List.setIfInBounds_toArray, List.set_cons_zero, List.set_cons_succ]
      refine wpAnyT_take (i := 23) (v := undef) rfl (by kernel_rfl) (fun _ _ _ h => h) (Or.inr ⟨by kernel_rfl, rfl⟩) HS ?_
      try simp only [Act.put, List.setIfInBounds_toArray, List.set_cons_zero, List.set_cons_succ]
      refine wpAnyT_take (i := 24) (v := undef) rfl (by kernel_rfl) (fun _ _ _ h => h) (Or.inr ⟨by kernel_rfl, rfl⟩) HS ?_
      try simp only [Act.put, List.setIfInBounds_toArray, List.set_cons_zero, List.set_cons_succ]
      refine wpAnyT_take (i := 25) (v := undef) rfl (by kernel_rfl) (fun _ _ _ h => h) (Or.inr ⟨by kernel_rfl, rfl⟩) HS ?_
      try simp only [Act.put, List.setIfInBounds_toArray, List.set_cons_zero, List.set_cons_succ]
      refine wpAnyT_take (i := 26) (v := undef) rfl (by kernel_rfl) (fun _ _ _ h => h) (Or.inr ⟨by kernel_rfl, rfl⟩) HS ?_
      try simp only [Act.put, List.setIfInBounds_toArray, List.set_cons_zero, List.set_cons_succ]
      refine wpAnyT_take (i := 27) (v := undef) rfl (by kernel_rfl) (fun _ _ _ h => h) (Or.inr ⟨by kernel_rfl, rfl⟩) HS ?_
      try simp only [Act.put, List.setIfInBounds_toArray, List.set_cons_zero, List.set_cons_succ]
      refine wpAnyT_take (i := 28) (v := undef) rfl (by kernel_rfl) (fun _ _ _ h => h) (Or.inr ⟨by kernel_rfl, rfl⟩) HS ?_
      try simp only [Act.put, List.setIfInBounds_toArray, List.set_cons_zero, List.set_cons_succ]
      refine wpAnyT_take (i := 29) (v := undef) rfl (by kernel_rfl) (fun _ _ _ h => h) (Or.inr ⟨by kernel_rfl, rfl⟩) HS ?_
      try simp only [Act.put, List.setIfInBounds_toArray, List.set_cons_zero, List.set_cons_succ]
      refine wpAnyT_take (i := 30) (v := undef) rfl (by kernel_rfl) (fun _ _ _ h => h) (Or.inr ⟨by kernel_rfl, rfl⟩) HS ?_
      try simp only [Act.put, List.setIfInBounds_toArray, List.set_cons_zero, List.set_cons_succ]
      refine ⟨by kernel_rfl, ?_⟩
      simp only [List.drop_succ_cons, List.drop_zero]
      clear HS
      go_wp2_with fail
      go_ret
      exact ⟨fin (isF (fun h => (head_chain hchn).1 h.ch ⟨by omega, by rw [hf0]; exact HA.out⟩)), b1d⟩
    case neg =>
      have d2 : decide (f0 < base) = false := decide_eq_false hA
      have notA := Lib.hid (show ¬ (0 < gl.length ∧ (sp gl 0).1 < base) from fun h => hA (by rw [← hf0]; exact h.2))
      clear hA
      by_cases hBt : E < U
      case pos =>
        have uE : decide (E < U) = true := decide_eq_true hBt
        have HBt := Lib.hid hBt; clear hBt
        go_wp2_with fail
        refine wp_region_tail 31 32 (fun w' : World => w'.cell? ⟨B, 0, none⟩ = some (.int .i64 base) ∧ w'.cell? ⟨B, 1, none⟩ = some (.slice A n c) ∧ w'.cell? ⟨B, 2, none⟩ = some (.slice (some ⟨gb, go, none⟩) m d) ∧ w'.cell? ⟨B, 3, none⟩ = some (.int .i64 cap) ∧ w'.cell? ⟨B, 4, none⟩ = some (.int .i64 en) ∧ w'.cell? ⟨gb, go, none⟩ = some (.int .i64 f0)) (by kernel_rfl) (by rfl) (by decide) ?_
        have HS : ((fun w' : World => w'.cell? ⟨B, 0, none⟩ = some (.int .i64 base) ∧ w'.cell? ⟨B, 1, none⟩ = some (.slice A n c) ∧ w'.cell? ⟨B, 2, none⟩ = some (.slice (some ⟨gb, go, none⟩) m d) ∧ w'.cell? ⟨B, 3, none⟩ = some (.int .i64 cap) ∧ w'.cell? ⟨B, 4, none⟩ = some (.int .i64 en) ∧ w'.cell? ⟨gb, go, none⟩ = some (.int .i64 f0))) _ := ⟨e1d.cell 0 rfl, e1d.cell 1 rfl, e1d.cell 2 rfl, e1d.cell 3 rfl, e1d.cell 4 rfl, hG0 b1d⟩
        refine wpAnyT_take (i := 0) (v := ?vv72) rfl (by kernel_rfl) (fun _ _ _ h => h) (Or.inl ⟨by rfl, fun w hSw => ?yy72⟩) HS ?rr72
        case yy72 =>
          (try dsimp only at hSw); go_simp
          try with_reducible rfl
        try simp only [Act.put, List.setIfInBounds_toArray, List.set_cons_zero, List.set_cons_succ]
        refine wpAnyT_take (i := 1) (v := ?vv73) rfl (by kernel_rfl) (fun _ _ _ h => h) (Or.inl ⟨by rfl, fun w hSw => ?yy73⟩) HS ?rr73
        case yy73 =>
          (try dsimp only at hSw); go_simp
          try with_reducible rfl
        try simp only [Act.put, List.setIfInBounds_toArray, List.set_cons_zero, List.set_cons_succ]
        refine wpAnyT_take (i := 2) (v := ?vv74) rfl (by kernel_rfl) (fun _ _ _ h => h) (Or.inl ⟨by rfl, fun w hSw => ?yy74⟩) HS ?rr74
        case yy74 =>
          (try dsimp only at hSw); go_simp
          try with_reducible rfl
        try simp only [Act.put, List.setIfInBounds_toArray, List.set_cons_zero, List.set_cons_succ]
        refine wpAnyT_take (i := 3) (v := ?vv75) rfl (by kernel_rfl) (fun _ _ _ h => h) (Or.inl ⟨by rfl, fun w hSw => ?yy75⟩) HS ?rr75
        case yy75 =>
          (try dsimp only at hSw); go_simp
          try with_reducible rfl
        try simp only [Act.put, List.setIfInBounds_toArray, List.set_cons_zero, List.set_cons_succ]
        refine wpAnyT_take (i := 4) (v := ?vv76) rfl (by kernel_rfl) (fun _ _ _ h => h) (Or.inl ⟨by rfl, fun w hSw => ?yy76⟩) HS ?rr76
        case yy76 =>
          (try dsimp only at hSw); go_simp
          try with_reducible rfl
        try simp only [Act.put, List.setIfInBounds_toArray, List.set_cons_zero, List.set_cons_succ]
        refine wpAnyT_take (i := 5) (v := ?vv77) rfl (by kernel_rfl) (fun _ _ _ h => h) (Or.inl ⟨by rfl, fun w hSw => ?yy77⟩) HS ?rr77
        case yy77 =>
          (try dsimp only at hSw); go_simp
          try with_reducible rfl
        try simp only [Act.put, List.setIfInBounds_toArray, List.set_cons_zero, List.set_cons_succ]
        refine wpAnyT_take (i := 6) (v := ?vv78) rfl (by kernel_rfl) (fun _ _ _ h => h) (Or.inl ⟨by rfl, fun w hSw => ?yy78⟩) HS ?rr78
        case yy78 =>
          (try dsimp only at hSw); go_simp
          try with_reducible rfl
        try simp only [Act.put, List.setIfInBounds_toArray, List.set_cons_zero, List.set_cons_succ]
        refine wpAnyT_take (i := 7) (v := ?vv79) rfl (by kernel_rfl) (fun _ _ _ h => h) (Or.inl ⟨by rfl, fun w hSw => ?yy79⟩) HS ?rr79
        case yy79 =>
          (try dsimp only at hSw); go_simp
          try with_reducible rfl
        try simp only [Act.put, List.setIfInBounds_toArray, List.set_cons_zero, List.set_cons_succ]
        refine wpAnyT_take (i := 8) (v := ?vv80) rfl (by kernel_rfl) (fun _ _ _ h => h) (Or.inl ⟨by rfl, fun w hSw => ?yy80⟩) HS ?rr80
        case yy80 =>
          (try dsimp only at hSw); go_simp
          try with_reducible rfl
        try simp only [Act.put, List.setIfInBounds_toArray, List.set_cons_zero, List.set_cons_succ]
        refine wpAnyT_take (i := 9) (v := ?vv81) rfl (by kernel_rfl) (fun _ _ _ h => h) (Or.inl ⟨by rfl, fun w hSw => ?yy81⟩) HS ?rr81
        case yy81 =>
          (try dsimp only at hSw); go_simp
          try with_reducible rfl
        try simp only [Act.put, List.setIfInBounds_toArray, List.set_cons_zero, List.set_cons_succ]
        refine wpAnyT_take (i := 10) (v := ?vv82) rfl (by kernel_rfl) (fun _ _ _ h => h) (Or.inl ⟨by rfl, fun w hSw => ?yy82⟩) HS ?rr82
        case yy82 =>
          (try dsimp only at hSw); go_simp
          try with_reducible rfl
        try simp only [Act.put, List.setIfInBounds_toArray, List.set_cons_zero, List.set_cons_succ]
        refine wpAnyT_take (i := 11) (v := ?vv83) rfl (by kernel_rfl) (fun _ _ _ h => h) (Or.inl ⟨by rfl, fun w hSw => ?yy83⟩) HS ?rr83
        case yy83 =>
          (try dsimp only at hSw); go_simp
          try with_reducible rfl
        try simp only [Act.put, List.setIfInBounds_toArray, List.set_cons_zero, List.set_cons_succ]
        refine wpAnyT_take (i := 12) (v := ?vv84) rfl (by kernel_rfl) (fun _ _ _ h => h) (Or.inl ⟨by rfl, fun w hSw => ?yy84⟩) HS ?rr84
        case yy84 =>
          (try dsimp only at hSw); go_simp
          try with_reducible rfl
        try simp only [Act.put, List.setIfInBounds_toArray, List.set_cons_zero, List.set_cons_succ]
        refine wpAnyT_take (i := 13) (v := ?vv85) rfl (by kernel_rfl) (fun _ _ _ h => h) (Or.inl ⟨by rfl, fun w hSw => ?yy85⟩) HS ?rr85
        case yy85 =>
          (try dsimp only at hSw); go_simp
          try with_reducible rfl
        try simp only [Act.put, List.setIfInBounds_toArray, List.set_cons_zero, List.set_cons_succ]
        refine wpAnyT_take (i := 14) (v := ?vv86) rfl (by kernel_rfl) (fun _ _ _ h => h) (Or.inl ⟨by rfl, fun w hSw => ?yy86⟩) HS ?rr86
        case yy86 =>
          (try dsimp only at hSw); go_simp
          try with_reducible rfl
        try simp only [Act.put, List.setIfInBounds_toArray, List.set_cons_zero, List.set_cons_succ]
        refine wpAnyT_take (i := 15) (v := ?vv87) rfl (by kernel_rfl) (fun _ _ _ h => h) (Or.inl ⟨by rfl, fun w hSw => ?yy87⟩) HS ?rr87
        case yy87 =>
          (try dsimp only at hSw); go_simp
          try with_reducible rfl
        try simp only [Act.put, List.setIfInBounds_toArray, List.set_cons_zero, List.set_cons_succ]
        refine wpAnyT_take (i := 17) (v := ?vv88) rfl (by kernel_rfl) (fun _ _ _ h => h) (Or.inl ⟨by rfl, fun w hSw => ?yy88⟩) HS ?rr88
        case yy88 =>
          (try dsimp only at hSw); go_simp
          try with_reducible rfl
        try simp only [Act.put, List.setIfInBounds_toArray, List.set_cons_zero, List.set_cons_succ]
        refine wpAnyT_one (k := 16) rfl (by kernel_rfl) (by decide) (fun K hK => ?_)
        go_simp
        refine (hupto _ b1d).mono ?_
        rintro e w2 ⟨rfl, hb2⟩
        have e2 := e1d.kept hb2
        have b2 := b1d.trans (hb2.mono (Nat.le_of_lt e1d.lt))
        have HS : ((fun w' : World => w'.cell? ⟨B, 0, none⟩ = some (.int .i64 base) ∧ w'.cell? ⟨B, 1, none⟩ = some (.slice A n c) ∧ w'.cell? ⟨B, 2, none⟩ = some (.slice (some ⟨gb, go, none⟩) m d) ∧ w'.cell? ⟨B, 3, none⟩ = some (.int .i64 cap) ∧ w'.cell? ⟨B, 4, none⟩ = some (.int .i64 en) ∧ w'.cell? ⟨gb, go, none⟩ = some (.int .i64 f0))) _ := ⟨e2.cell 0 rfl, e2.cell 1 rfl, e2.cell 2 rfl, e2.cell 3 rfl, e2.cell 4 rfl, hG0 b2⟩
        refine hK _ _ HS ?_
        clear hK K
        try simp only [Act.put, List.setIfInBounds_toArray, List.set_cons_zero, List.set_cons_succ]
        refine wpAnyT_one (k := 18) rfl (by kernel_rfl) (by decide) (fun K hK => ?_)
        go_simp
        refine (hedge _).mono ?_
        rintro e w3 ⟨rfl, hb3⟩
        have e3 := e2.kept hb3
        have b3 := b2.trans (hb3.mono (Nat.le_of_lt e2.lt))
        have HS : ((fun w' : World => w'.cell? ⟨B, 0, none⟩ = some (.int .i64 base) ∧ w'.cell? ⟨B, 1, none⟩ = some (.slice A n c) ∧ w'.cell? ⟨B, 2, none⟩ = some (.slice (some ⟨gb, go, none⟩) m d) ∧ w'.cell? ⟨B, 3, none⟩ = some (.int .i64 cap) ∧ w'.cell? ⟨B, 4, none⟩ = some (.int .i64 en) ∧ w'.cell? ⟨gb, go, none⟩ = some (.int .i64 f0))) _ := ⟨e3.cell 0 rfl, e3.cell 1 rfl, e3.cell 2 rfl, e3.cell 3 rfl, e3.cell 4 rfl, hG0 b3⟩
        refine hK _ _ HS ?_
        clear hK K
        try simp only [Act.put, List.setIfInBounds_toArray, List.set_cons_zero, List.set_cons_succ]
        refine wpAnyT_take (i := 19) (v := ?vv89) rfl (by kernel_rfl) (fun _ _ _ h => h) (Or.inl ⟨by rfl, fun w hSw => ?yy89⟩) HS ?rr89
        case yy89 =>
          (try dsimp only at hSw); go_simp
          try with_reducible rfl
        try simp only [Act.put, List.setIfInBounds_toArray, List.set_cons_zero, List.set_cons_succ]
        refine wpAnyT_take (i := 20) (v := ?vv90) rfl (by kernel_rfl) (fun _ _ _ h => h) (Or.inl ⟨by rfl, fun w hSw => ?yy90⟩) HS ?rr90
        case yy90 =>
          (try dsimp only at hSw); go_simp
          try with_reducible rfl
        try simp only [Act.put, List.setIfInBounds_toArray, List.set_cons_zero, List.set_cons_succ]
        refine wpAnyT_take (i := 21) (v := ?vv91) rfl (by kernel_rfl) (fun _ _ _ h => h) (Or.inl ⟨by rfl, fun w hSw => ?yy91⟩) HS ?rr91
        case yy91 =>
          (try dsimp only at hSw); go_simp
          try with_reducible rfl
        try simp only [Act.put, List.setIfInBounds_toArray, List.set_cons_zero, List.set_cons_succ]
        refine wpAnyT_take (i := 22) (v := undef) rfl (by kernel_rfl) (fun _ _ _ h => h) (Or.inr ⟨by kernel_rfl, rfl⟩) HS ?_
        try simp only [Act.put, List.setIfInBounds_toArray, List.set_cons_zero, List.set_cons_succ]
        refine wpAnyT_take (i := 23) (v := undef) rfl (by kernel_rfl) (fun _ _ _ h => h) (Or.inr ⟨by kernel_rfl, rfl⟩) HS ?_
        try simp only [Act.put, List.setIfInBounds_toArray, List.set_cons_zero, List.set_cons_succ]
        refine wpAnyT_take (i := 24) (v := undef) rfl (by kernel_rfl) (fun _ _ _ h => h) (Or.inr ⟨by kernel_rfl, rfl⟩) HS ?_
        try simp only [Act.put, List.setIfInBounds_toArray, List.set_cons_zero, List.set_cons_succ]
        refine wpAnyT_take (i := 25) (v := undef) rfl (by kernel_rfl) (fun _ _ _ h => h) (Or.inr ⟨by kernel_rfl, rfl⟩) HS ?_
        try simp only [Act.put, List.setIfInBounds_toArray, List.set_cons_zero, List.set_cons_succ]
        refine wpAnyT_take (i := 26) (v := undef) rfl (by kernel_rfl) (fun _ _ _ h => h) (Or.inr ⟨by kernel_rfl, rfl⟩) HS ?_
        try simp only [Act.put, List.setIfInBounds_toArray, List.set_cons_zero, List.set_cons_succ]
        refine wpAnyT_take (i := 27) (v := undef) rfl (by kernel_rfl) (fun _ _ _ h => h) (Or.inr ⟨by kernel_rfl, rfl⟩) HS ?_
        try simp only [Act.put, List.setIfInBounds_toArray, List.set_cons_zero, List.set_cons_succ]
        refine wpAnyT_take (i := 28) (v := undef) rfl (by kernel_rfl) (fun _ _ _ h => h) (Or.inr ⟨by kernel_rfl, rfl⟩) HS ?_
        try simp only [Act.put, List.setIfInBounds_toArray, List.set_cons_zero, List.set_cons_succ]
        refine wpAnyT_take (i := 29) (v := undef) rfl (by kernel_rfl) (fun _ _ _ h => h) (Or.inr ⟨by kernel_rfl, rfl⟩) HS ?_
        try simp only [Act.put, List.setIfInBounds_toArray, List.set_cons_zero, List.set_cons_succ]
        refine wpAnyT_take (i := 30) (v := undef) rfl (by kernel_rfl) (fun _ _ _ h => h) (Or.inr ⟨by kernel_rfl, rfl⟩) HS ?_
        try simp only [Act.put, List.setIfInBounds_toArray, List.set_cons_zero, List.set_cons_succ]
        refine ⟨by kernel_rfl, ?_⟩
        simp only [List.drop_succ_cons, List.drop_zero]
        clear HS
        go_wp2_with fail
        go_ret
        exact ⟨fin (isF (fun h => by have := h.up; rw [upE, edE] at this; have := HBt.out; omega)), b3⟩
      case neg =>
        have uE : decide (E < U) = false := decide_eq_false hBt
        have notB := Lib.hid (show U ≤ E by omega)
        clear hBt
        by_cases hC : (n : Int) = U - base
        case neg =>
          have d1 : ((n : Int) != U - base) = true := by simpa using hC
          have HCN := Lib.hid hC; clear hC
          go_wp2_with fail
          refine wp_region_tail 31 32 (fun w' : World => w'.cell? ⟨B, 0, none⟩ = some (.int .i64 base) ∧ w'.cell? ⟨B, 1, none⟩ = some (.slice A n c) ∧ w'.cell? ⟨B, 2, none⟩ = some (.slice (some ⟨gb, go, none⟩) m d) ∧ w'.cell? ⟨B, 3, none⟩ = some (.int .i64 cap) ∧ w'.cell? ⟨B, 4, none⟩ = some (.int .i64 en) ∧ w'.cell? ⟨gb, go, none⟩ = some (.int .i64 f0)) (by kernel_rfl) (by rfl) (by decide) ?_
          have HS : ((fun w' : World => w'.cell? ⟨B, 0, none⟩ = some (.int .i64 base) ∧ w'.cell? ⟨B, 1, none⟩ = some (.slice A n c) ∧ w'.cell? ⟨B, 2, none⟩ = some (.slice (some ⟨gb, go, none⟩) m d) ∧ w'.cell? ⟨B, 3, none⟩ = some (.int .i64 cap) ∧ w'.cell? ⟨B, 4, none⟩ = some (.int .i64 en) ∧ w'.cell? ⟨gb, go, none⟩ = some (.int .i64 f0))) _ := ⟨e1d.cell 0 rfl, e1d.cell 1 rfl, e1d.cell 2 rfl, e1d.cell 3 rfl, e1d.cell 4 rfl, hG0 b1d⟩
          refine wpAnyT_take (i := 0) (v := ?vv92) rfl (by kernel_rfl) (fun _ _ _ h => h) (Or.inl ⟨by rfl, fun w hSw => ?yy92⟩) HS ?rr92
          case yy92 =>
            (try dsimp only at hSw); go_simp
            try with_reducible rfl
          try simp only [Act.put, List.setIfInBounds_toArray, List.set_cons_zero, List.set_cons_succ]
          refine wpAnyT_take (i := 1) (v := ?vv93) rfl (by kernel_rfl) (fun _ _ _ h => h) (Or.inl ⟨by rfl, fun w hSw => ?yy93⟩) HS ?rr93
          case yy93 =>
            (try dsimp only at hSw); go_simp
            try with_reducible rfl
          try simp only [Act.put, List.setIfInBounds_toArray, List.set_cons_zero, List.set_cons_succ]
          refine wpAnyT_take (i := 2) (v := ?vv94) rfl (by kernel_rfl) (fun _ _ _ h => h) (Or.inl ⟨by rfl, fun w hSw => ?yy94⟩) HS ?rr94
          case yy94 =>
            (try dsimp only at hSw); go_simp
            try with_reducible rfl
          try simp only [Act.put, List.setIfInBounds_toArray, List.set_cons_zero, List.set_cons_succ]
          refine wpAnyT_take (i := 3) (v := ?vv95) rfl (by kernel_rfl) (fun _ _ _ h => h) (Or.inl ⟨by rfl, fun w hSw => ?yy95⟩) HS ?rr95
          case yy95 =>
            (try dsimp only at hSw); go_simp
            try with_reducible rfl
          try simp only [Act.put, List.setIfInBounds_toArray, List.set_cons_zero, List.set_cons_succ]
          refine wpAnyT_take (i := 4) (v := ?vv96) rfl (by kernel_rfl) (fun _ _ _ h => h) (Or.inl ⟨by rfl, fun w hSw => ?yy96⟩) HS ?rr96
          case yy96 =>
            (try dsimp only at hSw); go_simp
            try with_reducible rfl
          try simp only [Act.put, List.setIfInBounds_toArray, List.set_cons_zero, List.set_cons_succ]
          refine wpAnyT_take (i := 5) (v := ?vv97) rfl (by kernel_rfl) (fun _ _ _ h => h) (Or.inl ⟨by rfl, fun w hSw => ?yy97⟩) HS ?rr97
          case yy97 =>
            (try dsimp only at hSw); go_simp
            try with_reducible rfl
          try simp only [Act.put, List.setIfInBounds_toArray, List.set_cons_zero, List.set_cons_succ]
          refine wpAnyT_take (i := 6) (v := ?vv98) rfl (by kernel_rfl) (fun _ _ _ h => h) (Or.inl ⟨by rfl, fun w hSw => ?yy98⟩) HS ?rr98
          case yy98 =>
            (try dsimp only at hSw); go_simp
            try with_reducible rfl
          try simp only [Act.put, List.setIfInBounds_toArray, List.set_cons_zero, List.set_cons_succ]
          refine wpAnyT_take (i := 7) (v := ?vv99) rfl (by kernel_rfl) (fun _ _ _ h => h) (Or.inl ⟨by rfl, fun w hSw => ?yy99⟩) HS ?rr99
          case yy99 =>
            (try dsimp only at hSw); go_simp
            try with_reducible rfl
          try simp only [Act.put, List.setIfInBounds_toArray, List.set_cons_zero, List.set_cons_succ]
          refine wpAnyT_take (i := 8) (v := ?vv100) rfl (by kernel_rfl) (fun _ _ _ h => h) (Or.inl ⟨by rfl, fun w hSw => ?yy100⟩) HS ?rr100
          case yy100 =>
            (try dsimp only at hSw); go_simp
            try with_reducible rfl
          try simp only [Act.put, List.setIfInBounds_toArray, List.set_cons_zero, List.set_cons_succ]
          refine wpAnyT_take (i := 9) (v := ?vv101) rfl (by kernel_rfl) (fun _ _ _ h => h) (Or.inl ⟨by rfl, fun w hSw => ?yy101⟩) HS ?rr101
          case yy101 =>
            (try dsimp only at hSw); go_simp
            try with_reducible rfl
          try simp only [Act.put, List.setIfInBounds_toArray, List.set_cons_zero, List.set_cons_succ]
          refine wpAnyT_take (i := 10) (v := ?vv102) rfl (by kernel_rfl) (fun _ _ _ h => h) (Or.inl ⟨by rfl, fun w hSw => ?yy102⟩) HS ?rr102
          case yy102 =>
            (try dsimp only at hSw); go_simp
            try with_reducible rfl
          try simp only [Act.put, List.setIfInBounds_toArray, List.set_cons_zero, List.set_cons_succ]
          refine wpAnyT_take (i := 11) (v := ?vv103) rfl (by kernel_rfl) (fun _ _ _ h => h) (Or.inl ⟨by rfl, fun w hSw => ?yy103⟩) HS ?rr103
          case yy103 =>
            (try dsimp only at hSw); go_simp
            try with_reducible rfl
          try simp only [Act.put, List.setIfInBounds_toArray, List.set_cons_zero, List.set_cons_succ]
          refine wpAnyT_take (i := 12) (v := ?vv104) rfl (by kernel_rfl) (fun _ _ _ h => h) (Or.inl ⟨by rfl, fun w hSw => ?yy104⟩) HS ?rr104
          case yy104 =>
            (try dsimp only at hSw); go_simp
            try with_reducible rfl
          try simp only [Act.put, List.setIfInBounds_toArray, List.set_cons_zero, List.set_cons_succ]
          refine wpAnyT_take (i := 13) (v := ?vv105) rfl (by kernel_rfl) (fun _ _ _ h => h) (Or.inl ⟨by rfl, fun w hSw => ?yy105⟩) HS ?rr105
          case yy105 =>
            (try dsimp only at hSw); go_simp
            try with_reducible rfl
          try simp only [Act.put, List.setIfInBounds_toArray, List.set_cons_zero, List.set_cons_succ]
          refine wpAnyT_take (i := 14) (v := ?vv106) rfl (by kernel_rfl) (fun _ _ _ h => h) (Or.inl ⟨by rfl, fun w hSw => ?yy106⟩) HS ?rr106
          case yy106 =>
            (try dsimp only at hSw); go_simp
            try with_reducible rfl
          try simp only [Act.put, List.setIfInBounds_toArray, List.set_cons_zero, List.set_cons_succ]
          refine wpAnyT_take (i := 15) (v := ?vv107) rfl (by kernel_rfl) (fun _ _ _ h => h) (Or.inl ⟨by rfl, fun w hSw => ?yy107⟩) HS ?rr107
          case yy107 =>
            (try dsimp only at hSw); go_simp
            try with_reducible rfl
          try simp only [Act.put, List.setIfInBounds_toArray, List.set_cons_zero, List.set_cons_succ]
          refine wpAnyT_take (i := 17) (v := ?vv108) rfl (by kernel_rfl) (fun _ _ _ h => h) (Or.inl ⟨by rfl, fun w hSw => ?yy108⟩) HS ?rr108
          case yy108 =>
            (try dsimp only at hSw); go_simp
            try with_reducible rfl
          try simp only [Act.put, List.setIfInBounds_toArray, List.set_cons_zero, List.set_cons_succ]
          refine wpAnyT_one (k := 16) rfl (by kernel_rfl) (by decide) (fun K hK => ?_)
          go_simp
          refine (hupto _ b1d).mono ?_
          rintro e w2 ⟨rfl, hb2⟩
          have e2 := e1d.kept hb2
          have b2 := b1d.trans (hb2.mono (Nat.le_of_lt e1d.lt))
          have HS : ((fun w' : World => w'.cell? ⟨B, 0, none⟩ = some (.int .i64 base) ∧ w'.cell? ⟨B, 1, none⟩ = some (.slice A n c) ∧ w'.cell? ⟨B, 2, none⟩ = some (.slice (some ⟨gb, go, none⟩) m d) ∧ w'.cell? ⟨B, 3, none⟩ = some (.int .i64 cap) ∧ w'.cell? ⟨B, 4, none⟩ = some (.int .i64 en) ∧ w'.cell? ⟨gb, go, none⟩ = some (.int .i64 f0))) _ := ⟨e2.cell 0 rfl, e2.cell 1 rfl, e2.cell 2 rfl, e2.cell 3 rfl, e2.cell 4 rfl, hG0 b2⟩
          refine hK _ _ HS ?_
          clear hK K
          try simp only [Act.put, List.setIfInBounds_toArray, List.set_cons_zero, List.set_cons_succ]
          refine wpAnyT_one (k := 18) rfl (by kernel_rfl) (by decide) (fun K hK => ?_)
          go_simp
          refine (hedge _).mono ?_
          rintro e w3 ⟨rfl, hb3⟩
          have e3 := e2.kept hb3
          have b3 := b2.trans (hb3.mono (Nat.le_of_lt e2.lt))
          have HS : ((fun w' : World => w'.cell? ⟨B, 0, none⟩ = some (.int .i64 base) ∧ w'.cell? ⟨B, 1, none⟩ = some (.slice A n c) ∧ w'.cell? ⟨B, 2, none⟩ = some (.slice (some ⟨gb, go, none⟩) m d) ∧ w'.cell? ⟨B, 3, none⟩ = some (.int .i64 cap) ∧ w'.cell? ⟨B, 4, none⟩ = some (.int .i64 en) ∧ w'.cell? ⟨gb, go, none⟩ = some (.int .i64 f0))) _ := ⟨e3.cell 0 rfl, e3.cell 1 rfl, e3.cell 2 rfl, e3.cell 3 rfl, e3.cell 4 rfl, hG0 b3⟩
          refine hK _ _ HS ?_
          clear hK K
          try simp only [Act.put, List.setIfInBounds_toArray, List.set_cons_zero, List.set_cons_succ]
          refine wpAnyT_take (i := 19) (v := ?vv109) rfl (by kernel_rfl) (fun _ _ _ h => h) (Or.inl ⟨by rfl, fun w hSw => ?yy109⟩) HS ?rr109
          case yy109 =>
            (try dsimp only at hSw); go_simp
            try with_reducible rfl
          try simp only [Act.put, List.setIfInBounds_toArray, List.set_cons_zero, List.set_cons_succ]
          refine wpAnyT_take (i := 20) (v := ?vv110) rfl (by kernel_rfl) (fun _ _ _ h => h) (Or.inl ⟨by rfl, fun w hSw => ?yy110⟩) HS ?rr110
          case yy110 =>
            (try dsimp only at hSw); go_simp
            try with_reducible rfl
          try simp only [Act.put, List.setIfInBounds_toArray, List.set_cons_zero, List.set_cons_succ]
          refine wpAnyT_take (i := 21) (v := ?vv111) rfl (by kernel_rfl) (fun _ _ _ h => h) (Or.inl ⟨by rfl, fun w hSw => ?yy111⟩) HS ?rr111
          case yy111 =>
            (try dsimp only at hSw); go_simp
            try with_reducible rfl
          try simp only [Act.put, List.setIfInBounds_toArray, List.set_cons_zero, List.set_cons_succ]
          refine wpAnyT_take (i := 22) (v := ?vv112) rfl (by kernel_rfl) (fun _ _ _ h => h) (Or.inl ⟨by rfl, fun w hSw => ?yy112⟩) HS ?rr112
          case yy112 =>
            (try dsimp only at hSw); go_simp
            try with_reducible rfl
          try simp only [Act.put, List.setIfInBounds_toArray, List.set_cons_zero, List.set_cons_succ]
          refine wpAnyT_take (i := 23) (v := ?vv113) rfl (by kernel_rfl) (fun _ _ _ h => h) (Or.inl ⟨by rfl, fun w hSw => ?yy113⟩) HS ?rr113
          case yy113 =>
            (try dsimp only at hSw); go_simp
            try with_reducible rfl
          try simp only [Act.put, List.setIfInBounds_toArray, List.set_cons_zero, List.set_cons_succ]
          refine wpAnyT_take (i := 24) (v := ?vv114) rfl (by kernel_rfl) (fun _ _ _ h => h) (Or.inl ⟨by rfl, fun w hSw => ?yy114⟩) HS ?rr114
          case yy114 =>
            (try dsimp only at hSw); go_simp
            try with_reducible rfl
          try simp only [Act.put, List.setIfInBounds_toArray, List.set_cons_zero, List.set_cons_succ]
          refine wpAnyT_take (i := 25) (v := ?vv115) rfl (by kernel_rfl) (fun _ _ _ h => h) (Or.inl ⟨by rfl, fun w hSw => ?yy115⟩) HS ?rr115
          case yy115 =>
            (try dsimp only at hSw); go_simp
            try with_reducible rfl
          try simp only [Act.put, List.setIfInBounds_toArray, List.set_cons_zero, List.set_cons_succ]
          refine wpAnyT_take (i := 27) (v := ?vv116) rfl (by kernel_rfl) (fun _ _ _ h => h) (Or.inl ⟨by rfl, fun w hSw => ?yy116⟩) HS ?rr116
          case yy116 =>
            (try dsimp only at hSw); go_simp
            try with_reducible rfl
          try simp only [Act.put, List.setIfInBounds_toArray, List.set_cons_zero, List.set_cons_succ]
          refine wpAnyT_take (i := 28) (v := ?vv117) rfl (by kernel_rfl) (fun _ _ _ h => h) (Or.inl ⟨by rfl, fun w hSw => ?yy117⟩) HS ?rr117
          case yy117 =>
            (try dsimp only at hSw); go_simp
            try with_reducible rfl
          try simp only [Act.put, List.setIfInBounds_toArray, List.set_cons_zero, List.set_cons_succ]
          refine wpAnyT_one (k := 26) rfl (by kernel_rfl) (by decide) (fun K hK => ?_)
          go_simp
          refine (hupto _ b3).mono ?_
          rintro e w4 ⟨rfl, hb4⟩
          have e4 := e3.kept hb4
          have b4 := b3.trans (hb4.mono (Nat.le_of_lt e3.lt))
          have HS : ((fun w' : World => w'.cell? ⟨B, 0, none⟩ = some (.int .i64 base) ∧ w'.cell? ⟨B, 1, none⟩ = some (.slice A n c) ∧ w'.cell? ⟨B, 2, none⟩ = some (.slice (some ⟨gb, go, none⟩) m d) ∧ w'.cell? ⟨B, 3, none⟩ = some (.int .i64 cap) ∧ w'.cell? ⟨B, 4, none⟩ = some (.int .i64 en) ∧ w'.cell? ⟨gb, go, none⟩ = some (.int .i64 f0))) _ := ⟨e4.cell 0 rfl, e4.cell 1 rfl, e4.cell 2 rfl, e4.cell 3 rfl, e4.cell 4 rfl, hG0 b4⟩
          refine hK _ _ HS ?_
          clear hK K
          try simp only [Act.put, List.setIfInBounds_toArray, List.set_cons_zero, List.set_cons_succ]
          refine wpAnyT_take (i := 29) (v := ?vv118) rfl (by kernel_rfl) (fun _ _ _ h => h) (Or.inl ⟨by rfl, fun w hSw => ?yy118⟩) HS ?rr118
          case yy118 =>
            (try dsimp only at hSw); go_simp
            try with_reducible rfl
          try simp only [Act.put, List.setIfInBounds_toArray, List.set_cons_zero, List.set_cons_succ]
          refine wpAnyT_take (i := 30) (v := ?vv119) rfl (by kernel_rfl) (fun _ _ _ h => h) (Or.inl ⟨by rfl, fun w hSw => ?yy119⟩) HS ?rr119
          case yy119 =>
            (try dsimp only at hSw); go_simp
            try with_reducible rfl
          try simp only [Act.put, List.setIfInBounds_toArray, List.set_cons_zero, List.set_cons_succ]
          refine ⟨by kernel_rfl, ?_⟩
          simp only [List.drop_succ_cons, List.drop_zero]
          clear HS
          go_wp2_with fail
          go_ret
          exact ⟨fin (isF (fun h => HCN.out (by have := h.blen; rw [upE] at this; rw [← hbl]; exact this))), b4⟩
        case pos =>
          have d1 : ((n : Int) != U - base) = false := by simpa using hC
          have HC := Lib.hid hC
          clear hC
          go_wp2_with fail
          refine wp_region_tail 31 32 (fun w' : World => w'.cell? ⟨B, 0, none⟩ = some (.int .i64 base) ∧ w'.cell? ⟨B, 1, none⟩ = some (.slice A n c) ∧ w'.cell? ⟨B, 2, none⟩ = some (.slice (some ⟨gb, go, none⟩) m d) ∧ w'.cell? ⟨B, 3, none⟩ = some (.int .i64 cap) ∧ w'.cell? ⟨B, 4, none⟩ = some (.int .i64 en) ∧ w'.cell? ⟨gb, go, none⟩ = some (.int .i64 f0)) (by kernel_rfl) (by rfl) (by decide) ?_
          have HS : ((fun w' : World => w'.cell? ⟨B, 0, none⟩ = some (.int .i64 base) ∧ w'.cell? ⟨B, 1, none⟩ = some (.slice A n c) ∧ w'.cell? ⟨B, 2, none⟩ = some (.slice (some ⟨gb, go, none⟩) m d) ∧ w'.cell? ⟨B, 3, none⟩ = some (.int .i64 cap) ∧ w'.cell? ⟨B, 4, none⟩ = some (.int .i64 en) ∧ w'.cell? ⟨gb, go, none⟩ = some (.int .i64 f0))) _ := ⟨e1d.cell 0 rfl, e1d.cell 1 rfl, e1d.cell 2 rfl, e1d.cell 3 rfl, e1d.cell 4 rfl, hG0 b1d⟩
          refine wpAnyT_take (i := 0) (v := ?vv120) rfl (by kernel_rfl) (fun _ _ _ h => h) (Or.inl ⟨by rfl, fun w hSw => ?yy120⟩) HS ?rr120
          case yy120 =>
            (try dsimp only at hSw); go_simp
            try with_reducible rfl
          try simp only [Act.put, List.setIfInBounds_toArray, List.set_cons_zero, List.set_cons_succ]
          refine wpAnyT_take (i := 1) (v := ?vv121) rfl (by kernel_rfl) (fun _ _ _ h => h) (Or.inl ⟨by rfl, fun w hSw => ?yy121⟩) HS ?rr121
          case yy121 =>
            (try dsimp only at hSw); go_simp
            try with_reducible rfl
          try simp only [Act.put, List.setIfInBounds_toArray, List.set_cons_zero, List.set_cons_succ]
          refine wpAnyT_take (i := 2) (v := ?vv122) rfl (by kernel_rfl) (fun _ _ _ h => h) (Or.inl ⟨by rfl, fun w hSw => ?yy122⟩) HS ?rr122
          case yy122 =>
            (try dsimp only at hSw); go_simp
            try with_reducible rfl
          try simp only [Act.put, List.setIfInBounds_toArray, List.set_cons_zero, List.set_cons_succ]
          refine wpAnyT_take (i := 3) (v := ?vv123) rfl (by kernel_rfl) (fun _ _ _ h => h) (Or.inl ⟨by rfl, fun w hSw => ?yy123⟩) HS ?rr123
          case yy123 =>
            (try dsimp only at hSw); go_simp
            try with_reducible rfl
          try simp only [Act.put, List.setIfInBounds_toArray, List.set_cons_zero, List.set_cons_succ]
          refine wpAnyT_take (i := 4) (v := ?vv124) rfl (by kernel_rfl) (fun _ _ _ h => h) (Or.inl ⟨by rfl, fun w hSw => ?yy124⟩) HS ?rr124
          case yy124 =>
            (try dsimp only at hSw); go_simp
            try with_reducible rfl
          try simp only [Act.put, List.setIfInBounds_toArray, List.set_cons_zero, List.set_cons_succ]
          refine wpAnyT_take (i := 5) (v := ?vv125) rfl (by kernel_rfl) (fun _ _ _ h => h) (Or.inl ⟨by rfl, fun w hSw => ?yy125⟩) HS ?rr125
          case yy125 =>
            (try dsimp only at hSw); go_simp
            try with_reducible rfl
          try simp only [Act.put, List.setIfInBounds_toArray, List.set_cons_zero, List.set_cons_succ]
          refine wpAnyT_take (i := 6) (v := ?vv126) rfl (by kernel_rfl) (fun _ _ _ h => h) (Or.inl ⟨by rfl, fun w hSw => ?yy126⟩) HS ?rr126
          case yy126 =>
            (try dsimp only at hSw); go_simp
            try with_reducible rfl
          try simp only [Act.put, List.setIfInBounds_toArray, List.set_cons_zero, List.set_cons_succ]
          refine wpAnyT_take (i := 7) (v := ?vv127) rfl (by kernel_rfl) (fun _ _ _ h => h) (Or.inl ⟨by rfl, fun w hSw => ?yy127⟩) HS ?rr127
          case yy127 =>
            (try dsimp only at hSw); go_simp
            try with_reducible rfl
          try simp only [Act.put, List.setIfInBounds_toArray, List.set_cons_zero, List.set_cons_succ]
          refine wpAnyT_take (i := 8) (v := ?vv128) rfl (by kernel_rfl) (fun _ _ _ h => h) (Or.inl ⟨by rfl, fun w hSw => ?yy128⟩) HS ?rr128
          case yy128 =>
            (try dsimp only at hSw); go_simp
            try with_reducible rfl
          try simp only [Act.put, List.setIfInBounds_toArray, List.set_cons_zero, List.set_cons_succ]
          refine wpAnyT_take (i := 9) (v := ?vv129) rfl (by kernel_rfl) (fun _ _ _ h => h) (Or.inl ⟨by rfl, fun w hSw => ?yy129⟩) HS ?rr129
          case yy129 =>
            (try dsimp only at hSw); go_simp
            try with_reducible rfl
          try simp only [Act.put, List.setIfInBounds_toArray, List.set_cons_zero, List.set_cons_succ]
          refine wpAnyT_take (i := 10) (v := ?vv130) rfl (by kernel_rfl) (fun _ _ _ h => h) (Or.inl ⟨by rfl, fun w hSw => ?yy130⟩) HS ?rr130
          case yy130 =>
            (try dsimp only at hSw); go_simp
            try with_reducible rfl
          try simp only [Act.put, List.setIfInBounds_toArray, List.set_cons_zero, List.set_cons_succ]
          refine wpAnyT_take (i := 11) (v := ?vv131) rfl (by kernel_rfl) (fun _ _ _ h => h) (Or.inl ⟨by rfl, fun w hSw => ?yy131⟩) HS ?rr131
          case yy131 =>
            (try dsimp only at hSw); go_simp
            try with_reducible rfl
          try simp only [Act.put, List.setIfInBounds_toArray, List.set_cons_zero, List.set_cons_succ]
          refine wpAnyT_take (i := 12) (v := ?vv132) rfl (by kernel_rfl) (fun _ _ _ h => h) (Or.inl ⟨by rfl, fun w hSw => ?yy132⟩) HS ?rr132
          case yy132 =>
            (try dsimp only at hSw); go_simp
            try with_reducible rfl
          try simp only [Act.put, List.setIfInBounds_toArray, List.set_cons_zero, List.set_cons_succ]
          refine wpAnyT_take (i := 13) (v := ?vv133) rfl (by kernel_rfl) (fun _ _ _ h => h) (Or.inl ⟨by rfl, fun w hSw => ?yy133⟩) HS ?rr133
          case yy133 =>
            (try dsimp only at hSw); go_simp
            try with_reducible rfl
          try simp only [Act.put, List.setIfInBounds_toArray, List.set_cons_zero, List.set_cons_succ]
          refine wpAnyT_take (i := 14) (v := ?vv134) rfl (by kernel_rfl) (fun _ _ _ h => h) (Or.inl ⟨by rfl, fun w hSw => ?yy134⟩) HS ?rr134
          case yy134 =>
            (try dsimp only at hSw); go_simp
            try with_reducible rfl
          try simp only [Act.put, List.setIfInBounds_toArray, List.set_cons_zero, List.set_cons_succ]
          refine wpAnyT_take (i := 15) (v := ?vv135) rfl (by kernel_rfl) (fun _ _ _ h => h) (Or.inl ⟨by rfl, fun w hSw => ?yy135⟩) HS ?rr135
          case yy135 =>
            (try dsimp only at hSw); go_simp
            try with_reducible rfl
          try simp only [Act.put, List.setIfInBounds_toArray, List.set_cons_zero, List.set_cons_succ]
          refine wpAnyT_take (i := 17) (v := ?vv136) rfl (by kernel_rfl) (fun _ _ _ h => h) (Or.inl ⟨by rfl, fun w hSw => ?yy136⟩) HS ?rr136
          case yy136 =>
            (try dsimp only at hSw); go_simp
            try with_reducible rfl
          try simp only [Act.put, List.setIfInBounds_toArray, List.set_cons_zero, List.set_cons_succ]
          refine wpAnyT_one (k := 16) rfl (by kernel_rfl) (by decide) (fun K hK => ?_)
          go_simp
          refine (hupto _ b1d).mono ?_
          rintro e w2 ⟨rfl, hb2⟩
          have e2 := e1d.kept hb2
          have b2 := b1d.trans (hb2.mono (Nat.le_of_lt e1d.lt))
          have HS : ((fun w' : World => w'.cell? ⟨B, 0, none⟩ = some (.int .i64 base) ∧ w'.cell? ⟨B, 1, none⟩ = some (.slice A n c) ∧ w'.cell? ⟨B, 2, none⟩ = some (.slice (some ⟨gb, go, none⟩) m d) ∧ w'.cell? ⟨B, 3, none⟩ = some (.int .i64 cap) ∧ w'.cell? ⟨B, 4, none⟩ = some (.int .i64 en) ∧ w'.cell? ⟨gb, go, none⟩ = some (.int .i64 f0))) _ := ⟨e2.cell 0 rfl, e2.cell 1 rfl, e2.cell 2 rfl, e2.cell 3 rfl, e2.cell 4 rfl, hG0 b2⟩
          refine hK _ _ HS ?_
          clear hK K
          try simp only [Act.put, List.setIfInBounds_toArray, List.set_cons_zero, List.set_cons_succ]
          refine wpAnyT_one (k := 18) rfl (by kernel_rfl) (by decide) (fun K hK => ?_)
          go_simp
          refine (hedge _).mono ?_
          rintro e w3 ⟨rfl, hb3⟩
          have e3 := e2.kept hb3
          have b3 := b2.trans (hb3.mono (Nat.le_of_lt e2.lt))
          have HS : ((fun w' : World => w'.cell? ⟨B, 0, none⟩ = some (.int .i64 base) ∧ w'.cell? ⟨B, 1, none⟩ = some (.slice A n c) ∧ w'.cell? ⟨B, 2, none⟩ = some (.slice (some ⟨gb, go, none⟩) m d) ∧ w'.cell? ⟨B, 3, none⟩ = some (.int .i64 cap) ∧ w'.cell? ⟨B, 4, none⟩ = some (.int .i64 en) ∧ w'.cell? ⟨gb, go, none⟩ = some (.int .i64 f0))) _ := ⟨e3.cell 0 rfl, e3.cell 1 rfl, e3.cell 2 rfl, e3.cell 3 rfl, e3.cell 4 rfl, hG0 b3⟩
          refine hK _ _ HS ?_
          clear hK K
          try simp only [Act.put, List.setIfInBounds_toArray, List.set_cons_zero, List.set_cons_succ]
          refine wpAnyT_take (i := 19) (v := ?vv137) rfl (by kernel_rfl) (fun _ _ _ h => h) (Or.inl ⟨by rfl, fun w hSw => ?yy137⟩) HS ?rr137
          case yy137 =>
            (try dsimp only at hSw); go_simp
            try with_reducible rfl
          try simp only [Act.put, List.setIfInBounds_toArray, List.set_cons_zero, List.set_cons_succ]
          refine wpAnyT_take (i := 20) (v := ?vv138) rfl (by kernel_rfl) (fun _ _ _ h => h) (Or.inl ⟨by rfl, fun w hSw => ?yy138⟩) HS ?rr138
          case yy138 =>
            (try dsimp only at hSw); go_simp
            try with_reducible rfl
          try simp only [Act.put, List.setIfInBounds_toArray, List.set_cons_zero, List.set_cons_succ]
          refine wpAnyT_take (i := 21) (v := ?vv139) rfl (by kernel_rfl) (fun _ _ _ h => h) (Or.inl ⟨by rfl, fun w hSw => ?yy139⟩) HS ?rr139
          case yy139 =>
            (try dsimp only at hSw); go_simp
            try with_reducible rfl
          try simp only [Act.put, List.setIfInBounds_toArray, List.set_cons_zero, List.set_cons_succ]
          refine wpAnyT_take (i := 22) (v := ?vv140) rfl (by kernel_rfl) (fun _ _ _ h => h) (Or.inl ⟨by rfl, fun w hSw => ?yy140⟩) HS ?rr140
          case yy140 =>
            (try dsimp only at hSw); go_simp
            try with_reducible rfl
          try simp only [Act.put, List.setIfInBounds_toArray, List.set_cons_zero, List.set_cons_succ]
          refine wpAnyT_take (i := 23) (v := ?vv141) rfl (by kernel_rfl) (fun _ _ _ h => h) (Or.inl ⟨by rfl, fun w hSw => ?yy141⟩) HS ?rr141
          case yy141 =>
            (try dsimp only at hSw); go_simp
            try with_reducible rfl
          try simp only [Act.put, List.setIfInBounds_toArray, List.set_cons_zero, List.set_cons_succ]
          refine wpAnyT_take (i := 24) (v := ?vv142) rfl (by kernel_rfl) (fun _ _ _ h => h) (Or.inl ⟨by rfl, fun w hSw => ?yy142⟩) HS ?rr142
          case yy142 =>
            (try dsimp only at hSw); go_simp
            try with_reducible rfl
          try simp only [Act.put, List.setIfInBounds_toArray, List.set_cons_zero, List.set_cons_succ]
          refine wpAnyT_take (i := 25) (v := ?vv143) rfl (by kernel_rfl) (fun _ _ _ h => h) (Or.inl ⟨by rfl, fun w hSw => ?yy143⟩) HS ?rr143
          case yy143 =>
            (try dsimp only at hSw); go_simp
            try with_reducible rfl
          try simp only [Act.put, List.setIfInBounds_toArray, List.set_cons_zero, List.set_cons_succ]
          refine wpAnyT_take (i := 27) (v := ?vv144) rfl (by kernel_rfl) (fun _ _ _ h => h) (Or.inl ⟨by rfl, fun w hSw => ?yy144⟩) HS ?rr144
          case yy144 =>
            (try dsimp only at hSw); go_simp
            try with_reducible rfl
          try simp only [Act.put, List.setIfInBounds_toArray, List.set_cons_zero, List.set_cons_succ]
          refine wpAnyT_take (i := 28) (v := ?vv145) rfl (by kernel_rfl) (fun _ _ _ h => h) (Or.inl ⟨by rfl, fun w hSw => ?yy145⟩) HS ?rr145
          case yy145 =>
            (try dsimp only at hSw); go_simp
            try with_reducible rfl
          try simp only [Act.put, List.setIfInBounds_toArray, List.set_cons_zero, List.set_cons_succ]
          refine wpAnyT_one (k := 26) rfl (by kernel_rfl) (by decide) (fun K hK => ?_)
          go_simp
          refine (hupto _ b3).mono ?_
          rintro e w4 ⟨rfl, hb4⟩
          have e4 := e3.kept hb4
          have b4 := b3.trans (hb4.mono (Nat.le_of_lt e3.lt))
          have HS : ((fun w' : World => w'.cell? ⟨B, 0, none⟩ = some (.int .i64 base) ∧ w'.cell? ⟨B, 1, none⟩ = some (.slice A n c) ∧ w'.cell? ⟨B, 2, none⟩ = some (.slice (some ⟨gb, go, none⟩) m d) ∧ w'.cell? ⟨B, 3, none⟩ = some (.int .i64 cap) ∧ w'.cell? ⟨B, 4, none⟩ = some (.int .i64 en) ∧ w'.cell? ⟨gb, go, none⟩ = some (.int .i64 f0))) _ := ⟨e4.cell 0 rfl, e4.cell 1 rfl, e4.cell 2 rfl, e4.cell 3 rfl, e4.cell 4 rfl, hG0 b4⟩
          refine hK _ _ HS ?_
          clear hK K
          try simp only [Act.put, List.setIfInBounds_toArray, List.set_cons_zero, List.set_cons_succ]
          refine wpAnyT_take (i := 29) (v := ?vv146) rfl (by kernel_rfl) (fun _ _ _ h => h) (Or.inl ⟨by rfl, fun w hSw => ?yy146⟩) HS ?rr146
          case yy146 =>
            (try dsimp only at hSw); go_simp
            try with_reducible rfl
          try simp only [Act.put, List.setIfInBounds_toArray, List.set_cons_zero, List.set_cons_succ]
          refine wpAnyT_take (i := 30) (v := ?vv147) rfl (by kernel_rfl) (fun _ _ _ h => h) (Or.inl ⟨by rfl, fun w hSw => ?yy147⟩) HS ?rr147
          case yy147 =>
            (try dsimp only at hSw); go_simp
            try with_reducible rfl
          try simp only [Act.put, List.setIfInBounds_toArray, List.set_cons_zero, List.set_cons_succ]
          refine ⟨by kernel_rfl, ?_⟩
          simp only [List.drop_succ_cons, List.drop_zero]
          clear HS
          go_wp2_with fail
          have notA' := notA
          go_loopw [4] (fun i wr => ∃ k : Nat, k ≤ n ∧ i = .int .i64 k ∧ (∀ j : Nat, j < k → byt bl j = 0 ∨ inL gl (base + j)) ∧ Bx wr B 25 [.int .i64 base, .slice A n c, .slice (some ⟨gb, go, none⟩) m d, .int .i64 cap, .int .i64 en] ∧ Below B w wr) (fun i _ => n - (intOf i).toNat)
          case atStart => exact ⟨0, Nat.zero_le _, rfl, fun j hj => by omega, e4, b4⟩
          case round =>
            obtain ⟨k, hk, rfl, hok, e5, b5⟩ := hrel
            have HOK := Lib.hid hok; clear hok
            have y0 := e5.cell 0 rfl
            have y1 := e5.cell 1 rfl
            have y2 := e5.cell 2 rfl
            by_cases hlt : k < n
            · obtain ⟨bb, bo, hA', hbb, hcb⟩ := hb.rd.at_ (by omega)
              have hcell := (b5.cell (p := ⟨bb, bo + k, none⟩) (by rw [← hB]; exact hbb)).trans (hcb k hlt)
              obtain ⟨x, hx⟩ : ∃ x, byt bl k = x := ⟨_, rfl⟩
              rw [hx] at hcell
              have HX := Lib.hid hx; clear hx
              have qs : base + (k : Int) ≤ 9223372036854775807 := by omega
              subst hA'
              clear hcb
              by_cases hx0 : x = 0
              · have dx : (x != (0 : Int)) = false := by simpa using hx0
                have HX0 := Lib.hid hx0; clear hx0
                go_wp2_with fail
                go_roundw
                case rel =>
                  refine ⟨k + 1, by omega, by go_num, fun j hj => ?_, e5, b5⟩
                  by_cases h : j < k
                  · exact HOK.out j h
                  · obtain rfl : j = k := by omega
                    exact .inl (HX.out.trans HX0.out)
                case measure => simp [intOf]; omega
              · have dx : (x != (0 : Int)) = true := by simpa using hx0
                have HX0 := Lib.hid hx0; clear hx0
                cases hin : inB gl (base + (k : Int)) with
                | true =>
                  go_wp2_with fail
                  refine (rin_any _ m d gl (base + k) _ (hgk b5)).mono ?_
                  rintro e w6 ⟨he, rfl⟩
                  rw [hin] at he
                  subst he
                  have HI := Lib.hid hin; clear hin
                  go_wp2_with fail
                  go_roundw
                  case rel =>
                    refine ⟨k + 1, by omega, by go_num, fun j hj => ?_, e5, b5⟩
                    by_cases h : j < k
                    · exact HOK.out j h
                    · obtain rfl : j = k := by omega
                      exact .inr ((inB_iff _ _).1 HI.out)
                  case measure => simp [intOf]; omega
                | false =>
                  go_wp2_with fail
                  refine (rin_any _ m d gl (base + k) _ (hgk b5)).mono ?_
                  rintro e w6 ⟨he, rfl⟩
                  rw [hin] at he
                  subst he
                  have HI := Lib.hid hin; clear hin
                  go_wp2_with fail
                  go_ret
                  refine ⟨fin (isF (fun h => ?_)), b5⟩
                  rcases h.ok k (by show k < bl.length; omega) with h1 | h1
                  · exact HX0.out (HX.out.symm.trans h1)
                  · rw [(inB_iff _ _).2 h1] at HI; exact absurd HI.out (by simp)
            · obtain rfl : n = k := by omega
              have hVa : (en = -1 ∨ U ≤ en) → Va ⟨base, bl, gl, cap, en⟩ := fun h => ⟨(mayB_parts hm).1, p0, p1, p2, p3, by rw [upE, edE]; exact notB.out, by rw [upE, hbl]; exact HC.out, by rw [upE]; exact h, (head_chain hchn).2 notA.out, fun i hi => HOK.out i (by rw [← hbl]; exact hi)⟩
              go_wp2_with fail
              have e6d := e5.drew
              have b6d := b5.drew
              clear y0 y1 y2
              by_cases hen : en = -1
              · have den : decide (en = -1) = true := decide_eq_true hen
                have den2 : (en == -1) = true := by simpa using hen
                have HEN := Lib.hid hen; clear hen
                refine wp_region_tail 10 11 (fun w' : World => w'.cell? ⟨B, 0, none⟩ = some (.int .i64 base) ∧ w'.cell? ⟨B, 1, none⟩ = some (.slice A n c) ∧ w'.cell? ⟨B, 2, none⟩ = some (.slice (some ⟨gb, go, none⟩) m d) ∧ w'.cell? ⟨B, 3, none⟩ = some (.int .i64 cap) ∧ w'.cell? ⟨B, 4, none⟩ = some (.int .i64 en)) (by kernel_rfl) (by rfl) (by decide) ?_
                have HS : ((fun w' : World => w'.cell? ⟨B, 0, none⟩ = some (.int .i64 base) ∧ w'.cell? ⟨B, 1, none⟩ = some (.slice A n c) ∧ w'.cell? ⟨B, 2, none⟩ = some (.slice (some ⟨gb, go, none⟩) m d) ∧ w'.cell? ⟨B, 3, none⟩ = some (.int .i64 cap) ∧ w'.cell? ⟨B, 4, none⟩ = some (.int .i64 en))) _ := ⟨e6d.cell 0 rfl, e6d.cell 1 rfl, e6d.cell 2 rfl, e6d.cell 3 rfl, e6d.cell 4 rfl⟩
                refine wpAnyT_take (i := 0) (v := ?vv148) rfl (by kernel_rfl) (fun _ _ _ h => h) (Or.inl ⟨by rfl, fun w hSw => ?yy148⟩) HS ?rr148
                case yy148 =>
                  (try dsimp only at hSw); go_simp
                  try with_reducible rfl
                try simp only [Act.put, List.setIfInBounds_toArray, List.set_cons_zero, List.set_cons_succ]
                refine wpAnyT_take (i := 1) (v := ?vv149) rfl (by kernel_rfl) (fun _ _ _ h => h) (Or.inl ⟨by rfl, fun w hSw => ?yy149⟩) HS ?rr149
                case yy149 =>
                  (try dsimp only at hSw); go_simp
                  try with_reducible rfl
                try simp only [Act.put, List.setIfInBounds_toArray, List.set_cons_zero, List.set_cons_succ]
                refine wpAnyT_take (i := 2) (v := ?vv150) rfl (by kernel_rfl) (fun _ _ _ h => h) (Or.inl ⟨by rfl, fun w hSw => ?yy150⟩) HS ?rr150
                case yy150 =>
                  (try dsimp only at hSw); go_simp
                  try with_reducible rfl
                try simp only [Act.put, List.setIfInBounds_toArray, List.set_cons_zero, List.set_cons_succ]
                refine wpAnyT_take (i := 3) (v := ?vv151) rfl (by kernel_rfl) (fun _ _ _ h => h) (Or.inl ⟨by rfl, fun w hSw => ?yy151⟩) HS ?rr151
                case yy151 =>
                  (try dsimp only at hSw); go_simp
                  try with_reducible rfl
                try simp only [Act.put, List.setIfInBounds_toArray, List.set_cons_zero, List.set_cons_succ]
                refine wpAnyT_take (i := 4) (v := undef) rfl (by kernel_rfl) (fun _ _ _ h => h) (Or.inr ⟨by kernel_rfl, rfl⟩) HS ?_
                try simp only [Act.put, List.setIfInBounds_toArray, List.set_cons_zero, List.set_cons_succ]
                refine wpAnyT_take (i := 5) (v := undef) rfl (by kernel_rfl) (fun _ _ _ h => h) (Or.inr ⟨by kernel_rfl, rfl⟩) HS ?_
                try simp only [Act.put, List.setIfInBounds_toArray, List.set_cons_zero, List.set_cons_succ]
                refine wpAnyT_take (i := 6) (v := undef) rfl (by kernel_rfl) (fun _ _ _ h => h) (Or.inr ⟨by kernel_rfl, rfl⟩) HS ?_
                try simp only [Act.put, List.setIfInBounds_toArray, List.set_cons_zero, List.set_cons_succ]
                refine wpAnyT_take (i := 7) (v := undef) rfl (by kernel_rfl) (fun _ _ _ h => h) (Or.inr ⟨by kernel_rfl, rfl⟩) HS ?_
                try simp only [Act.put, List.setIfInBounds_toArray, List.set_cons_zero, List.set_cons_succ]
                refine wpAnyT_take (i := 8) (v := undef) rfl (by kernel_rfl) (fun _ _ _ h => h) (Or.inr ⟨by kernel_rfl, rfl⟩) HS ?_
                try simp only [Act.put, List.setIfInBounds_toArray, List.set_cons_zero, List.set_cons_succ]
                refine wpAnyT_take (i := 9) (v := ?vv152) rfl (by kernel_rfl) (fun _ _ _ h => h) (Or.inl ⟨by rfl, fun w hSw => ?yy152⟩) HS ?rr152
                case yy152 =>
                  (try dsimp only at hSw); go_simp
                  try with_reducible rfl
                try simp only [Act.put, List.setIfInBounds_toArray, List.set_cons_zero, List.set_cons_succ]
                refine ⟨by kernel_rfl, ?_⟩
                simp only [List.drop_succ_cons, List.drop_zero]
                clear HS
                go_wp2_with fail
                go_ret
                exact ⟨fin ((wmay_iff _).2 (hVa (.inl HEN.out))).symm, b6d⟩
              · have den : decide (en = -1) = false := decide_eq_false hen
                have den2 : (en == -1) = false := by simpa using hen
                have HEN := Lib.hid hen; clear hen
                refine wp_region_tail 10 11 (fun w' : World => w'.cell? ⟨B, 0, none⟩ = some (.int .i64 base) ∧ w'.cell? ⟨B, 1, none⟩ = some (.slice A n c) ∧ w'.cell? ⟨B, 2, none⟩ = some (.slice (some ⟨gb, go, none⟩) m d) ∧ w'.cell? ⟨B, 3, none⟩ = some (.int .i64 cap) ∧ w'.cell? ⟨B, 4, none⟩ = some (.int .i64 en)) (by kernel_rfl) (by rfl) (by decide) ?_
                have HS : ((fun w' : World => w'.cell? ⟨B, 0, none⟩ = some (.int .i64 base) ∧ w'.cell? ⟨B, 1, none⟩ = some (.slice A n c) ∧ w'.cell? ⟨B, 2, none⟩ = some (.slice (some ⟨gb, go, none⟩) m d) ∧ w'.cell? ⟨B, 3, none⟩ = some (.int .i64 cap) ∧ w'.cell? ⟨B, 4, none⟩ = some (.int .i64 en))) _ := ⟨e6d.cell 0 rfl, e6d.cell 1 rfl, e6d.cell 2 rfl, e6d.cell 3 rfl, e6d.cell 4 rfl⟩
                refine wpAnyT_take (i := 0) (v := ?vv153) rfl (by kernel_rfl) (fun _ _ _ h => h) (Or.inl ⟨by rfl, fun w hSw => ?yy153⟩) HS ?rr153
                case yy153 =>
                  (try dsimp only at hSw); go_simp
                  try with_reducible rfl
                try simp only [Act.put, List.setIfInBounds_toArray, List.set_cons_zero, List.set_cons_succ]
                refine wpAnyT_take (i := 1) (v := ?vv154) rfl (by kernel_rfl) (fun _ _ _ h => h) (Or.inl ⟨by rfl, fun w hSw => ?yy154⟩) HS ?rr154
                case yy154 =>
                  (try dsimp only at hSw); go_simp
                  try with_reducible rfl
                try simp only [Act.put, List.setIfInBounds_toArray, List.set_cons_zero, List.set_cons_succ]
                refine wpAnyT_take (i := 2) (v := ?vv155) rfl (by kernel_rfl) (fun _ _ _ h => h) (Or.inl ⟨by rfl, fun w hSw => ?yy155⟩) HS ?rr155
                case yy155 =>
                  (try dsimp only at hSw); go_simp
                  try with_reducible rfl
                try simp only [Act.put, List.setIfInBounds_toArray, List.set_cons_zero, List.set_cons_succ]
                refine wpAnyT_take (i := 3) (v := ?vv156) rfl (by kernel_rfl) (fun _ _ _ h => h) (Or.inl ⟨by rfl, fun w hSw => ?yy156⟩) HS ?rr156
                case yy156 =>
                  (try dsimp only at hSw); go_simp
                  try with_reducible rfl
                try simp only [Act.put, List.setIfInBounds_toArray, List.set_cons_zero, List.set_cons_succ]
                refine wpAnyT_take (i := 4) (v := ?vv157) rfl (by kernel_rfl) (fun _ _ _ h => h) (Or.inl ⟨by rfl, fun w hSw => ?yy157⟩) HS ?rr157
                case yy157 =>
                  (try dsimp only at hSw); go_simp
                  try with_reducible rfl
                try simp only [Act.put, List.setIfInBounds_toArray, List.set_cons_zero, List.set_cons_succ]
                refine wpAnyT_take (i := 5) (v := ?vv158) rfl (by kernel_rfl) (fun _ _ _ h => h) (Or.inl ⟨by rfl, fun w hSw => ?yy158⟩) HS ?rr158
                case yy158 =>
                  (try dsimp only at hSw); go_simp
                  try with_reducible rfl
                try simp only [Act.put, List.setIfInBounds_toArray, List.set_cons_zero, List.set_cons_succ]
                refine wpAnyT_take (i := 6) (v := ?vv159) rfl (by kernel_rfl) (fun _ _ _ h => h) (Or.inl ⟨by rfl, fun w hSw => ?yy159⟩) HS ?rr159
                case yy159 =>
                  (try dsimp only at hSw); go_simp
                  try with_reducible rfl
                try simp only [Act.put, List.setIfInBounds_toArray, List.set_cons_zero, List.set_cons_succ]
                refine wpAnyT_one (k := 7) rfl (by kernel_rfl) (by decide) (fun K hK => ?_)
                go_simp
                refine (hupto _ b6d).mono ?_
                rintro e w7 ⟨rfl, hb7⟩
                have e7 := e6d.kept hb7
                have b7 := b6d.trans (hb7.mono (Nat.le_of_lt e6d.lt))
                have HS : ((fun w' : World => w'.cell? ⟨B, 0, none⟩ = some (.int .i64 base) ∧ w'.cell? ⟨B, 1, none⟩ = some (.slice A n c) ∧ w'.cell? ⟨B, 2, none⟩ = some (.slice (some ⟨gb, go, none⟩) m d) ∧ w'.cell? ⟨B, 3, none⟩ = some (.int .i64 cap) ∧ w'.cell? ⟨B, 4, none⟩ = some (.int .i64 en))) _ := ⟨e7.cell 0 rfl, e7.cell 1 rfl, e7.cell 2 rfl, e7.cell 3 rfl, e7.cell 4 rfl⟩
                refine hK _ _ HS ?_
                clear hK K
                try simp only [Act.put, List.setIfInBounds_toArray, List.set_cons_zero, List.set_cons_succ]
                refine wpAnyT_take (i := 8) (v := ?vv160) rfl (by kernel_rfl) (fun _ _ _ h => h) (Or.inl ⟨by rfl, fun w hSw => ?yy160⟩) HS ?rr160
                case yy160 =>
                  (try dsimp only at hSw); go_simp
                  try with_reducible rfl
                try simp only [Act.put, List.setIfInBounds_toArray, List.set_cons_zero, List.set_cons_succ]
                refine wpAnyT_take (i := 9) (v := ?vv161) rfl (by kernel_rfl) (fun _ _ _ h => h) (Or.inl ⟨by rfl, fun w hSw => ?yy161⟩) HS ?rr161
                case yy161 =>
                  (try dsimp only at hSw); go_simp
                  try with_reducible rfl
                try simp only [Act.put, List.setIfInBounds_toArray, List.set_cons_zero, List.set_cons_succ]
                refine ⟨by kernel_rfl, ?_⟩
                simp only [List.drop_succ_cons, List.drop_zero]
                clear HS
                go_wp2_with fail
                go_ret
                refine ⟨fin ?_, b7⟩
                by_cases hue : U ≤ en
                · rw [(wmay_iff _).2 (hVa (.inr hue))]; exact decide_eq_true hue
                · rw [wmay_false (fun h => by have := h.en; rw [upE] at this; exact this.elim HEN.out hue)]; exact decide_eq_false hue
end Go.Proofs.Ytgiknfmagmfniaa
