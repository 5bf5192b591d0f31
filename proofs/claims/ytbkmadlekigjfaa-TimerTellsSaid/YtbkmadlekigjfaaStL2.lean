/- Package sent as it landed: follows, May as contracts of the calls. -/
import Derived.Test.YtbkmadlekigjfaaStL1
namespace Go.Proofs.Ytbkmadlekigjfaa
open Go.RowKit
set_option linter.unusedVariables false
set_option linter.unusedSimpArgs false

/-- the nine cells of a block -/
def NineB (w : World) (B : Nat) (x : Prt) : Prop := w.cell? ⟨B, 0, none⟩ = some (.int .i64 x.seq) ∧ w.cell? ⟨B, 1, none⟩ = some (.int .i64 x.len) ∧ w.cell? ⟨B, 2, none⟩ = some (.int .i64 x.dsn) ∧ w.cell? ⟨B, 3, none⟩ = some (.int .i64 x.at_) ∧ w.cell? ⟨B, 4, none⟩ = some (.int .i64 x.tries) ∧ w.cell? ⟨B, 5, none⟩ = some (.bool x.came) ∧ w.cell? ⟨B, 6, none⟩ = some (.bool x.lost) ∧ w.cell? ⟨B, 7, none⟩ = some (.int .i64 x.total) ∧ w.cell? ⟨B, 8, none⟩ = some (.int .i64 x.last)
theorem bx_nine {w : World} {B : Nat} {x : Prt} {t : TypeId} (h : Bx w B t [.int .i64 x.seq, .int .i64 x.len, .int .i64 x.dsn, .int .i64 x.at_, .int .i64 x.tries, .bool x.came, .bool x.lost, .int .i64 x.total, .int .i64 x.last]) : NineB w B x := ⟨h.cell 0 rfl, h.cell 1 rfl, h.cell 2 rfl, h.cell 3 rfl, h.cell 4 rfl, h.cell 5 rfl, h.cell 6 rfl, h.cell 7 rfl, h.cell 8 rfl⟩
/-- l[:k] -/
theorem run_headE {α : Type} [El α] (P : Program) (t e : TypeId) (ht : P.underlying t = some (.slice e)) (z : Value) (bytes : Nat) (hinfo : (P.info? e).map (fun i => (i.zero, i.size, i.bytes)) = some (some z, El.k α, bytes)) (A : Option Addr) (k n c : Nat) (w : World) (hk : k ≤ c) :
    (Instr.slice t (.slice A n c) none (some (.int .i64 (k : Int))) none).run P w = .ok (.slice A k c) w := by
  obtain ⟨i0, hi, hz0, hz1, hz2⟩ := info_parts hinfo
  have ht' : P.underlying t = some (.slice (P.elem t)) := by simp [Program.elem, ht]
  have he : P.elem t = e := by simp [Program.elem, ht]
  have hz : ∀ w, (Go.sizeOf e).run P w = .ok (El.k α) w := fun w => by simp [Go.sizeOf, typeInfo, hi, hz1]
  rw [run_slice_h w t _ _ _ ht' .i64 _ (by omega) (by omega), he, hz]
  have h0 : ∀ a : Addr, a.add 0 = a := fun a => by simp [Addr.add]
  simp [Result.andThen, sliced, h0]

def folB (l : List Prt) (x : Prt) : Bool := oneB x && (decide (l.length = 0) || decide (endP (ge l (l.length - 1)) = x.seq))
theorem fol_iff (l : List Prt) (x : Prt) : folB l x = true ↔ oneB x = true ∧ (0 < l.length → x.seq = endP (ge l (l.length - 1))) := by
  unfold folB
  rw [Bool.and_eq_true, Bool.or_eq_true, decide_eq_true_eq, decide_eq_true_eq]
  refine and_congr_right fun _ => ⟨fun h h0 => ?_, fun h => ?_⟩
  · rcases h with h | h
    · omega
    · exact h.symm
  · by_cases h0 : l.length = 0
    · exact .inl h0
    · exact .inr (h (by omega)).symm

set_option maxRecDepth 100000 in
set_option maxHeartbeats 8000000 in
theorem stfollows_any (A : Option Addr) (n c : Nat) (l : List Prt) (x : Prt) (w : World) (hs : Se w A n c l) (hle : 0 < n → EndOk (ge l (n - 1))) :
    Calls Try.prog 26 #[.slice A n c, .agg #[.int .i64 x.seq, .int .i64 x.len, .int .i64 x.dsn, .int .i64 x.at_, .int .i64 x.tries, .bool x.came, .bool x.lost, .int .i64 x.total, .int .i64 x.last]] w fun e w' => e = .returned (.bool (folB l x)) ∧ Below w.heap.size w w' := by
  obtain ⟨B, hB⟩ : ∃ B, w.heap.size = B := ⟨_, rfl⟩
  have hl := hs.rd.len
  have m1 := hs.le
  have m2 := hs.max
  have m3 : n ≤ 9223372036854775807 := by unfold maxLen at m2; omega
  clear m1 m2
  have e0 := Bx.new w 38 [.int .i64 x.seq, .int .i64 x.len, .int .i64 x.dsn, .int .i64 x.at_, .int .i64 x.tries, .bool x.came, .bool x.lost, .int .i64 x.total, .int .i64 x.last]
  rw [hB] at e0 ⊢
  have b0 : Below B w (w.alloc (.cells #[.int .i64 x.seq, .int .i64 x.len, .int .i64 x.dsn, .int .i64 x.at_, .int .i64 x.tries, .bool x.came, .bool x.lost, .int .i64 x.total, .int .i64 x.last] 38)) := by rw [← hB]; exact (Below.refl _ _).alloc (Nat.le_refl _) _
  have hs0 := hs.alloc (.cells #[.int .i64 x.seq, .int .i64 x.len, .int .i64 x.dsn, .int .i64 x.at_, .int .i64 x.tries, .bool x.came, .bool x.lost, .int .i64 x.total, .int .i64 x.last] 38)
  obtain ⟨q, hq⟩ : ∃ q, folB l x = q := ⟨_, rfl⟩
  rw [hq]
  have HQ := Lib.hid hq
  have HLE := Lib.hid hle; have HL := Lib.hid hl
  clear hs hl hq hle
  go_enter Try.func26, Try.ntmps26
  go_upto_region 1 with fail
  change Code.wp _ _ _ _ (w.alloc (.cells #[.int .i64 x.seq, .int .i64 x.len, .int .i64 x.dsn, .int .i64 x.at_, .int .i64 x.tries, .bool x.came, .bool x.lost, .int .i64 x.total, .int .i64 x.last] 38))
  generalize w.alloc (.cells #[.int .i64 x.seq, .int .i64 x.len, .int .i64 x.dsn, .int .i64 x.at_, .int .i64 x.tries, .bool x.came, .bool x.lost, .int .i64 x.total, .int .i64 x.last] 38) = w1 at e0 b0 hs0 ⊢
  have hval := stvalid_any x
  cases hv : oneB x with
  | false =>
    have hF : q = false := by rw [← HQ.out]; unfold folB; rw [hv]; rfl
    subst hF
    rw [hv] at hval
    clear hv
    have hB1 : B ≤ w1.drew.heap.size := Nat.le_of_lt e0.lt
    refine wp_region_tail 19 20 (fun (W : World) => NineB W B x ∧ Below B w W) (by kernel_rfl) (by rfl) (by decide) ?_
    have HS : ((fun (W : World) => NineB W B x ∧ Below B w W)) _ := ⟨bx_nine e0.drew, b0.drew⟩
    refine wpAnyT_take (i := 0) (v := ?vv1) rfl (by kernel_rfl) (fun _ _ _ h => h) (Or.inl ⟨by rfl, fun w hSw => ?yy1⟩) HS ?rr1
    case yy1 =>
      (try dsimp only [NineB, Nine] at hSw); go_simp
      try with_reducible rfl
    try simp only [Act.put, List.setIfInBounds_toArray, List.set_cons_zero, List.set_cons_succ]
    refine wpAnyT_one (k := 1) rfl (by kernel_rfl) (by decide) (fun K hK => ?_)
    go_simp
    refine (hval _).mono ?_
    rintro e wv ⟨rfl, hb1⟩
    have HS : ((fun (W : World) => NineB W B x ∧ Below B w W)) _ := ⟨bx_nine (e0.drew.kept hb1), b0.drew.trans (hb1.mono hB1)⟩
    refine hK _ _ HS ?_
    clear hK K
    try simp only [Act.put, List.setIfInBounds_toArray, List.set_cons_zero, List.set_cons_succ]
    refine wpAnyT_take (i := 2) (v := ?vv2) rfl (by kernel_rfl) (fun _ _ _ h => h) (Or.inl ⟨by rfl, fun w hSw => ?yy2⟩) HS ?rr2
    case yy2 =>
      (try dsimp only [NineB, Nine] at hSw); go_simp
      try with_reducible rfl
    try simp only [Act.put, List.setIfInBounds_toArray, List.set_cons_zero, List.set_cons_succ]
    refine wpAnyT_take (i := 3) (v := undef) rfl (by kernel_rfl) (fun _ _ _ h => h) (Or.inr ⟨by kernel_rfl, rfl⟩) HS ?_
    try simp only [Act.put, List.setIfInBounds_toArray, List.set_cons_zero, List.set_cons_succ]
    refine wpAnyT_take (i := 4) (v := undef) rfl (by kernel_rfl) (fun _ _ _ h => h) (Or.inr ⟨by kernel_rfl, rfl⟩) HS ?_
    try simp only [Act.put, List.setIfInBounds_toArray, List.set_cons_zero, List.set_cons_succ]
    refine wpAnyT_take (i := 5) (v := undef) rfl (by kernel_rfl) (fun _ _ _ h => h) (Or.inr ⟨by kernel_rfl, rfl⟩) HS ?_
    try simp only [Act.put, List.setIfInBounds_toArray, List.set_cons_zero, List.set_cons_succ]
    refine wpAnyT_take (i := 6) (v := undef) rfl (by kernel_rfl) (fun _ _ _ h => h) (Or.inr ⟨by kernel_rfl, rfl⟩) HS ?_
    try simp only [Act.put, List.setIfInBounds_toArray, List.set_cons_zero, List.set_cons_succ]
    refine wpAnyT_take (i := 7) (v := undef) rfl (by kernel_rfl) (fun _ _ _ h => h) (Or.inr ⟨by kernel_rfl, rfl⟩) HS ?_
    try simp only [Act.put, List.setIfInBounds_toArray, List.set_cons_zero, List.set_cons_succ]
    refine wpAnyT_take (i := 8) (v := undef) rfl (by kernel_rfl) (fun _ _ _ h => h) (Or.inr ⟨by kernel_rfl, rfl⟩) HS ?_
    try simp only [Act.put, List.setIfInBounds_toArray, List.set_cons_zero, List.set_cons_succ]
    refine wpAnyT_take (i := 9) (v := undef) rfl (by kernel_rfl) (fun _ _ _ h => h) (Or.inr ⟨by kernel_rfl, rfl⟩) HS ?_
    try simp only [Act.put, List.setIfInBounds_toArray, List.set_cons_zero, List.set_cons_succ]
    refine wpAnyT_take (i := 10) (v := undef) rfl (by kernel_rfl) (fun _ _ _ h => h) (Or.inr ⟨by kernel_rfl, rfl⟩) HS ?_
    try simp only [Act.put, List.setIfInBounds_toArray, List.set_cons_zero, List.set_cons_succ]
    refine wpAnyT_take (i := 11) (v := undef) rfl (by kernel_rfl) (fun _ _ _ h => h) (Or.inr ⟨by kernel_rfl, rfl⟩) HS ?_
    try simp only [Act.put, List.setIfInBounds_toArray, List.set_cons_zero, List.set_cons_succ]
    refine wpAnyT_take (i := 12) (v := undef) rfl (by kernel_rfl) (fun _ _ _ h => h) (Or.inr ⟨by kernel_rfl, rfl⟩) HS ?_
    try simp only [Act.put, List.setIfInBounds_toArray, List.set_cons_zero, List.set_cons_succ]
    refine wpAnyT_take (i := 13) (v := undef) rfl (by kernel_rfl) (fun _ _ _ h => h) (Or.inr ⟨by kernel_rfl, rfl⟩) HS ?_
    try simp only [Act.put, List.setIfInBounds_toArray, List.set_cons_zero, List.set_cons_succ]
    refine wpAnyT_take (i := 14) (v := undef) rfl (by kernel_rfl) (fun _ _ _ h => h) (Or.inr ⟨by kernel_rfl, rfl⟩) HS ?_
    try simp only [Act.put, List.setIfInBounds_toArray, List.set_cons_zero, List.set_cons_succ]
    refine wpAnyT_take (i := 15) (v := undef) rfl (by kernel_rfl) (fun _ _ _ h => h) (Or.inr ⟨by kernel_rfl, rfl⟩) HS ?_
    try simp only [Act.put, List.setIfInBounds_toArray, List.set_cons_zero, List.set_cons_succ]
    refine wpAnyT_take (i := 16) (v := undef) rfl (by kernel_rfl) (fun _ _ _ h => h) (Or.inr ⟨by kernel_rfl, rfl⟩) HS ?_
    try simp only [Act.put, List.setIfInBounds_toArray, List.set_cons_zero, List.set_cons_succ]
    refine wpAnyT_take (i := 17) (v := undef) rfl (by kernel_rfl) (fun _ _ _ h => h) (Or.inr ⟨by kernel_rfl, rfl⟩) HS ?_
    try simp only [Act.put, List.setIfInBounds_toArray, List.set_cons_zero, List.set_cons_succ]
    refine wpAnyT_take (i := 18) (v := ?vv3) rfl (by kernel_rfl) (fun _ _ _ h => h) (Or.inl ⟨by rfl, fun w hSw => ?yy3⟩) HS ?rr3
    case yy3 =>
      (try dsimp only [NineB, Nine] at hSw); go_simp
      try with_reducible rfl
    try simp only [Act.put, List.setIfInBounds_toArray, List.set_cons_zero, List.set_cons_succ]
    refine ⟨by kernel_rfl, ?_⟩
    simp only [List.drop_succ_cons, List.drop_zero]
    go_wp2_with fail
    go_ret
    exact ⟨rfl, HS.2⟩
  | true =>
  rw [hv] at hval
  by_cases hn : n = 0
  · subst hn
    have hT : q = true := by rw [← HQ.out]; unfold folB; rw [hv, HL.out]; rfl
    subst hT
    clear hv
    have hB1 : B ≤ w1.drew.heap.size := Nat.le_of_lt e0.lt
    refine wp_region_tail 19 20 (fun (W : World) => NineB W B x ∧ Below B w W) (by kernel_rfl) (by rfl) (by decide) ?_
    have HS : ((fun (W : World) => NineB W B x ∧ Below B w W)) _ := ⟨bx_nine e0.drew, b0.drew⟩
    refine wpAnyT_take (i := 0) (v := ?vv4) rfl (by kernel_rfl) (fun _ _ _ h => h) (Or.inl ⟨by rfl, fun w hSw => ?yy4⟩) HS ?rr4
    case yy4 =>
      (try dsimp only [NineB, Nine] at hSw); go_simp
      try with_reducible rfl
    try simp only [Act.put, List.setIfInBounds_toArray, List.set_cons_zero, List.set_cons_succ]
    refine wpAnyT_one (k := 1) rfl (by kernel_rfl) (by decide) (fun K hK => ?_)
    go_simp
    refine (hval _).mono ?_
    rintro e wv ⟨rfl, hb1⟩
    have HS : ((fun (W : World) => NineB W B x ∧ Below B w W)) _ := ⟨bx_nine (e0.drew.kept hb1), b0.drew.trans (hb1.mono hB1)⟩
    refine hK _ _ HS ?_
    clear hK K
    try simp only [Act.put, List.setIfInBounds_toArray, List.set_cons_zero, List.set_cons_succ]
    refine wpAnyT_take (i := 2) (v := ?vv5) rfl (by kernel_rfl) (fun _ _ _ h => h) (Or.inl ⟨by rfl, fun w hSw => ?yy5⟩) HS ?rr5
    case yy5 =>
      (try dsimp only [NineB, Nine] at hSw); go_simp
      try with_reducible rfl
    try simp only [Act.put, List.setIfInBounds_toArray, List.set_cons_zero, List.set_cons_succ]
    refine wpAnyT_take (i := 3) (v := ?vv6) rfl (by kernel_rfl) (fun _ _ _ h => h) (Or.inl ⟨by rfl, fun w hSw => ?yy6⟩) HS ?rr6
    case yy6 =>
      (try dsimp only [NineB, Nine] at hSw); go_simp
      try with_reducible rfl
    try simp only [Act.put, List.setIfInBounds_toArray, List.set_cons_zero, List.set_cons_succ]
    refine wpAnyT_take (i := 4) (v := ?vv7) rfl (by kernel_rfl) (fun _ _ _ h => h) (Or.inl ⟨by rfl, fun w hSw => ?yy7⟩) HS ?rr7
    case yy7 =>
      (try dsimp only [NineB, Nine] at hSw); go_simp
      try with_reducible rfl
    try simp only [Act.put, List.setIfInBounds_toArray, List.set_cons_zero, List.set_cons_succ]
    refine wpAnyT_take (i := 5) (v := ?vv8) rfl (by kernel_rfl) (fun _ _ _ h => h) (Or.inl ⟨by rfl, fun w hSw => ?yy8⟩) HS ?rr8
    case yy8 =>
      (try dsimp only [NineB, Nine] at hSw); go_simp
      try with_reducible rfl
    try simp only [Act.put, List.setIfInBounds_toArray, List.set_cons_zero, List.set_cons_succ]
    refine wpAnyT_take (i := 6) (v := ?vv9) rfl (by kernel_rfl) (fun _ _ _ h => h) (Or.inl ⟨by rfl, fun w hSw => ?yy9⟩) HS ?rr9
    case yy9 =>
      (try dsimp only [NineB, Nine] at hSw); go_simp
      try with_reducible rfl
    try simp only [Act.put, List.setIfInBounds_toArray, List.set_cons_zero, List.set_cons_succ]
    refine wpAnyT_take (i := 7) (v := undef) rfl (by kernel_rfl) (fun _ _ _ h => h) (Or.inr ⟨by kernel_rfl, rfl⟩) HS ?_
    try simp only [Act.put, List.setIfInBounds_toArray, List.set_cons_zero, List.set_cons_succ]
    refine wpAnyT_take (i := 8) (v := undef) rfl (by kernel_rfl) (fun _ _ _ h => h) (Or.inr ⟨by kernel_rfl, rfl⟩) HS ?_
    try simp only [Act.put, List.setIfInBounds_toArray, List.set_cons_zero, List.set_cons_succ]
    refine wpAnyT_take (i := 9) (v := undef) rfl (by kernel_rfl) (fun _ _ _ h => h) (Or.inr ⟨by kernel_rfl, rfl⟩) HS ?_
    try simp only [Act.put, List.setIfInBounds_toArray, List.set_cons_zero, List.set_cons_succ]
    refine wpAnyT_take (i := 10) (v := undef) rfl (by kernel_rfl) (fun _ _ _ h => h) (Or.inr ⟨by kernel_rfl, rfl⟩) HS ?_
    try simp only [Act.put, List.setIfInBounds_toArray, List.set_cons_zero, List.set_cons_succ]
    refine wpAnyT_take (i := 11) (v := undef) rfl (by kernel_rfl) (fun _ _ _ h => h) (Or.inr ⟨by kernel_rfl, rfl⟩) HS ?_
    try simp only [Act.put, List.setIfInBounds_toArray, List.set_cons_zero, List.set_cons_succ]
    refine wpAnyT_take (i := 12) (v := undef) rfl (by kernel_rfl) (fun _ _ _ h => h) (Or.inr ⟨by kernel_rfl, rfl⟩) HS ?_
    try simp only [Act.put, List.setIfInBounds_toArray, List.set_cons_zero, List.set_cons_succ]
    refine wpAnyT_take (i := 13) (v := undef) rfl (by kernel_rfl) (fun _ _ _ h => h) (Or.inr ⟨by kernel_rfl, rfl⟩) HS ?_
    try simp only [Act.put, List.setIfInBounds_toArray, List.set_cons_zero, List.set_cons_succ]
    refine wpAnyT_take (i := 14) (v := undef) rfl (by kernel_rfl) (fun _ _ _ h => h) (Or.inr ⟨by kernel_rfl, rfl⟩) HS ?_
    try simp only [Act.put, List.setIfInBounds_toArray, List.set_cons_zero, List.set_cons_succ]
    refine wpAnyT_take (i := 15) (v := undef) rfl (by kernel_rfl) (fun _ _ _ h => h) (Or.inr ⟨by kernel_rfl, rfl⟩) HS ?_
    try simp only [Act.put, List.setIfInBounds_toArray, List.set_cons_zero, List.set_cons_succ]
    refine wpAnyT_take (i := 16) (v := undef) rfl (by kernel_rfl) (fun _ _ _ h => h) (Or.inr ⟨by kernel_rfl, rfl⟩) HS ?_
    try simp only [Act.put, List.setIfInBounds_toArray, List.set_cons_zero, List.set_cons_succ]
    refine wpAnyT_take (i := 17) (v := ?vv10) rfl (by kernel_rfl) (fun _ _ _ h => h) (Or.inl ⟨by rfl, fun w hSw => ?yy10⟩) HS ?rr10
    case yy10 =>
      (try dsimp only [NineB, Nine] at hSw); go_simp
      try with_reducible rfl
    try simp only [Act.put, List.setIfInBounds_toArray, List.set_cons_zero, List.set_cons_succ]
    refine wpAnyT_take (i := 18) (v := ?vv11) rfl (by kernel_rfl) (fun _ _ _ h => h) (Or.inl ⟨by rfl, fun w hSw => ?yy11⟩) HS ?rr11
    case yy11 =>
      (try dsimp only [NineB, Nine] at hSw); go_simp
      try with_reducible rfl
    try simp only [Act.put, List.setIfInBounds_toArray, List.set_cons_zero, List.set_cons_succ]
    refine ⟨by kernel_rfl, ?_⟩
    simp only [List.drop_succ_cons, List.drop_zero]
    go_wp2_with fail
    go_ret
    exact ⟨rfl, HS.2⟩
  obtain ⟨j, rfl⟩ : ∃ j, n = j + 1 := ⟨n - 1, by omega⟩
  have hq2 : q = decide (endP (ge l j) = x.seq) := by rw [← HQ.out]; unfold folB; rw [hv, HL.out]; simp
  obtain ⟨b, o, rfl, hbl, hc⟩ := hs0.rd.at_ (by omega)
  have Y := prt_at hc (show j < j + 1 by omega)
  have heo := HLE.out (by omega)
  rw [show j + 1 - 1 = j by omega] at heo
  obtain ⟨p, hp⟩ : ∃ p, ge l j = p := ⟨_, rfl⟩
  rw [hp] at Y heo hq2
  have hend := fun W => stend_any p W heo
  have hj1 : (0 : Int) < (j : Int) + 1 := by omega
  have hj2 : (0 : Int) ≤ (j : Int) + 1 := by omega
  have hj4 : (j : Int) < (j : Int) + 1 := by omega
  have hj5 : ((j : Int) + 1 == 0) = false := by simp; omega
  have hs3 : IntKind.i64.wrap (j : Int) = (j : Int) := IntWalk.i64_in _ (by omega)
  have HP := Lib.hid hp
  have HEO := Lib.hid heo
  have hq3 : q = (endP p == x.seq) := by rw [hq2]; rfl
  subst hq3
  clear hv hn hp hc heo hq2 hs0
  have hB1 : B ≤ w1.drew.heap.size := Nat.le_of_lt e0.lt
  refine wp_region_tail 19 20 (fun (W : World) => NineB W B x ∧ Nine W b (o + j * 9) p ∧ Below B w W) (by kernel_rfl) (by rfl) (by decide) ?_
  have HS : ((fun (W : World) => NineB W B x ∧ Nine W b (o + j * 9) p ∧ Below B w W)) _ := ⟨bx_nine e0.drew, Y.drew.nine, b0.drew⟩
  refine wpAnyT_take (i := 0) (v := ?vv12) rfl (by kernel_rfl) (fun _ _ _ h => h) (Or.inl ⟨by rfl, fun w hSw => ?yy12⟩) HS ?rr12
  case yy12 =>
    (try dsimp only [NineB, Nine] at hSw); go_simp
    try with_reducible rfl
  try simp only [Act.put, List.setIfInBounds_toArray, List.set_cons_zero, List.set_cons_succ]
  refine wpAnyT_one (k := 1) rfl (by kernel_rfl) (by decide) (fun K hK => ?_)
  go_simp
  refine (hval _).mono ?_
  rintro e wv ⟨rfl, hb1⟩
  have HS : ((fun (W : World) => NineB W B x ∧ Nine W b (o + j * 9) p ∧ Below B w W)) _ := ⟨bx_nine (e0.drew.kept hb1), (Y.drew.keep (w' := wv) hb1 hbl).nine, b0.drew.trans (hb1.mono hB1)⟩
  refine hK _ _ HS ?_
  clear hK K
  try simp only [Act.put, List.setIfInBounds_toArray, List.set_cons_zero, List.set_cons_succ]
  refine wpAnyT_take (i := 2) (v := ?vv13) rfl (by kernel_rfl) (fun _ _ _ h => h) (Or.inl ⟨by rfl, fun w hSw => ?yy13⟩) HS ?rr13
  case yy13 =>
    (try dsimp only [NineB, Nine] at hSw); go_simp
    try with_reducible rfl
  try simp only [Act.put, List.setIfInBounds_toArray, List.set_cons_zero, List.set_cons_succ]
  refine wpAnyT_take (i := 3) (v := ?vv14) rfl (by kernel_rfl) (fun _ _ _ h => h) (Or.inl ⟨by rfl, fun w hSw => ?yy14⟩) HS ?rr14
  case yy14 =>
    (try dsimp only [NineB, Nine] at hSw); go_simp
    try with_reducible rfl
  try simp only [Act.put, List.setIfInBounds_toArray, List.set_cons_zero, List.set_cons_succ]
  refine wpAnyT_take (i := 4) (v := ?vv15) rfl (by kernel_rfl) (fun _ _ _ h => h) (Or.inl ⟨by rfl, fun w hSw => ?yy15⟩) HS ?rr15
  case yy15 =>
    (try dsimp only [NineB, Nine] at hSw); go_simp
    try with_reducible rfl
  try simp only [Act.put, List.setIfInBounds_toArray, List.set_cons_zero, List.set_cons_succ]
  refine wpAnyT_take (i := 5) (v := ?vv16) rfl (by kernel_rfl) (fun _ _ _ h => h) (Or.inl ⟨by rfl, fun w hSw => ?yy16⟩) HS ?rr16
  case yy16 =>
    (try dsimp only [NineB, Nine] at hSw); go_simp
    try with_reducible rfl
  try simp only [Act.put, List.setIfInBounds_toArray, List.set_cons_zero, List.set_cons_succ]
  refine wpAnyT_take (i := 6) (v := ?vv17) rfl (by kernel_rfl) (fun _ _ _ h => h) (Or.inl ⟨by rfl, fun w hSw => ?yy17⟩) HS ?rr17
  case yy17 =>
    (try dsimp only [NineB, Nine] at hSw); go_simp
    try with_reducible rfl
  try simp only [Act.put, List.setIfInBounds_toArray, List.set_cons_zero, List.set_cons_succ]
  refine wpAnyT_take (i := 7) (v := ?vv18) rfl (by kernel_rfl) (fun _ _ _ h => h) (Or.inl ⟨by rfl, fun w hSw => ?yy18⟩) HS ?rr18
  case yy18 =>
    (try dsimp only [NineB, Nine] at hSw); go_simp
    try with_reducible rfl
  try simp only [Act.put, List.setIfInBounds_toArray, List.set_cons_zero, List.set_cons_succ]
  refine wpAnyT_take (i := 8) (v := ?vv19) rfl (by kernel_rfl) (fun _ _ _ h => h) (Or.inl ⟨by rfl, fun w hSw => ?yy19⟩) HS ?rr19
  case yy19 =>
    (try dsimp only [NineB, Nine] at hSw); go_simp
    try with_reducible rfl
  try simp only [Act.put, List.setIfInBounds_toArray, List.set_cons_zero, List.set_cons_succ]
  refine wpAnyT_take (i := 9) (v := ?vv20) rfl (by kernel_rfl) (fun _ _ _ h => h) (Or.inl ⟨by rfl, fun w hSw => ?yy20⟩) HS ?rr20
  case yy20 =>
    (try dsimp only [NineB, Nine] at hSw); go_simp
    try with_reducible rfl
  try simp only [Act.put, List.setIfInBounds_toArray, List.set_cons_zero, List.set_cons_succ]
  refine wpAnyT_take (i := 10) (v := ?vv21) rfl (by kernel_rfl) (fun _ _ _ h => h) (Or.inl ⟨by rfl, fun w hSw => ?yy21⟩) HS ?rr21
  case yy21 =>
    (try dsimp only [NineB, Nine] at hSw); go_simp
    try with_reducible rfl
  try simp only [Act.put, List.setIfInBounds_toArray, List.set_cons_zero, List.set_cons_succ]
  refine wpAnyT_take (i := 11) (v := ?vv22) rfl (by kernel_rfl) (fun _ _ _ h => h) (Or.inl ⟨by rfl, fun w hSw => ?yy22⟩) HS ?rr22
  case yy22 =>
    (try dsimp only [NineB, Nine] at hSw); go_simp
    try with_reducible rfl
  try simp only [Act.put, List.setIfInBounds_toArray, List.set_cons_zero, List.set_cons_succ]
  refine wpAnyT_take (i := 12) (v := ?vv23) rfl (by kernel_rfl) (fun _ _ _ h => h) (Or.inl ⟨by rfl, fun w hSw => ?yy23⟩) HS ?rr23
  case yy23 =>
    (try dsimp only [NineB, Nine] at hSw); go_simp
    try with_reducible rfl
  try simp only [Act.put, List.setIfInBounds_toArray, List.set_cons_zero, List.set_cons_succ]
  refine wpAnyT_take (i := 14) (v := ?vv24) rfl (by kernel_rfl) (fun _ _ _ h => h) (Or.inl ⟨by rfl, fun w hSw => ?yy24⟩) HS ?rr24
  case yy24 =>
    (try dsimp only [NineB, Nine] at hSw); go_simp
    try with_reducible rfl
  try simp only [Act.put, List.setIfInBounds_toArray, List.set_cons_zero, List.set_cons_succ]
  refine wpAnyT_take (i := 15) (v := ?vv25) rfl (by kernel_rfl) (fun _ _ _ h => h) (Or.inl ⟨by rfl, fun w hSw => ?yy25⟩) HS ?rr25
  case yy25 =>
    (try dsimp only [NineB, Nine] at hSw); go_simp
    try with_reducible rfl
  try simp only [Act.put, List.setIfInBounds_toArray, List.set_cons_zero, List.set_cons_succ]
  refine wpAnyT_one (k := 13) rfl (by kernel_rfl) (by decide) (fun K hK => ?_)
  go_simp
  refine (hend _).mono ?_
  rintro e wv2 ⟨rfl, hb2⟩
  have HS : ((fun (W : World) => NineB W B x ∧ Nine W b (o + j * 9) p ∧ Below B w W)) _ := ⟨bx_nine ((e0.drew.kept hb1).kept hb2), ((Y.drew.keep (w' := wv) hb1 hbl).keep (w' := wv2) hb2 (Nat.lt_of_lt_of_le hbl hb1.size)).nine, (b0.drew.trans (hb1.mono hB1)).trans (hb2.mono (Nat.le_trans hB1 hb1.size))⟩
  refine hK _ _ HS ?_
  clear hK K
  try simp only [Act.put, List.setIfInBounds_toArray, List.set_cons_zero, List.set_cons_succ]
  refine wpAnyT_take (i := 16) (v := ?vv26) rfl (by kernel_rfl) (fun _ _ _ h => h) (Or.inl ⟨by rfl, fun w hSw => ?yy26⟩) HS ?rr26
  case yy26 =>
    (try dsimp only [NineB, Nine] at hSw); go_simp
    try with_reducible rfl
  try simp only [Act.put, List.setIfInBounds_toArray, List.set_cons_zero, List.set_cons_succ]
  refine wpAnyT_take (i := 17) (v := ?vv27) rfl (by kernel_rfl) (fun _ _ _ h => h) (Or.inl ⟨by rfl, fun w hSw => ?yy27⟩) HS ?rr27
  case yy27 =>
    (try dsimp only [NineB, Nine] at hSw); go_simp
    try with_reducible rfl
  try simp only [Act.put, List.setIfInBounds_toArray, List.set_cons_zero, List.set_cons_succ]
  refine wpAnyT_take (i := 18) (v := ?vv28) rfl (by kernel_rfl) (fun _ _ _ h => h) (Or.inl ⟨by rfl, fun w hSw => ?yy28⟩) HS ?rr28
  case yy28 =>
    (try dsimp only [NineB, Nine] at hSw); go_simp
    try with_reducible rfl
  try simp only [Act.put, List.setIfInBounds_toArray, List.set_cons_zero, List.set_cons_succ]
  refine ⟨by kernel_rfl, ?_⟩
  simp only [List.drop_succ_cons, List.drop_zero]
  go_wp2_with fail
  go_ret
  exact ⟨rfl, HS.2.2⟩

/-- the parts up to k are linked, as May looks at them -/
theorem fol_link {l : List Prt} {k : Nat} (hk : k < l.length) : folB (l.take k) (ge l k) = true ↔ LinkOk l k := by
  have hlen : (l.take k).length = k := by rw [List.length_take]; omega
  rw [fol_iff, oneB_iff, hlen]
  unfold LinkOk
  refine and_congr_right fun _ => ⟨fun h h0 => ?_, fun h h0 => ?_⟩
  · rw [h h0, ge_take (by omega)]
  · rw [h h0, ge_take (by omega)]

set_option maxRecDepth 100000 in
set_option maxHeartbeats 8000000 in
theorem stmay_any (A : Option Addr) (n c : Nat) (l : List Prt) (w : World) (hs : Se w A n c l) :
    Calls Try.prog 18 #[.slice A n c] w fun e w' => e = .returned (.bool (smayB l)) ∧ Below w.heap.size w w' := by
  have hl := hs.rd.len
  have m1 := hs.le
  have m2 := hs.max
  have m3 : n ≤ 9223372036854775807 := by unfold maxLen at m2; omega
  clear m2
  by_cases h5 : 500 < n
  · have hF : smayB l = false := by unfold smayB; rw [hl, decide_eq_false (by omega)]; rfl
    rw [hF]
    clear hF
    have d5 : decide ((500 : Int) < (n : Int)) = true := decide_eq_true (by omega)
    have d6 : decide (500 < n) = true := decide_eq_true h5
    go_enter Try.func18, Try.ntmps18
    go_wp2
    go_ret
    exact ⟨rfl, Below.refl _ _⟩
  have d5 : decide ((500 : Int) < (n : Int)) = false := decide_eq_false (by omega)
  have d6 : decide (500 < n) = false := decide_eq_false h5
  have hq0 : smayB l = chainB l := by unfold smayB; rw [hl, decide_eq_true (by omega)]; rfl
  obtain ⟨q, hq⟩ : ∃ q, chainB l = q := ⟨_, rfl⟩
  rw [hq0, hq]
  have HQ := Lib.hid hq
  have HA := Lib.hid hs; have HL := Lib.hid hl
  clear hs hl hq hq0 h5
  go_enter Try.func18, Try.ntmps18
  go_wp2_with fail
  go_loopw [10] (fun i wr => ∃ k : Nat, k ≤ n ∧ i = .int .i64 (k : Int) ∧ Hid (ChainTo l k) ∧ Below w.heap.size w wr) (fun i _ => n - (intOf i).toNat)
  case atStart => exact ⟨0, Nat.zero_le _, rfl, Lib.hid (fun i hi => absurd hi (by omega)), Below.refl _ _⟩
  case round =>
    obtain ⟨k, hk, rfl, HOK, hb⟩ := hrel
    by_cases hlt : k < n
    · have dlt : decide (k < n) = true := decide_eq_true hlt
      have hsr : Se wr A n c l := HA.out.keep hb
      obtain ⟨b, o, rfl, hbl, hc⟩ := hsr.rd.at_ (by omega)
      have X := prt_at hc hlt
      have hkl : k < l.length := by rw [HL.out]; exact hlt
      have hfl := fol_link hkl
      have hsk := hsr.head (k := k) (by omega)
      have heo : 0 < k → EndOk (ge (l.take k) (k - 1)) := fun h0 => by rw [ge_take (by omega)]; exact endOk (HOK.out (k - 1) (by omega)).1
      have hhead := fun w => run_headE (α := Prt) Try.prog 24 38 Try.underlying24 (.agg #[.int .i64 0, .int .i64 0, .int .i64 0, .int .i64 0, .int .i64 0, .bool false, .bool false, .int .i64 0, .int .i64 0]) 64 info_prt (some ⟨b, o, none⟩) k n c w (by omega)
      have hq2 : folB (l.take k) (ge l k) = false → q = false := fun h => by
        rw [← HQ.out]
        refine Bool.eq_false_iff.2 (fun h2 => ?_)
        have h3 := hfl.2 (((chainB_iff l).1 h2) k hkl)
        rw [h] at h3; cases h3
      obtain ⟨p, hp⟩ : ∃ p, ge l k = p := ⟨_, rfl⟩
      rw [hp] at X hfl hq2
      obtain ⟨x0, x1, x2, x3, x4, x5, x6, x7, x8⟩ := X
      obtain ⟨P, hP⟩ : ∃ P, wr.heap.size = P := ⟨_, rfl⟩
      have eP : Bx (wr.alloc (.cells #[.int .i64 p.seq, .int .i64 p.len, .int .i64 p.dsn, .int .i64 p.at_, .int .i64 p.tries, .bool p.came, .bool p.lost, .int .i64 p.total, .int .i64 p.last] 38)) P 38 [.int .i64 p.seq, .int .i64 p.len, .int .i64 p.dsn, .int .i64 p.at_, .int .i64 p.tries, .bool p.came, .bool p.lost, .int .i64 p.total, .int .i64 p.last] := hP ▸ Bx.new wr 38 [.int .i64 p.seq, .int .i64 p.len, .int .i64 p.dsn, .int .i64 p.at_, .int .i64 p.tries, .bool p.came, .bool p.lost, .int .i64 p.total, .int .i64 p.last]
      have hwP : w.heap.size ≤ P := hP ▸ hb.size
      have bP : Below w.heap.size w (wr.alloc (.cells #[.int .i64 p.seq, .int .i64 p.len, .int .i64 p.dsn, .int .i64 p.at_, .int .i64 p.tries, .bool p.came, .bool p.lost, .int .i64 p.total, .int .i64 p.last] 38)) := hb.alloc (hP ▸ hwP) _
      have hsP := hsk.alloc (.cells #[.int .i64 p.seq, .int .i64 p.len, .int .i64 p.dsn, .int .i64 p.at_, .int .i64 p.tries, .bool p.came, .bool p.lost, .int .i64 p.total, .int .i64 p.last] 38)
      have HFL := Lib.hid hfl; have HQ2 := Lib.hid hq2; have HEO := Lib.hid heo
      clear hsk hfl hq2 heo hp hc hsr hbl
      go_upto_region 6 with fail
      clear x0 x1 x2 x3 x4 x5 x6 x7 x8
      try rw [hP]
      generalize wr.alloc (.cells #[.int .i64 p.seq, .int .i64 p.len, .int .i64 p.dsn, .int .i64 p.at_, .int .i64 p.tries, .bool p.came, .bool p.lost, .int .i64 p.total, .int .i64 p.last] 38) = wA at eP bP hsP ⊢
      have hfol := fun W hW => stfollows_any (some ⟨b, o, none⟩) k c (l.take k) p W hW HEO.out
      obtain ⟨z, hz⟩ : ∃ z, folB (l.take k) p = z := ⟨_, rfl⟩
      rw [hz] at hfol
      have HZ := Lib.hid hz
      clear hz
      refine wp_region_tail 5 6 (fun (W : World) => NineB W P p ∧ Se W (some ⟨b, o, none⟩) k c (l.take k) ∧ Below w.heap.size w W) (by kernel_rfl) (by rfl) (by decide) ?_
      have HS : ((fun (W : World) => NineB W P p ∧ Se W (some ⟨b, o, none⟩) k c (l.take k) ∧ Below w.heap.size w W)) _ := ⟨bx_nine eP.drew, hsP.drew, bP.drew⟩
      refine wpAnyT_take (i := 0) (v := ?vv29) rfl (by kernel_rfl) (fun _ _ _ h => h) (Or.inl ⟨by rfl, fun w hSw => ?yy29⟩) HS ?rr29
      case yy29 =>
        (try dsimp only [NineB] at hSw); go_simp
        try with_reducible rfl
      try simp only [Act.put, List.setIfInBounds_toArray, List.set_cons_zero, List.set_cons_succ]
      refine wpAnyT_take (i := 1) (v := ?vv30) rfl (by kernel_rfl) (fun _ _ _ h => h) (Or.inl ⟨by rfl, fun w hSw => ?yy30⟩) HS ?rr30
      case yy30 =>
        (try dsimp only [NineB] at hSw); go_simp
        try with_reducible rfl
      try simp only [Act.put, List.setIfInBounds_toArray, List.set_cons_zero, List.set_cons_succ]
      refine wpAnyT_take (i := 2) (v := ?vv31) rfl (by kernel_rfl) (fun _ _ _ h => h) (Or.inl ⟨by rfl, fun w hSw => ?yy31⟩) HS ?rr31
      case yy31 =>
        (try dsimp only [NineB] at hSw); go_simp
        try with_reducible rfl
      try simp only [Act.put, List.setIfInBounds_toArray, List.set_cons_zero, List.set_cons_succ]
      refine wpAnyT_take (i := 3) (v := ?vv32) rfl (by kernel_rfl) (fun _ _ _ h => h) (Or.inl ⟨by rfl, fun w hSw => ?yy32⟩) HS ?rr32
      case yy32 =>
        (try dsimp only [NineB] at hSw); go_simp
        try with_reducible rfl
      try simp only [Act.put, List.setIfInBounds_toArray, List.set_cons_zero, List.set_cons_succ]
      refine wpAnyT_one (k := 4) rfl (by kernel_rfl) (by decide) (fun K hK => ?_)
      go_simp
      refine (hfol _ HS.2.1).mono ?_
      rintro e wv ⟨rfl, hb1⟩
      have HS : ((fun (W : World) => NineB W P p ∧ Se W (some ⟨b, o, none⟩) k c (l.take k) ∧ Below w.heap.size w W)) _ := ⟨bx_nine (eP.drew.kept hb1), hsP.drew.keep hb1, bP.drew.trans (hb1.mono (Nat.le_trans hwP (Nat.le_of_lt eP.drew.lt)))⟩
      refine hK _ _ HS ?_
      clear hK K
      try simp only [Act.put, List.setIfInBounds_toArray, List.set_cons_zero, List.set_cons_succ]
      refine ⟨by kernel_rfl, ?_⟩
      simp only [List.drop_succ_cons, List.drop_zero]
      cases z with
      | false =>
        have hF : q = false := HQ2.out HZ.out
        subst hF
        go_wp2_with fail
        go_ret
        exact ⟨rfl, HS.2.2⟩
      | true =>
        go_wp2_with fail
        go_roundw
        case rel => exact ⟨k + 1, by omega, by go_num, Lib.hid (link_snoc HOK.out (HFL.out.1 HZ.out)), HS.2.2⟩
        case measure => simp [intOf]; omega
    · obtain rfl : k = n := by omega
      have hT : q = true := by rw [← HQ.out, chainB_iff, HL.out]; exact HOK.out
      subst hT
      have dlt : decide (k < k) = false := decide_eq_false (by omega)
      go_wp2_with fail
      go_ret
      exact ⟨rfl, hb⟩
end Go.Proofs.Ytbkmadlekigjfaa
