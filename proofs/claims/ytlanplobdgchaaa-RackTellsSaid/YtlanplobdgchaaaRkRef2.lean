/- The reference of package rack: Twice, Came as contracts of the calls. -/
import Derived.Test.YtlanplobdgchaaaProg
import Derived.Test.YtlanplobdgchaaaRkRef1
import Derived.Test.YtlanplobdgchaaaStRef1
import Derived.WalkKit
import Derived.WalkSpells
import Derived.WalkSmall
import Derived.Lib.Hide
import Derived.Below
import Derived.Outline
import Derived.Deep.QuietTactic
import Derived.BigQuiet
import Derived.IntWalk
import Derived.Deep.DeepCutAuto
import Derived.OrdersHeld
import Derived.StillTail
import Derived.Test.YtlanplobdgchaaaTail
import Derived.Laws.Rows
import Derived.Laws.Tables
namespace Go.Proofs.Ytlanplobdgchaaa
open Go.RowKit
set_option linter.unusedVariables false
set_option linter.unusedSimpArgs false

def TellK (w w' : World) (e : Ending) (y : Rkv × Int) : Prop := e = .returned (.tuple #[.agg #[.int .i64 y.1.at_, .int .i64 y.1.end_, .int .i64 y.1.took, .int .i64 y.1.far, .bool y.1.mixed, .int .i64 y.1.quarters], .int .i64 y.2]) ∧ Below w.heap.size w w'
theorem twice_no {v : Rkv} (h : rkmay v = false) : twiceR v = (zrk, 1) := by unfold twiceR; rw [if_neg (by rw [h]; simp)]
theorem twice_ok {v : Rkv} (h : rkmay v = true) : twiceR v = (⟨v.at_, v.end_, v.took, v.far, v.mixed, moreQ v.quarters⟩, 0) := by unfold twiceR; rw [if_pos h]
theorem rkcame_no {v : Rkv} {x : Prt} {a b : Int} (h : ¬ RkCameOk v x a b) : rkcameR v x a b = (zrk, 1) := if_neg h
theorem rkcame_ok {v : Rkv} {x : Prt} {a b : Int} (h : RkCameOk v x a b) : rkcameR v x a b = (newR v x a b, 0) := if_pos h
theorem new_soon {v : Rkv} {x : Prt} {a b : Int} (h : soonR x a b = true) : newR v x a b = ⟨v.at_, v.end_, v.took, farR v x, mixR v x, v.quarters⟩ := if_pos h
theorem new_new {v : Rkv} {x : Prt} {a b : Int} (h : soonR x a b = false) (k : aheadB v.at_ v.end_ x.at_ (endP x) = true) : newR v x a b = ⟨x.at_, endP x, a - x.at_, farR v x, mixR v x, v.quarters⟩ := by unfold newR; rw [if_neg (by rw [h]; simp), if_pos k]
theorem new_old {v : Rkv} {x : Prt} {a b : Int} (h : soonR x a b = false) (k : aheadB v.at_ v.end_ x.at_ (endP x) = false) : newR v x a b = ⟨v.at_, v.end_, v.took, farR v x, mixR v x, v.quarters⟩ := by unfold newR; rw [if_neg (by rw [h]; simp), if_neg (by rw [k]; simp)]
theorem far_yes {v : Rkv} {x : Prt} (h : v.far < endP x) : farR v x = endP x := if_pos h
theorem far_no {v : Rkv} {x : Prt} (h : ¬ v.far < endP x) : farR v x = v.far := if_neg h
theorem mix_yes {v : Rkv} {x : Prt} (h : x.tries = 1 ∧ endP x < v.far) : mixR v x = true := if_pos h
theorem mix_no {v : Rkv} {x : Prt} (h : ¬ (x.tries = 1 ∧ endP x < v.far)) : mixR v x = v.mixed := if_neg h

set_option maxRecDepth 100000 in
set_option maxHeartbeats 8000000 in
theorem rktwice_any (v : Rkv) (w : World) :
    Calls Try.prog 12 #[.agg #[.int .i64 v.at_, .int .i64 v.end_, .int .i64 v.took, .int .i64 v.far, .bool v.mixed, .int .i64 v.quarters]] w fun e w' => TellK w w' e (twiceR v) := by
  unfold TellK
  obtain ⟨B, hB⟩ : ∃ B, w.heap.size = B := ⟨_, rfl⟩
  rw [hB]
  have e0 := (Bx.new w 23 [.int .i64 v.at_, .int .i64 v.end_, .int .i64 v.took, .int .i64 v.far, .bool v.mixed, .int .i64 v.quarters]).alloc (.cells #[.int .i64 0, .int .i64 0, .int .i64 0, .int .i64 0, .bool false, .int .i64 0] 23)
  have y0 := Bx.new (w.alloc (.cells #[.int .i64 v.at_, .int .i64 v.end_, .int .i64 v.took, .int .i64 v.far, .bool v.mixed, .int .i64 v.quarters] 23)) 23 [.int .i64 0, .int .i64 0, .int .i64 0, .int .i64 0, .bool false, .int .i64 0]
  rw [World.size_alloc] at y0
  rw [hB] at e0 y0
  have b0 : Below B w ((w.alloc (.cells #[.int .i64 v.at_, .int .i64 v.end_, .int .i64 v.took, .int .i64 v.far, .bool v.mixed, .int .i64 v.quarters] 23)).alloc (.cells #[.int .i64 0, .int .i64 0, .int .i64 0, .int .i64 0, .bool false, .int .i64 0] 23)) := by rw [← hB]; exact ((Below.refl _ _).alloc (Nat.le_refl _) _).alloc (by simp) _
  obtain ⟨z, hz⟩ : ∃ z, twiceR v = z := ⟨_, rfl⟩
  rw [hz]
  have HZ := Lib.hid hz; clear hz
  go_enter Try.func12, Try.ntmps12
  go_wp2_with (refine rk_load rfl (.tmp 1) rfl rfl e0 rfl ?_)
  generalize (w.alloc (.cells #[.int .i64 v.at_, .int .i64 v.end_, .int .i64 v.took, .int .i64 v.far, .bool v.mixed, .int .i64 v.quarters] 23)).alloc (.cells #[.int .i64 0, .int .i64 0, .int .i64 0, .int .i64 0, .bool false, .int .i64 0] 23) = w1 at e0 y0 b0 ⊢
  refine (rkmay_any v _).mono ?_
  rintro e w2 ⟨rfl, hb2⟩
  have e2 := e0.kept hb2; have y2 := y0.kept hb2; have b2 := b0.trans (hb2.mono (Nat.le_of_lt e0.lt))
  have hBs : B ≤ w2.heap.size := Nat.le_of_lt e2.lt
  have hBt := y2.lt
  clear e0 y0 b0 hb2
  cases hk : rkmay v with
  | false =>
    have hz := HZ.out
    rw [twice_no hk] at hz
    subst hz
    clear HZ hk
    go_wp2_with (refine rk_store rfl (.tmp 2) (.tmp 10) rfl rfl [.int .i64 0, .int .i64 0, .int .i64 0, .int .i64 0, .bool false, .int .i64 0] rfl y2 rfl rfl rfl ?_)
    refine rk_end2 (by rfl) (by rfl) (by rfl) (rk_put y2 [.int .i64 0, .int .i64 0, .int .i64 0, .int .i64 0, .bool false, .int .i64 0]) rfl rfl ?_
    exact ⟨rfl, b2.grown (rk_grown _ (B + 1) #[.int .i64 0, .int .i64 0, .int .i64 0, .int .i64 0, .bool false, .int .i64 0]) hBs (fun k hk => by cases hk; omega)⟩
  | true =>
  have hv := (rkmay_iff v).1 hk
  have q0 := hv.q0; have q1 := hv.q1
  have hz := HZ.out
  rw [twice_ok hk] at hz
  clear HZ hk hv
  go_upto_region 5 with (refine rk_load rfl (.tmp 1) rfl rfl e2 rfl ?_)
  have n3 := Bx.new w2 23 [.int .i64 v.at_, .int .i64 v.end_, .int .i64 v.took, .int .i64 v.far, .bool v.mixed, .int .i64 v.quarters]
  have e3 := e2.alloc (.cells #[.int .i64 v.at_, .int .i64 v.end_, .int .i64 v.took, .int .i64 v.far, .bool v.mixed, .int .i64 v.quarters] 23); have y3 := y2.alloc (.cells #[.int .i64 v.at_, .int .i64 v.end_, .int .i64 v.took, .int .i64 v.far, .bool v.mixed, .int .i64 v.quarters] 23); have b3 := b2.alloc hBs (.cells #[.int .i64 v.at_, .int .i64 v.end_, .int .i64 v.took, .int .i64 v.far, .bool v.mixed, .int .i64 v.quarters] 23)
  have hBs3 : B ≤ (w2.alloc (.cells #[.int .i64 v.at_, .int .i64 v.end_, .int .i64 v.took, .int .i64 v.far, .bool v.mixed, .int .i64 v.quarters] 23)).heap.size := by simp; omega
  obtain ⟨Q, hQ⟩ : ∃ Q, w2.heap.size = Q := ⟨_, rfl⟩
  rw [hQ] at n3 hBt hBs ⊢
  generalize w2.alloc (.cells #[.int .i64 v.at_, .int .i64 v.end_, .int .i64 v.took, .int .i64 v.far, .bool v.mixed, .int .i64 v.quarters] 23) = w3 at n3 e3 y3 b3 hBs3 ⊢
  clear e2 y2 b2 hQ
  have x5 := e3.cell 5 rfl
  by_cases hq : v.quarters < 20
  · have dq : decide (v.quarters < 20) = true := decide_eq_true hq
    have hm : moreQ v.quarters = v.quarters + 1 := if_pos hq
    rw [hm] at hz
    subst hz
    have z5 := n3.cell 5 rfl; have zf := n3.free 5
    have hw : IntKind.i64.wrap (v.quarters + 1) = v.quarters + 1 := IntWalk.i64_in _ (by omega)
    go_upto_region 7 with fail
    have n4 := n3.set 5 (.int .i64 (v.quarters + 1))
    have y4 := y3.far (p := ⟨Q, 5, none⟩) (by show B + 1 ≠ Q; omega) (.int .i64 (v.quarters + 1))
    have b4 := b3.setCell (p := ⟨Q, 5, none⟩) (by show B ≤ Q; omega) (.int .i64 (v.quarters + 1))
    have hBs : B ≤ (w3.setCell ⟨Q, 5, none⟩ (.int .i64 (v.quarters + 1))).heap.size := by have := b4.size; have := y4.lt; omega
    generalize w3.setCell ⟨Q, 5, none⟩ (.int .i64 (v.quarters + 1)) = w4 at n4 y4 b4 hBs ⊢
    clear n3 e3 y3 b3 z5 zf x5 hm
    go_wp2_with (first | (refine rk_load rfl (.tmp 5) rfl rfl n4 rfl ?_) | (refine rk_store rfl (.tmp 2) (.tmp 19) rfl rfl [.int .i64 v.at_, .int .i64 v.end_, .int .i64 v.took, .int .i64 v.far, .bool v.mixed, .int .i64 (v.quarters + 1)] rfl y4 rfl rfl rfl ?_))
    refine rk_end2 (by rfl) (by rfl) (by rfl) (rk_put y4 [.int .i64 v.at_, .int .i64 v.end_, .int .i64 v.took, .int .i64 v.far, .bool v.mixed, .int .i64 (v.quarters + 1)]) rfl rfl ?_
    exact ⟨rfl, b4.grown (rk_grown _ (B + 1) #[.int .i64 v.at_, .int .i64 v.end_, .int .i64 v.took, .int .i64 v.far, .bool v.mixed, .int .i64 (v.quarters + 1)]) hBs (fun k hk => by cases hk; omega)⟩
  · have dq : decide (v.quarters < 20) = false := decide_eq_false hq
    have hm : moreQ v.quarters = v.quarters := if_neg hq
    rw [hm] at hz
    subst hz
    have hBs := hBs3
    go_wp2_with (first | (refine rk_load rfl (.tmp 5) rfl rfl n3 rfl ?_) | (refine rk_store rfl (.tmp 2) (.tmp 19) rfl rfl [.int .i64 v.at_, .int .i64 v.end_, .int .i64 v.took, .int .i64 v.far, .bool v.mixed, .int .i64 v.quarters] rfl y3 rfl rfl rfl ?_))
    refine rk_end2 (by rfl) (by rfl) (by rfl) (rk_put y3 [.int .i64 v.at_, .int .i64 v.end_, .int .i64 v.took, .int .i64 v.far, .bool v.mixed, .int .i64 v.quarters]) rfl rfl ?_
    exact ⟨rfl, b3.grown (rk_grown _ (B + 1) #[.int .i64 v.at_, .int .i64 v.end_, .int .i64 v.took, .int .i64 v.far, .bool v.mixed, .int .i64 v.quarters]) hBs (fun k hk => by cases hk; omega)⟩

set_option maxRecDepth 100000 in
set_option maxHeartbeats 16000000 in
theorem rkcame_any (v : Rkv) (x : Prt) (now least : Int) (w : World) :
    Calls Try.prog 10 #[.agg #[.int .i64 v.at_, .int .i64 v.end_, .int .i64 v.took, .int .i64 v.far, .bool v.mixed, .int .i64 v.quarters], .agg #[.int .i64 x.seq, .int .i64 x.len, .int .i64 x.dsn, .int .i64 x.at_, .int .i64 x.tries, .bool x.came, .bool x.lost, .int .i64 x.total, .int .i64 x.last], .int .i64 now, .int .i64 least] w fun e w' => TellK w w' e (rkcameR v x now least) := by
  unfold TellK
  obtain ⟨B, hB⟩ : ∃ B, w.heap.size = B := ⟨_, rfl⟩
  rw [hB]
  have e0 := ((Bx.new w 23 [.int .i64 v.at_, .int .i64 v.end_, .int .i64 v.took, .int .i64 v.far, .bool v.mixed, .int .i64 v.quarters]).alloc (.cells #[.int .i64 x.seq, .int .i64 x.len, .int .i64 x.dsn, .int .i64 x.at_, .int .i64 x.tries, .bool x.came, .bool x.lost, .int .i64 x.total, .int .i64 x.last] 26)).alloc (.cells #[.int .i64 0, .int .i64 0, .int .i64 0, .int .i64 0, .bool false, .int .i64 0] 23)
  have p0 := (Bx.new (w.alloc (.cells #[.int .i64 v.at_, .int .i64 v.end_, .int .i64 v.took, .int .i64 v.far, .bool v.mixed, .int .i64 v.quarters] 23)) 26 [.int .i64 x.seq, .int .i64 x.len, .int .i64 x.dsn, .int .i64 x.at_, .int .i64 x.tries, .bool x.came, .bool x.lost, .int .i64 x.total, .int .i64 x.last]).alloc (.cells #[.int .i64 0, .int .i64 0, .int .i64 0, .int .i64 0, .bool false, .int .i64 0] 23)
  have y0 := Bx.new ((w.alloc (.cells #[.int .i64 v.at_, .int .i64 v.end_, .int .i64 v.took, .int .i64 v.far, .bool v.mixed, .int .i64 v.quarters] 23)).alloc (.cells #[.int .i64 x.seq, .int .i64 x.len, .int .i64 x.dsn, .int .i64 x.at_, .int .i64 x.tries, .bool x.came, .bool x.lost, .int .i64 x.total, .int .i64 x.last] 26)) 23 [.int .i64 0, .int .i64 0, .int .i64 0, .int .i64 0, .bool false, .int .i64 0]
  rw [World.size_alloc] at p0
  rw [World.size_alloc, World.size_alloc] at y0
  rw [hB] at e0 p0 y0
  have b0 : Below B w (((w.alloc (.cells #[.int .i64 v.at_, .int .i64 v.end_, .int .i64 v.took, .int .i64 v.far, .bool v.mixed, .int .i64 v.quarters] 23)).alloc (.cells #[.int .i64 x.seq, .int .i64 x.len, .int .i64 x.dsn, .int .i64 x.at_, .int .i64 x.tries, .bool x.came, .bool x.lost, .int .i64 x.total, .int .i64 x.last] 26)).alloc (.cells #[.int .i64 0, .int .i64 0, .int .i64 0, .int .i64 0, .bool false, .int .i64 0] 23)) := by rw [← hB]; exact (((Below.refl _ _).alloc (Nat.le_refl _) _).alloc (by simp) _).alloc (by simp; omega) _
  obtain ⟨z, hz⟩ : ∃ z, rkcameR v x now least = z := ⟨_, rfl⟩
  rw [hz]
  have HZ := Lib.hid hz; clear hz
  go_enter Try.func10, Try.ntmps10
  go_wp2_with (refine rk_load rfl (.tmp 4) rfl rfl e0 rfl ?_)
  generalize (((w.alloc (.cells #[.int .i64 v.at_, .int .i64 v.end_, .int .i64 v.took, .int .i64 v.far, .bool v.mixed, .int .i64 v.quarters] 23)).alloc (.cells #[.int .i64 x.seq, .int .i64 x.len, .int .i64 x.dsn, .int .i64 x.at_, .int .i64 x.tries, .bool x.came, .bool x.lost, .int .i64 x.total, .int .i64 x.last] 26)).alloc (.cells #[.int .i64 0, .int .i64 0, .int .i64 0, .int .i64 0, .bool false, .int .i64 0] 23)) = w1 at e0 p0 y0 b0 ⊢
  refine (rkmay_any v _).mono ?_
  rintro e w2 ⟨rfl, hb2⟩
  have e2 := e0.kept hb2; have p2 := p0.kept hb2; have y2 := y0.kept hb2; have b2 := b0.trans (hb2.mono (Nat.le_of_lt e0.lt))
  have hBs : B ≤ w2.heap.size := Nat.le_of_lt e2.lt
  clear e0 p0 y0 b0 hb2
  cases hk : rkmay v with
  | false =>
    have hz := HZ.out
    rw [rkcame_no (fun h => by have := h.1; rw [hk] at this; cases this)] at hz
    subst hz
    clear HZ hk
    go_wp2_with (refine rk_store rfl (.tmp 8) (.tmp 38) rfl rfl [.int .i64 0, .int .i64 0, .int .i64 0, .int .i64 0, .bool false, .int .i64 0] rfl y2 rfl rfl rfl ?_)
    refine rk_end2 (by rfl) (by rfl) (by rfl) (rk_put y2 [.int .i64 0, .int .i64 0, .int .i64 0, .int .i64 0, .bool false, .int .i64 0]) rfl rfl ?_
    exact ⟨rfl, b2.grown (rk_grown _ (B + 1 + 1) #[.int .i64 0, .int .i64 0, .int .i64 0, .int .i64 0, .bool false, .int .i64 0]) hBs (fun k hk => by cases hk; omega)⟩
  | true =>
  have hv := (rkmay_iff v).1 hk
  have c0 := p2.cell 0 rfl; have c1 := p2.cell 1 rfl; have c2 := p2.cell 2 rfl; have c3 := p2.cell 3 rfl; have c4 := p2.cell 4 rfl; have c5 := p2.cell 5 rfl; have c6 := p2.cell 6 rfl; have c7 := p2.cell 7 rfl; have c8 := p2.cell 8 rfl
  have h1 := rsone_any x w2
  cases ho : oneB x with
  | false =>
    rw [ho] at h1
    have hz := HZ.out
    rw [rkcame_no (fun h => by have := h.2.1; rw [ho] at this; cases this)] at hz
    subst hz
    clear HZ hk hv
    go_wp2_with (first
      | (go_at_call 25; refine h1.mono ?_; rintro e w3 ⟨rfl, hb3⟩; have e3 := e2.kept hb3; have p3 := p2.kept hb3; have y3 := y2.kept hb3; have b3 := b2.trans (hb3.mono hBs); have d3 := p3.cell 3 rfl; have hBs3 : B ≤ w3.heap.size := Nat.le_trans hBs hb3.size)
      | (go_at_call 26; refine (rkin_any _ _).mono ?_; rintro e wx ⟨rfl, rfl⟩)
      | (go_at_call 27; refine (rkbrief_any _ _).mono ?_; rintro e wx ⟨rfl, rfl⟩)
      | (refine rk_store rfl (.tmp 8) (.tmp 38) rfl rfl [.int .i64 0, .int .i64 0, .int .i64 0, .int .i64 0, .bool false, .int .i64 0] rfl y3 rfl rfl rfl ?_))
    refine rk_end2 (by rfl) (by rfl) (by rfl) (rk_put y3 [.int .i64 0, .int .i64 0, .int .i64 0, .int .i64 0, .bool false, .int .i64 0]) rfl rfl ?_
    exact ⟨rfl, b3.grown (rk_grown _ (B + 1 + 1) #[.int .i64 0, .int .i64 0, .int .i64 0, .int .i64 0, .bool false, .int .i64 0]) hBs3 (fun k hk => by cases hk; omega)⟩
  | true =>
  rw [ho] at h1
  have hp := (oneB_iff x).1 ho
  by_cases hn : now < x.at_
  case pos =>
    have dn : decide (now < x.at_) = true := decide_eq_true hn
    have hz := HZ.out
    rw [rkcame_no (fun h => by have := h.2.2.1; omega)] at hz
    subst hz
    clear HZ hk hv ho hp
    go_wp2_with (first
      | (go_at_call 25; refine h1.mono ?_; rintro e w3 ⟨rfl, hb3⟩; have e3 := e2.kept hb3; have p3 := p2.kept hb3; have y3 := y2.kept hb3; have b3 := b2.trans (hb3.mono hBs); have d3 := p3.cell 3 rfl; have hBs3 : B ≤ w3.heap.size := Nat.le_trans hBs hb3.size)
      | (go_at_call 26; refine (rkin_any _ _).mono ?_; rintro e wx ⟨rfl, rfl⟩)
      | (go_at_call 27; refine (rkbrief_any _ _).mono ?_; rintro e wx ⟨rfl, rfl⟩)
      | (refine rk_store rfl (.tmp 8) (.tmp 38) rfl rfl [.int .i64 0, .int .i64 0, .int .i64 0, .int .i64 0, .bool false, .int .i64 0] rfl y3 rfl rfl rfl ?_))
    refine rk_end2 (by rfl) (by rfl) (by rfl) (rk_put y3 [.int .i64 0, .int .i64 0, .int .i64 0, .int .i64 0, .bool false, .int .i64 0]) rfl rfl ?_
    exact ⟨rfl, b3.grown (rk_grown _ (B + 1 + 1) #[.int .i64 0, .int .i64 0, .int .i64 0, .int .i64 0, .bool false, .int .i64 0]) hBs3 (fun k hk => by cases hk; omega)⟩
  have dn : decide (now < x.at_) = false := decide_eq_false hn
  cases ht : t60 now with
  | false =>
    have hz := HZ.out
    rw [rkcame_no (fun h => by have := h.2.2.2.1; rw [ht] at this; cases this)] at hz
    subst hz
    clear HZ hk hv ho hp
    go_wp2_with (first
      | (go_at_call 25; refine h1.mono ?_; rintro e w3 ⟨rfl, hb3⟩; have e3 := e2.kept hb3; have p3 := p2.kept hb3; have y3 := y2.kept hb3; have b3 := b2.trans (hb3.mono hBs); have d3 := p3.cell 3 rfl; have hBs3 : B ≤ w3.heap.size := Nat.le_trans hBs hb3.size)
      | (go_at_call 26; refine (rkin_any _ _).mono ?_; rintro e wx ⟨rfl, rfl⟩)
      | (go_at_call 27; refine (rkbrief_any _ _).mono ?_; rintro e wx ⟨rfl, rfl⟩)
      | (refine rk_store rfl (.tmp 8) (.tmp 38) rfl rfl [.int .i64 0, .int .i64 0, .int .i64 0, .int .i64 0, .bool false, .int .i64 0] rfl y3 rfl rfl rfl ?_))
    refine rk_end2 (by rfl) (by rfl) (by rfl) (rk_put y3 [.int .i64 0, .int .i64 0, .int .i64 0, .int .i64 0, .bool false, .int .i64 0]) rfl rfl ?_
    exact ⟨rfl, b3.grown (rk_grown _ (B + 1 + 1) #[.int .i64 0, .int .i64 0, .int .i64 0, .int .i64 0, .bool false, .int .i64 0]) hBs3 (fun k hk => by cases hk; omega)⟩
  | true =>
  cases hb : brief least with
  | false =>
    have hz := HZ.out
    rw [rkcame_no (fun h => by have := h.2.2.2.2; rw [hb] at this; cases this)] at hz
    subst hz
    clear HZ hk hv ho hp
    go_wp2_with (first
      | (go_at_call 25; refine h1.mono ?_; rintro e w3 ⟨rfl, hb3⟩; have e3 := e2.kept hb3; have p3 := p2.kept hb3; have y3 := y2.kept hb3; have b3 := b2.trans (hb3.mono hBs); have d3 := p3.cell 3 rfl; have hBs3 : B ≤ w3.heap.size := Nat.le_trans hBs hb3.size)
      | (go_at_call 26; refine (rkin_any _ _).mono ?_; rintro e wx ⟨rfl, rfl⟩)
      | (go_at_call 27; refine (rkbrief_any _ _).mono ?_; rintro e wx ⟨rfl, rfl⟩)
      | (refine rk_store rfl (.tmp 8) (.tmp 38) rfl rfl [.int .i64 0, .int .i64 0, .int .i64 0, .int .i64 0, .bool false, .int .i64 0] rfl y3 rfl rfl rfl ?_))
    refine rk_end2 (by rfl) (by rfl) (by rfl) (rk_put y3 [.int .i64 0, .int .i64 0, .int .i64 0, .int .i64 0, .bool false, .int .i64 0]) rfl rfl ?_
    exact ⟨rfl, b3.grown (rk_grown _ (B + 1 + 1) #[.int .i64 0, .int .i64 0, .int .i64 0, .int .i64 0, .bool false, .int .i64 0]) hBs3 (fun k hk => by cases hk; omega)⟩
  | true =>
  have hok : RkCameOk v x now least := ⟨hk, ho, by omega, ht, hb⟩
  have hz := HZ.out
  rw [rkcame_ok hok] at hz
  have htn := (t60_iff now).1 ht
  have hxs := (t60_iff x.seq).1 hp.seq; have hxa := (t60_iff x.at_).1 hp.at_
  have hl1 := hp.l1; have hl2 := hp.l2; have ht1 := hp.t1; have hf1 := hv.f1; have hf0 := hv.f0; have hq0 := hv.q0; have ha0 := hv.a0; have ha1 := hv.a1
  obtain ⟨E, hE⟩ : ∃ E, endP x = E := ⟨_, rfl⟩
  have hEb : E = x.seq + x.len := by rw [← hE]; rfl
  have wE : IntKind.i64.wrap (x.seq + x.len) = E := by rw [hEb]; exact IntWalk.i64_in _ (by omega)
  obtain ⟨D, hD⟩ : ∃ D, now - x.at_ = D := ⟨_, rfl⟩
  have wD : IntKind.i64.wrap (now - x.at_) = D := by rw [← hD]; exact IntWalk.i64_in _ (by omega)
  have HZ2 := Lib.hid hz; have HE := Lib.hid hE; have HD := Lib.hid hD; have HEB := Lib.hid hEb
  clear HZ hok hz hv hp hk ho hE hD hEb
  go_upto_region 4 with (first
    | (go_at_call 25; refine h1.mono ?_; rintro e w3 ⟨rfl, hb3⟩; have e3 := e2.kept hb3; have p3 := p2.kept hb3; have y3 := y2.kept hb3; have b3 := b2.trans (hb3.mono hBs); have d3 := p3.cell 3 rfl; have hBs3 : B ≤ w3.heap.size := Nat.le_trans hBs hb3.size)
    | (go_at_call 26; refine (rkin_any _ _).mono ?_; rintro e wx ⟨rfl, rfl⟩)
    | (go_at_call 27; refine (rkbrief_any _ _).mono ?_; rintro e wx ⟨rfl, rfl⟩))
  clear c0 c1 c2 c3 c4 c5 c6 c7 c8 e2 p2 y2 b2 hb3 h1 ht hb d3
  go_upto_region 5 with (refine rk_load rfl (.tmp 4) rfl rfl e3 rfl ?_)
  have n4 := Bx.new w3 23 [.int .i64 v.at_, .int .i64 v.end_, .int .i64 v.took, .int .i64 v.far, .bool v.mixed, .int .i64 v.quarters]
  have e4 := e3.alloc (.cells #[.int .i64 v.at_, .int .i64 v.end_, .int .i64 v.took, .int .i64 v.far, .bool v.mixed, .int .i64 v.quarters] 23); have p4 := p3.alloc (.cells #[.int .i64 v.at_, .int .i64 v.end_, .int .i64 v.took, .int .i64 v.far, .bool v.mixed, .int .i64 v.quarters] 23); have y4 := y3.alloc (.cells #[.int .i64 v.at_, .int .i64 v.end_, .int .i64 v.took, .int .i64 v.far, .bool v.mixed, .int .i64 v.quarters] 23); have b4 := b3.alloc hBs3 (.cells #[.int .i64 v.at_, .int .i64 v.end_, .int .i64 v.took, .int .i64 v.far, .bool v.mixed, .int .i64 v.quarters] 23)
  obtain ⟨Q, hQ⟩ : ∃ Q, w3.heap.size = Q := ⟨_, rfl⟩
  have hQ3 : B + 1 + 1 < Q := by have := y3.lt; omega
  rw [hQ] at n4 ⊢
  generalize w3.alloc (.cells #[.int .i64 v.at_, .int .i64 v.end_, .int .i64 v.took, .int .i64 v.far, .bool v.mixed, .int .i64 v.quarters] 23) = w4 at n4 e4 p4 y4 b4 ⊢
  clear e3 p3 y3 b3 hQ hBs3 hBs
  by_cases g1 : x.tries = 1
  case pos =>
    have g2 : (x.tries == 1) = true := by simpa using g1
    have H1 := Lib.hid g1; clear g1 ht1
    by_cases m1 : E < v.far
    · have m2 : decide (E < v.far) = true := decide_eq_true m1
      have M2 := Lib.hid m1; clear m1
      have c0 := p4.cell 0 rfl; have c1 := p4.cell 1 rfl; have c3 := p4.cell 3 rfl; have c4 := p4.cell 4 rfl; have k0 := e4.cell 0 rfl; have k1 := e4.cell 1 rfl; have k3 := e4.cell 3 rfl
      go_upto_region 7 with fail
      have z0 := n4.cell 4 rfl; have zf := n4.free 4
      go_upto_region 8 with fail
      clear z0 zf m2
      clear c0 c1 c3 c4 k0 k1 k3
      have n5 := n4.set 4 (.bool true)
      have e5 := e4.far (p := ⟨Q, 4, none⟩) (by show B ≠ Q; omega) (.bool true); have p5 := p4.far (p := ⟨Q, 4, none⟩) (by show B + 1 ≠ Q; omega) (.bool true); have y5 := y4.far (p := ⟨Q, 4, none⟩) (by show B + 1 + 1 ≠ Q; omega) (.bool true)
      have b5 := b4.setCell (p := ⟨Q, 4, none⟩) (by show B ≤ Q; omega) (.bool true)
      generalize w4.setCell ⟨Q, 4, none⟩ (.bool true) = w5 at n5 e5 p5 y5 b5 ⊢
      clear n4 e4 p4 y4 b4
      have f1 : ¬ v.far < E := by have := M2.out; omega
      have f2 : decide (v.far < E) = false := decide_eq_false f1
      have F1 := Lib.hid f1; clear f1
      have c0 := p5.cell 0 rfl; have c1 := p5.cell 1 rfl; have c3 := p5.cell 3 rfl; have c4 := p5.cell 4 rfl; have k0 := e5.cell 0 rfl; have k1 := e5.cell 1 rfl; have k3 := e5.cell 3 rfl
      go_upto_region 10 with fail
      clear c0 c1 c3 c4 k0 k1 k3
      have s1 : decide (1 < x.tries) = false := decide_eq_false (by have := H1.out; omega)
      have c0 := p5.cell 0 rfl; have c1 := p5.cell 1 rfl; have c3 := p5.cell 3 rfl; have c4 := p5.cell 4 rfl; have k0 := e5.cell 0 rfl; have k1 := e5.cell 1 rfl; have k3 := e5.cell 3 rfl
      go_upto_region 12 with fail
      clear c0 c1 c3 c4 k0 k1 k3
      cases hah : aheadB v.at_ v.end_ x.at_ E with
      | true =>
        have HAH := Lib.hid hah; clear hah
        have c0 := p5.cell 0 rfl; have c1 := p5.cell 1 rfl; have c3 := p5.cell 3 rfl; have c4 := p5.cell 4 rfl; have k0 := e5.cell 0 rfl; have k1 := e5.cell 1 rfl; have k3 := e5.cell 3 rfl
        go_upto_region 13 with (go_at_call 28; refine (rkahead_any _ _ _ _ _).mono ?_; rintro e wx ⟨rfl, rfl⟩; rw [HAH.out])
        have z0 := n5.cell 0 rfl; have zf := n5.free 0
        go_upto_region 14 with fail
        clear z0 zf
        clear c0 c1 c3 c4 k0 k1 k3
        have n6 := n5.set 0 (.int .i64 x.at_)
        have e6 := e5.far (p := ⟨Q, 0, none⟩) (by show B ≠ Q; omega) (.int .i64 x.at_); have p6 := p5.far (p := ⟨Q, 0, none⟩) (by show B + 1 ≠ Q; omega) (.int .i64 x.at_); have y6 := y5.far (p := ⟨Q, 0, none⟩) (by show B + 1 + 1 ≠ Q; omega) (.int .i64 x.at_)
        have b6 := b5.setCell (p := ⟨Q, 0, none⟩) (by show B ≤ Q; omega) (.int .i64 x.at_)
        generalize w5.setCell ⟨Q, 0, none⟩ (.int .i64 x.at_) = w6 at n6 e6 p6 y6 b6 ⊢
        clear n5 e5 p5 y5 b5
        have c0 := p6.cell 0 rfl; have c1 := p6.cell 1 rfl; have c3 := p6.cell 3 rfl; have c4 := p6.cell 4 rfl; have k0 := e6.cell 0 rfl; have k1 := e6.cell 1 rfl; have k3 := e6.cell 3 rfl
        have z0 := n6.cell 1 rfl; have zf := n6.free 1
        go_upto_region 15 with fail
        clear z0 zf
        clear c0 c1 c3 c4 k0 k1 k3
        have n7 := n6.set 1 (.int .i64 E)
        have e7 := e6.far (p := ⟨Q, 1, none⟩) (by show B ≠ Q; omega) (.int .i64 E); have p7 := p6.far (p := ⟨Q, 1, none⟩) (by show B + 1 ≠ Q; omega) (.int .i64 E); have y7 := y6.far (p := ⟨Q, 1, none⟩) (by show B + 1 + 1 ≠ Q; omega) (.int .i64 E)
        have b7 := b6.setCell (p := ⟨Q, 1, none⟩) (by show B ≤ Q; omega) (.int .i64 E)
        generalize w6.setCell ⟨Q, 1, none⟩ (.int .i64 E) = w7 at n7 e7 p7 y7 b7 ⊢
        clear n6 e6 p6 y6 b6
        have c0 := p7.cell 0 rfl; have c1 := p7.cell 1 rfl; have c3 := p7.cell 3 rfl; have c4 := p7.cell 4 rfl; have k0 := e7.cell 0 rfl; have k1 := e7.cell 1 rfl; have k3 := e7.cell 3 rfl
        have z0 := n7.cell 2 rfl; have zf := n7.free 2
        go_upto_region 16 with fail
        clear z0 zf
        clear c0 c1 c3 c4 k0 k1 k3
        have n8 := n7.set 2 (.int .i64 D)
        have e8 := e7.far (p := ⟨Q, 2, none⟩) (by show B ≠ Q; omega) (.int .i64 D); have p8 := p7.far (p := ⟨Q, 2, none⟩) (by show B + 1 ≠ Q; omega) (.int .i64 D); have y8 := y7.far (p := ⟨Q, 2, none⟩) (by show B + 1 + 1 ≠ Q; omega) (.int .i64 D)
        have b8 := b7.setCell (p := ⟨Q, 2, none⟩) (by show B ≤ Q; omega) (.int .i64 D)
        generalize w7.setCell ⟨Q, 2, none⟩ (.int .i64 D) = w8 at n8 e8 p8 y8 b8 ⊢
        clear n7 e7 p7 y7 b7
        have hz := HZ2.out
        rw [new_new (decide_eq_false (fun h => by have := H1.out; omega)) (by rw [HE.out]; exact HAH.out), far_no (by rw [HE.out]; have := F1.out; omega), mix_yes ⟨H1.out, by rw [HE.out]; exact M2.out⟩] at hz
        try rw [HE.out] at hz
        try rw [HD.out] at hz
        subst hz
        clear HZ2
        have hBs : B ≤ w8.heap.size := by have := y8.lt; omega
        go_wp2_with (first | (refine rk_load rfl (.tmp 11) rfl rfl n8 rfl ?_) | (refine rk_store rfl (.tmp 8) (.tmp 91) rfl rfl [.int .i64 x.at_, .int .i64 E, .int .i64 D, .int .i64 v.far, .bool true, .int .i64 v.quarters] rfl y8 rfl rfl rfl ?_))
        refine rk_end2 (by rfl) (by rfl) (by rfl) (rk_put y8 [.int .i64 x.at_, .int .i64 E, .int .i64 D, .int .i64 v.far, .bool true, .int .i64 v.quarters]) rfl rfl ?_
        exact ⟨rfl, b8.grown (rk_grown _ (B + 1 + 1) #[.int .i64 x.at_, .int .i64 E, .int .i64 D, .int .i64 v.far, .bool true, .int .i64 v.quarters]) hBs (fun k hk => by cases hk; omega)⟩
      | false =>
        have HAH := Lib.hid hah; clear hah
        have c0 := p5.cell 0 rfl; have c1 := p5.cell 1 rfl; have c3 := p5.cell 3 rfl; have c4 := p5.cell 4 rfl; have k0 := e5.cell 0 rfl; have k1 := e5.cell 1 rfl; have k3 := e5.cell 3 rfl
        go_upto_region 16 with (go_at_call 28; refine (rkahead_any _ _ _ _ _).mono ?_; rintro e wx ⟨rfl, rfl⟩; rw [HAH.out])
        clear c0 c1 c3 c4 k0 k1 k3
        have hz := HZ2.out
        rw [new_old (decide_eq_false (fun h => by have := H1.out; omega)) (by rw [HE.out]; exact HAH.out), far_no (by rw [HE.out]; have := F1.out; omega), mix_yes ⟨H1.out, by rw [HE.out]; exact M2.out⟩] at hz
        try rw [HE.out] at hz
        try rw [HD.out] at hz
        subst hz
        clear HZ2
        have hBs : B ≤ w5.heap.size := by have := y5.lt; omega
        go_wp2_with (first | (refine rk_load rfl (.tmp 11) rfl rfl n5 rfl ?_) | (refine rk_store rfl (.tmp 8) (.tmp 91) rfl rfl [.int .i64 v.at_, .int .i64 v.end_, .int .i64 v.took, .int .i64 v.far, .bool true, .int .i64 v.quarters] rfl y5 rfl rfl rfl ?_))
        refine rk_end2 (by rfl) (by rfl) (by rfl) (rk_put y5 [.int .i64 v.at_, .int .i64 v.end_, .int .i64 v.took, .int .i64 v.far, .bool true, .int .i64 v.quarters]) rfl rfl ?_
        exact ⟨rfl, b5.grown (rk_grown _ (B + 1 + 1) #[.int .i64 v.at_, .int .i64 v.end_, .int .i64 v.took, .int .i64 v.far, .bool true, .int .i64 v.quarters]) hBs (fun k hk => by cases hk; omega)⟩
    · have m2 : decide (E < v.far) = false := decide_eq_false m1
      have M2 := Lib.hid m1; clear m1
      have c0 := p4.cell 0 rfl; have c1 := p4.cell 1 rfl; have c3 := p4.cell 3 rfl; have c4 := p4.cell 4 rfl; have k0 := e4.cell 0 rfl; have k1 := e4.cell 1 rfl; have k3 := e4.cell 3 rfl
      go_upto_region 8 with fail
      clear c0 c1 c3 c4 k0 k1 k3
      clear m2
      by_cases f1 : v.far < E
      · have f2 : decide (v.far < E) = true := decide_eq_true f1
        have F1 := Lib.hid f1; clear f1
        have c0 := p4.cell 0 rfl; have c1 := p4.cell 1 rfl; have c3 := p4.cell 3 rfl; have c4 := p4.cell 4 rfl; have k0 := e4.cell 0 rfl; have k1 := e4.cell 1 rfl; have k3 := e4.cell 3 rfl
        go_upto_region 9 with fail
        have z0 := n4.cell 3 rfl; have zf := n4.free 3
        go_upto_region 10 with fail
        clear z0 zf
        clear c0 c1 c3 c4 k0 k1 k3
        have n5 := n4.set 3 (.int .i64 E)
        have e5 := e4.far (p := ⟨Q, 3, none⟩) (by show B ≠ Q; omega) (.int .i64 E); have p5 := p4.far (p := ⟨Q, 3, none⟩) (by show B + 1 ≠ Q; omega) (.int .i64 E); have y5 := y4.far (p := ⟨Q, 3, none⟩) (by show B + 1 + 1 ≠ Q; omega) (.int .i64 E)
        have b5 := b4.setCell (p := ⟨Q, 3, none⟩) (by show B ≤ Q; omega) (.int .i64 E)
        generalize w4.setCell ⟨Q, 3, none⟩ (.int .i64 E) = w5 at n5 e5 p5 y5 b5 ⊢
        clear n4 e4 p4 y4 b4
        have s1 : decide (1 < x.tries) = false := decide_eq_false (by have := H1.out; omega)
        have c0 := p5.cell 0 rfl; have c1 := p5.cell 1 rfl; have c3 := p5.cell 3 rfl; have c4 := p5.cell 4 rfl; have k0 := e5.cell 0 rfl; have k1 := e5.cell 1 rfl; have k3 := e5.cell 3 rfl
        go_upto_region 12 with fail
        clear c0 c1 c3 c4 k0 k1 k3
        cases hah : aheadB v.at_ v.end_ x.at_ E with
        | true =>
          have HAH := Lib.hid hah; clear hah
          have c0 := p5.cell 0 rfl; have c1 := p5.cell 1 rfl; have c3 := p5.cell 3 rfl; have c4 := p5.cell 4 rfl; have k0 := e5.cell 0 rfl; have k1 := e5.cell 1 rfl; have k3 := e5.cell 3 rfl
          go_upto_region 13 with (go_at_call 28; refine (rkahead_any _ _ _ _ _).mono ?_; rintro e wx ⟨rfl, rfl⟩; rw [HAH.out])
          have z0 := n5.cell 0 rfl; have zf := n5.free 0
          go_upto_region 14 with fail
          clear z0 zf
          clear c0 c1 c3 c4 k0 k1 k3
          have n6 := n5.set 0 (.int .i64 x.at_)
          have e6 := e5.far (p := ⟨Q, 0, none⟩) (by show B ≠ Q; omega) (.int .i64 x.at_); have p6 := p5.far (p := ⟨Q, 0, none⟩) (by show B + 1 ≠ Q; omega) (.int .i64 x.at_); have y6 := y5.far (p := ⟨Q, 0, none⟩) (by show B + 1 + 1 ≠ Q; omega) (.int .i64 x.at_)
          have b6 := b5.setCell (p := ⟨Q, 0, none⟩) (by show B ≤ Q; omega) (.int .i64 x.at_)
          generalize w5.setCell ⟨Q, 0, none⟩ (.int .i64 x.at_) = w6 at n6 e6 p6 y6 b6 ⊢
          clear n5 e5 p5 y5 b5
          have c0 := p6.cell 0 rfl; have c1 := p6.cell 1 rfl; have c3 := p6.cell 3 rfl; have c4 := p6.cell 4 rfl; have k0 := e6.cell 0 rfl; have k1 := e6.cell 1 rfl; have k3 := e6.cell 3 rfl
          have z0 := n6.cell 1 rfl; have zf := n6.free 1
          go_upto_region 15 with fail
          clear z0 zf
          clear c0 c1 c3 c4 k0 k1 k3
          have n7 := n6.set 1 (.int .i64 E)
          have e7 := e6.far (p := ⟨Q, 1, none⟩) (by show B ≠ Q; omega) (.int .i64 E); have p7 := p6.far (p := ⟨Q, 1, none⟩) (by show B + 1 ≠ Q; omega) (.int .i64 E); have y7 := y6.far (p := ⟨Q, 1, none⟩) (by show B + 1 + 1 ≠ Q; omega) (.int .i64 E)
          have b7 := b6.setCell (p := ⟨Q, 1, none⟩) (by show B ≤ Q; omega) (.int .i64 E)
          generalize w6.setCell ⟨Q, 1, none⟩ (.int .i64 E) = w7 at n7 e7 p7 y7 b7 ⊢
          clear n6 e6 p6 y6 b6
          have c0 := p7.cell 0 rfl; have c1 := p7.cell 1 rfl; have c3 := p7.cell 3 rfl; have c4 := p7.cell 4 rfl; have k0 := e7.cell 0 rfl; have k1 := e7.cell 1 rfl; have k3 := e7.cell 3 rfl
          have z0 := n7.cell 2 rfl; have zf := n7.free 2
          go_upto_region 16 with fail
          clear z0 zf
          clear c0 c1 c3 c4 k0 k1 k3
          have n8 := n7.set 2 (.int .i64 D)
          have e8 := e7.far (p := ⟨Q, 2, none⟩) (by show B ≠ Q; omega) (.int .i64 D); have p8 := p7.far (p := ⟨Q, 2, none⟩) (by show B + 1 ≠ Q; omega) (.int .i64 D); have y8 := y7.far (p := ⟨Q, 2, none⟩) (by show B + 1 + 1 ≠ Q; omega) (.int .i64 D)
          have b8 := b7.setCell (p := ⟨Q, 2, none⟩) (by show B ≤ Q; omega) (.int .i64 D)
          generalize w7.setCell ⟨Q, 2, none⟩ (.int .i64 D) = w8 at n8 e8 p8 y8 b8 ⊢
          clear n7 e7 p7 y7 b7
          have hz := HZ2.out
          rw [new_new (decide_eq_false (fun h => by have := H1.out; omega)) (by rw [HE.out]; exact HAH.out), far_yes (by rw [HE.out]; exact F1.out), mix_no (fun h => by have h2 := h.2; rw [HE.out] at h2; have := M2.out; omega)] at hz
          try rw [HE.out] at hz
          try rw [HD.out] at hz
          subst hz
          clear HZ2
          have hBs : B ≤ w8.heap.size := by have := y8.lt; omega
          go_wp2_with (first | (refine rk_load rfl (.tmp 11) rfl rfl n8 rfl ?_) | (refine rk_store rfl (.tmp 8) (.tmp 91) rfl rfl [.int .i64 x.at_, .int .i64 E, .int .i64 D, .int .i64 E, .bool v.mixed, .int .i64 v.quarters] rfl y8 rfl rfl rfl ?_))
          refine rk_end2 (by rfl) (by rfl) (by rfl) (rk_put y8 [.int .i64 x.at_, .int .i64 E, .int .i64 D, .int .i64 E, .bool v.mixed, .int .i64 v.quarters]) rfl rfl ?_
          exact ⟨rfl, b8.grown (rk_grown _ (B + 1 + 1) #[.int .i64 x.at_, .int .i64 E, .int .i64 D, .int .i64 E, .bool v.mixed, .int .i64 v.quarters]) hBs (fun k hk => by cases hk; omega)⟩
        | false =>
          have HAH := Lib.hid hah; clear hah
          have c0 := p5.cell 0 rfl; have c1 := p5.cell 1 rfl; have c3 := p5.cell 3 rfl; have c4 := p5.cell 4 rfl; have k0 := e5.cell 0 rfl; have k1 := e5.cell 1 rfl; have k3 := e5.cell 3 rfl
          go_upto_region 16 with (go_at_call 28; refine (rkahead_any _ _ _ _ _).mono ?_; rintro e wx ⟨rfl, rfl⟩; rw [HAH.out])
          clear c0 c1 c3 c4 k0 k1 k3
          have hz := HZ2.out
          rw [new_old (decide_eq_false (fun h => by have := H1.out; omega)) (by rw [HE.out]; exact HAH.out), far_yes (by rw [HE.out]; exact F1.out), mix_no (fun h => by have h2 := h.2; rw [HE.out] at h2; have := M2.out; omega)] at hz
          try rw [HE.out] at hz
          try rw [HD.out] at hz
          subst hz
          clear HZ2
          have hBs : B ≤ w5.heap.size := by have := y5.lt; omega
          go_wp2_with (first | (refine rk_load rfl (.tmp 11) rfl rfl n5 rfl ?_) | (refine rk_store rfl (.tmp 8) (.tmp 91) rfl rfl [.int .i64 v.at_, .int .i64 v.end_, .int .i64 v.took, .int .i64 E, .bool v.mixed, .int .i64 v.quarters] rfl y5 rfl rfl rfl ?_))
          refine rk_end2 (by rfl) (by rfl) (by rfl) (rk_put y5 [.int .i64 v.at_, .int .i64 v.end_, .int .i64 v.took, .int .i64 E, .bool v.mixed, .int .i64 v.quarters]) rfl rfl ?_
          exact ⟨rfl, b5.grown (rk_grown _ (B + 1 + 1) #[.int .i64 v.at_, .int .i64 v.end_, .int .i64 v.took, .int .i64 E, .bool v.mixed, .int .i64 v.quarters]) hBs (fun k hk => by cases hk; omega)⟩
      · have f2 : decide (v.far < E) = false := decide_eq_false f1
        have F1 := Lib.hid f1; clear f1
        have c0 := p4.cell 0 rfl; have c1 := p4.cell 1 rfl; have c3 := p4.cell 3 rfl; have c4 := p4.cell 4 rfl; have k0 := e4.cell 0 rfl; have k1 := e4.cell 1 rfl; have k3 := e4.cell 3 rfl
        go_upto_region 10 with fail
        clear c0 c1 c3 c4 k0 k1 k3
        have s1 : decide (1 < x.tries) = false := decide_eq_false (by have := H1.out; omega)
        have c0 := p4.cell 0 rfl; have c1 := p4.cell 1 rfl; have c3 := p4.cell 3 rfl; have c4 := p4.cell 4 rfl; have k0 := e4.cell 0 rfl; have k1 := e4.cell 1 rfl; have k3 := e4.cell 3 rfl
        go_upto_region 12 with fail
        clear c0 c1 c3 c4 k0 k1 k3
        cases hah : aheadB v.at_ v.end_ x.at_ E with
        | true =>
          have HAH := Lib.hid hah; clear hah
          have c0 := p4.cell 0 rfl; have c1 := p4.cell 1 rfl; have c3 := p4.cell 3 rfl; have c4 := p4.cell 4 rfl; have k0 := e4.cell 0 rfl; have k1 := e4.cell 1 rfl; have k3 := e4.cell 3 rfl
          go_upto_region 13 with (go_at_call 28; refine (rkahead_any _ _ _ _ _).mono ?_; rintro e wx ⟨rfl, rfl⟩; rw [HAH.out])
          have z0 := n4.cell 0 rfl; have zf := n4.free 0
          go_upto_region 14 with fail
          clear z0 zf
          clear c0 c1 c3 c4 k0 k1 k3
          have n5 := n4.set 0 (.int .i64 x.at_)
          have e5 := e4.far (p := ⟨Q, 0, none⟩) (by show B ≠ Q; omega) (.int .i64 x.at_); have p5 := p4.far (p := ⟨Q, 0, none⟩) (by show B + 1 ≠ Q; omega) (.int .i64 x.at_); have y5 := y4.far (p := ⟨Q, 0, none⟩) (by show B + 1 + 1 ≠ Q; omega) (.int .i64 x.at_)
          have b5 := b4.setCell (p := ⟨Q, 0, none⟩) (by show B ≤ Q; omega) (.int .i64 x.at_)
          generalize w4.setCell ⟨Q, 0, none⟩ (.int .i64 x.at_) = w5 at n5 e5 p5 y5 b5 ⊢
          clear n4 e4 p4 y4 b4
          have c0 := p5.cell 0 rfl; have c1 := p5.cell 1 rfl; have c3 := p5.cell 3 rfl; have c4 := p5.cell 4 rfl; have k0 := e5.cell 0 rfl; have k1 := e5.cell 1 rfl; have k3 := e5.cell 3 rfl
          have z0 := n5.cell 1 rfl; have zf := n5.free 1
          go_upto_region 15 with fail
          clear z0 zf
          clear c0 c1 c3 c4 k0 k1 k3
          have n6 := n5.set 1 (.int .i64 E)
          have e6 := e5.far (p := ⟨Q, 1, none⟩) (by show B ≠ Q; omega) (.int .i64 E); have p6 := p5.far (p := ⟨Q, 1, none⟩) (by show B + 1 ≠ Q; omega) (.int .i64 E); have y6 := y5.far (p := ⟨Q, 1, none⟩) (by show B + 1 + 1 ≠ Q; omega) (.int .i64 E)
          have b6 := b5.setCell (p := ⟨Q, 1, none⟩) (by show B ≤ Q; omega) (.int .i64 E)
          generalize w5.setCell ⟨Q, 1, none⟩ (.int .i64 E) = w6 at n6 e6 p6 y6 b6 ⊢
          clear n5 e5 p5 y5 b5
          have c0 := p6.cell 0 rfl; have c1 := p6.cell 1 rfl; have c3 := p6.cell 3 rfl; have c4 := p6.cell 4 rfl; have k0 := e6.cell 0 rfl; have k1 := e6.cell 1 rfl; have k3 := e6.cell 3 rfl
          have z0 := n6.cell 2 rfl; have zf := n6.free 2
          go_upto_region 16 with fail
          clear z0 zf
          clear c0 c1 c3 c4 k0 k1 k3
          have n7 := n6.set 2 (.int .i64 D)
          have e7 := e6.far (p := ⟨Q, 2, none⟩) (by show B ≠ Q; omega) (.int .i64 D); have p7 := p6.far (p := ⟨Q, 2, none⟩) (by show B + 1 ≠ Q; omega) (.int .i64 D); have y7 := y6.far (p := ⟨Q, 2, none⟩) (by show B + 1 + 1 ≠ Q; omega) (.int .i64 D)
          have b7 := b6.setCell (p := ⟨Q, 2, none⟩) (by show B ≤ Q; omega) (.int .i64 D)
          generalize w6.setCell ⟨Q, 2, none⟩ (.int .i64 D) = w7 at n7 e7 p7 y7 b7 ⊢
          clear n6 e6 p6 y6 b6
          have hz := HZ2.out
          rw [new_new (decide_eq_false (fun h => by have := H1.out; omega)) (by rw [HE.out]; exact HAH.out), far_no (by rw [HE.out]; have := F1.out; omega), mix_no (fun h => by have h2 := h.2; rw [HE.out] at h2; have := M2.out; omega)] at hz
          try rw [HE.out] at hz
          try rw [HD.out] at hz
          subst hz
          clear HZ2
          have hBs : B ≤ w7.heap.size := by have := y7.lt; omega
          go_wp2_with (first | (refine rk_load rfl (.tmp 11) rfl rfl n7 rfl ?_) | (refine rk_store rfl (.tmp 8) (.tmp 91) rfl rfl [.int .i64 x.at_, .int .i64 E, .int .i64 D, .int .i64 v.far, .bool v.mixed, .int .i64 v.quarters] rfl y7 rfl rfl rfl ?_))
          refine rk_end2 (by rfl) (by rfl) (by rfl) (rk_put y7 [.int .i64 x.at_, .int .i64 E, .int .i64 D, .int .i64 v.far, .bool v.mixed, .int .i64 v.quarters]) rfl rfl ?_
          exact ⟨rfl, b7.grown (rk_grown _ (B + 1 + 1) #[.int .i64 x.at_, .int .i64 E, .int .i64 D, .int .i64 v.far, .bool v.mixed, .int .i64 v.quarters]) hBs (fun k hk => by cases hk; omega)⟩
        | false =>
          have HAH := Lib.hid hah; clear hah
          have c0 := p4.cell 0 rfl; have c1 := p4.cell 1 rfl; have c3 := p4.cell 3 rfl; have c4 := p4.cell 4 rfl; have k0 := e4.cell 0 rfl; have k1 := e4.cell 1 rfl; have k3 := e4.cell 3 rfl
          go_upto_region 16 with (go_at_call 28; refine (rkahead_any _ _ _ _ _).mono ?_; rintro e wx ⟨rfl, rfl⟩; rw [HAH.out])
          clear c0 c1 c3 c4 k0 k1 k3
          have hz := HZ2.out
          rw [new_old (decide_eq_false (fun h => by have := H1.out; omega)) (by rw [HE.out]; exact HAH.out), far_no (by rw [HE.out]; have := F1.out; omega), mix_no (fun h => by have h2 := h.2; rw [HE.out] at h2; have := M2.out; omega)] at hz
          try rw [HE.out] at hz
          try rw [HD.out] at hz
          subst hz
          clear HZ2
          have hBs : B ≤ w4.heap.size := by have := y4.lt; omega
          go_wp2_with (first | (refine rk_load rfl (.tmp 11) rfl rfl n4 rfl ?_) | (refine rk_store rfl (.tmp 8) (.tmp 91) rfl rfl [.int .i64 v.at_, .int .i64 v.end_, .int .i64 v.took, .int .i64 v.far, .bool v.mixed, .int .i64 v.quarters] rfl y4 rfl rfl rfl ?_))
          refine rk_end2 (by rfl) (by rfl) (by rfl) (rk_put y4 [.int .i64 v.at_, .int .i64 v.end_, .int .i64 v.took, .int .i64 v.far, .bool v.mixed, .int .i64 v.quarters]) rfl rfl ?_
          exact ⟨rfl, b4.grown (rk_grown _ (B + 1 + 1) #[.int .i64 v.at_, .int .i64 v.end_, .int .i64 v.took, .int .i64 v.far, .bool v.mixed, .int .i64 v.quarters]) hBs (fun k hk => by cases hk; omega)⟩
  case neg =>
    have g2 : (x.tries == 1) = false := by simpa using g1
    have g3 : 1 < x.tries := by omega
    have G1 := Lib.hid g1; have H1 := Lib.hid g3; clear g1 g3
    have c0 := p4.cell 0 rfl; have c1 := p4.cell 1 rfl; have c3 := p4.cell 3 rfl; have c4 := p4.cell 4 rfl; have k0 := e4.cell 0 rfl; have k1 := e4.cell 1 rfl; have k3 := e4.cell 3 rfl
    go_upto_region 8 with fail
    clear c0 c1 c3 c4 k0 k1 k3
    by_cases f1 : v.far < E
    · have f2 : decide (v.far < E) = true := decide_eq_true f1
      have F1 := Lib.hid f1; clear f1
      have c0 := p4.cell 0 rfl; have c1 := p4.cell 1 rfl; have c3 := p4.cell 3 rfl; have c4 := p4.cell 4 rfl; have k0 := e4.cell 0 rfl; have k1 := e4.cell 1 rfl; have k3 := e4.cell 3 rfl
      go_upto_region 9 with fail
      have z0 := n4.cell 3 rfl; have zf := n4.free 3
      go_upto_region 10 with fail
      clear z0 zf
      clear c0 c1 c3 c4 k0 k1 k3
      have n5 := n4.set 3 (.int .i64 E)
      have e5 := e4.far (p := ⟨Q, 3, none⟩) (by show B ≠ Q; omega) (.int .i64 E); have p5 := p4.far (p := ⟨Q, 3, none⟩) (by show B + 1 ≠ Q; omega) (.int .i64 E); have y5 := y4.far (p := ⟨Q, 3, none⟩) (by show B + 1 + 1 ≠ Q; omega) (.int .i64 E)
      have b5 := b4.setCell (p := ⟨Q, 3, none⟩) (by show B ≤ Q; omega) (.int .i64 E)
      generalize w4.setCell ⟨Q, 3, none⟩ (.int .i64 E) = w5 at n5 e5 p5 y5 b5 ⊢
      clear n4 e4 p4 y4 b4
      have s1 : decide (1 < x.tries) = true := decide_eq_true (by have := H1.out; omega)
      by_cases s2 : D < least
      · have s3 : decide (D < least) = true := decide_eq_true s2
        have S2 := Lib.hid s2; clear s2
        have c0 := p5.cell 0 rfl; have c1 := p5.cell 1 rfl; have c3 := p5.cell 3 rfl; have c4 := p5.cell 4 rfl; have k0 := e5.cell 0 rfl; have k1 := e5.cell 1 rfl; have k3 := e5.cell 3 rfl
        go_upto_region 11 with fail
        clear c0 c1 c3 c4 k0 k1 k3
        have hz := HZ2.out
        rw [new_soon (decide_eq_true ⟨by have := H1.out; omega, by rw [HD.out]; exact S2.out⟩), far_yes (by rw [HE.out]; exact F1.out), mix_no (fun h => G1.out h.1)] at hz
        try rw [HE.out] at hz
        try rw [HD.out] at hz
        subst hz
        clear HZ2
        have hBs : B ≤ w5.heap.size := by have := y5.lt; omega
        go_wp2_with (first | (refine rk_load rfl (.tmp 11) rfl rfl n5 rfl ?_) | (refine rk_store rfl (.tmp 8) (.tmp 72) rfl rfl [.int .i64 v.at_, .int .i64 v.end_, .int .i64 v.took, .int .i64 E, .bool v.mixed, .int .i64 v.quarters] rfl y5 rfl rfl rfl ?_))
        refine rk_end2 (by rfl) (by rfl) (by rfl) (rk_put y5 [.int .i64 v.at_, .int .i64 v.end_, .int .i64 v.took, .int .i64 E, .bool v.mixed, .int .i64 v.quarters]) rfl rfl ?_
        exact ⟨rfl, b5.grown (rk_grown _ (B + 1 + 1) #[.int .i64 v.at_, .int .i64 v.end_, .int .i64 v.took, .int .i64 E, .bool v.mixed, .int .i64 v.quarters]) hBs (fun k hk => by cases hk; omega)⟩
      · have s3 : decide (D < least) = false := decide_eq_false s2
        have S2 := Lib.hid s2; clear s2
        have c0 := p5.cell 0 rfl; have c1 := p5.cell 1 rfl; have c3 := p5.cell 3 rfl; have c4 := p5.cell 4 rfl; have k0 := e5.cell 0 rfl; have k1 := e5.cell 1 rfl; have k3 := e5.cell 3 rfl
        go_upto_region 12 with fail
        clear c0 c1 c3 c4 k0 k1 k3
        cases hah : aheadB v.at_ v.end_ x.at_ E with
        | true =>
          have HAH := Lib.hid hah; clear hah
          have c0 := p5.cell 0 rfl; have c1 := p5.cell 1 rfl; have c3 := p5.cell 3 rfl; have c4 := p5.cell 4 rfl; have k0 := e5.cell 0 rfl; have k1 := e5.cell 1 rfl; have k3 := e5.cell 3 rfl
          go_upto_region 13 with (go_at_call 28; refine (rkahead_any _ _ _ _ _).mono ?_; rintro e wx ⟨rfl, rfl⟩; rw [HAH.out])
          have z0 := n5.cell 0 rfl; have zf := n5.free 0
          go_upto_region 14 with fail
          clear z0 zf
          clear c0 c1 c3 c4 k0 k1 k3
          have n6 := n5.set 0 (.int .i64 x.at_)
          have e6 := e5.far (p := ⟨Q, 0, none⟩) (by show B ≠ Q; omega) (.int .i64 x.at_); have p6 := p5.far (p := ⟨Q, 0, none⟩) (by show B + 1 ≠ Q; omega) (.int .i64 x.at_); have y6 := y5.far (p := ⟨Q, 0, none⟩) (by show B + 1 + 1 ≠ Q; omega) (.int .i64 x.at_)
          have b6 := b5.setCell (p := ⟨Q, 0, none⟩) (by show B ≤ Q; omega) (.int .i64 x.at_)
          generalize w5.setCell ⟨Q, 0, none⟩ (.int .i64 x.at_) = w6 at n6 e6 p6 y6 b6 ⊢
          clear n5 e5 p5 y5 b5
          have c0 := p6.cell 0 rfl; have c1 := p6.cell 1 rfl; have c3 := p6.cell 3 rfl; have c4 := p6.cell 4 rfl; have k0 := e6.cell 0 rfl; have k1 := e6.cell 1 rfl; have k3 := e6.cell 3 rfl
          have z0 := n6.cell 1 rfl; have zf := n6.free 1
          go_upto_region 15 with fail
          clear z0 zf
          clear c0 c1 c3 c4 k0 k1 k3
          have n7 := n6.set 1 (.int .i64 E)
          have e7 := e6.far (p := ⟨Q, 1, none⟩) (by show B ≠ Q; omega) (.int .i64 E); have p7 := p6.far (p := ⟨Q, 1, none⟩) (by show B + 1 ≠ Q; omega) (.int .i64 E); have y7 := y6.far (p := ⟨Q, 1, none⟩) (by show B + 1 + 1 ≠ Q; omega) (.int .i64 E)
          have b7 := b6.setCell (p := ⟨Q, 1, none⟩) (by show B ≤ Q; omega) (.int .i64 E)
          generalize w6.setCell ⟨Q, 1, none⟩ (.int .i64 E) = w7 at n7 e7 p7 y7 b7 ⊢
          clear n6 e6 p6 y6 b6
          have c0 := p7.cell 0 rfl; have c1 := p7.cell 1 rfl; have c3 := p7.cell 3 rfl; have c4 := p7.cell 4 rfl; have k0 := e7.cell 0 rfl; have k1 := e7.cell 1 rfl; have k3 := e7.cell 3 rfl
          have z0 := n7.cell 2 rfl; have zf := n7.free 2
          go_upto_region 16 with fail
          clear z0 zf
          clear c0 c1 c3 c4 k0 k1 k3
          have n8 := n7.set 2 (.int .i64 D)
          have e8 := e7.far (p := ⟨Q, 2, none⟩) (by show B ≠ Q; omega) (.int .i64 D); have p8 := p7.far (p := ⟨Q, 2, none⟩) (by show B + 1 ≠ Q; omega) (.int .i64 D); have y8 := y7.far (p := ⟨Q, 2, none⟩) (by show B + 1 + 1 ≠ Q; omega) (.int .i64 D)
          have b8 := b7.setCell (p := ⟨Q, 2, none⟩) (by show B ≤ Q; omega) (.int .i64 D)
          generalize w7.setCell ⟨Q, 2, none⟩ (.int .i64 D) = w8 at n8 e8 p8 y8 b8 ⊢
          clear n7 e7 p7 y7 b7
          have hz := HZ2.out
          rw [new_new (decide_eq_false (fun h => by have h2 := h.2; rw [HD.out] at h2; have := S2.out; omega)) (by rw [HE.out]; exact HAH.out), far_yes (by rw [HE.out]; exact F1.out), mix_no (fun h => G1.out h.1)] at hz
          try rw [HE.out] at hz
          try rw [HD.out] at hz
          subst hz
          clear HZ2
          have hBs : B ≤ w8.heap.size := by have := y8.lt; omega
          go_wp2_with (first | (refine rk_load rfl (.tmp 11) rfl rfl n8 rfl ?_) | (refine rk_store rfl (.tmp 8) (.tmp 91) rfl rfl [.int .i64 x.at_, .int .i64 E, .int .i64 D, .int .i64 E, .bool v.mixed, .int .i64 v.quarters] rfl y8 rfl rfl rfl ?_))
          refine rk_end2 (by rfl) (by rfl) (by rfl) (rk_put y8 [.int .i64 x.at_, .int .i64 E, .int .i64 D, .int .i64 E, .bool v.mixed, .int .i64 v.quarters]) rfl rfl ?_
          exact ⟨rfl, b8.grown (rk_grown _ (B + 1 + 1) #[.int .i64 x.at_, .int .i64 E, .int .i64 D, .int .i64 E, .bool v.mixed, .int .i64 v.quarters]) hBs (fun k hk => by cases hk; omega)⟩
        | false =>
          have HAH := Lib.hid hah; clear hah
          have c0 := p5.cell 0 rfl; have c1 := p5.cell 1 rfl; have c3 := p5.cell 3 rfl; have c4 := p5.cell 4 rfl; have k0 := e5.cell 0 rfl; have k1 := e5.cell 1 rfl; have k3 := e5.cell 3 rfl
          go_upto_region 16 with (go_at_call 28; refine (rkahead_any _ _ _ _ _).mono ?_; rintro e wx ⟨rfl, rfl⟩; rw [HAH.out])
          clear c0 c1 c3 c4 k0 k1 k3
          have hz := HZ2.out
          rw [new_old (decide_eq_false (fun h => by have h2 := h.2; rw [HD.out] at h2; have := S2.out; omega)) (by rw [HE.out]; exact HAH.out), far_yes (by rw [HE.out]; exact F1.out), mix_no (fun h => G1.out h.1)] at hz
          try rw [HE.out] at hz
          try rw [HD.out] at hz
          subst hz
          clear HZ2
          have hBs : B ≤ w5.heap.size := by have := y5.lt; omega
          go_wp2_with (first | (refine rk_load rfl (.tmp 11) rfl rfl n5 rfl ?_) | (refine rk_store rfl (.tmp 8) (.tmp 91) rfl rfl [.int .i64 v.at_, .int .i64 v.end_, .int .i64 v.took, .int .i64 E, .bool v.mixed, .int .i64 v.quarters] rfl y5 rfl rfl rfl ?_))
          refine rk_end2 (by rfl) (by rfl) (by rfl) (rk_put y5 [.int .i64 v.at_, .int .i64 v.end_, .int .i64 v.took, .int .i64 E, .bool v.mixed, .int .i64 v.quarters]) rfl rfl ?_
          exact ⟨rfl, b5.grown (rk_grown _ (B + 1 + 1) #[.int .i64 v.at_, .int .i64 v.end_, .int .i64 v.took, .int .i64 E, .bool v.mixed, .int .i64 v.quarters]) hBs (fun k hk => by cases hk; omega)⟩
    · have f2 : decide (v.far < E) = false := decide_eq_false f1
      have F1 := Lib.hid f1; clear f1
      have c0 := p4.cell 0 rfl; have c1 := p4.cell 1 rfl; have c3 := p4.cell 3 rfl; have c4 := p4.cell 4 rfl; have k0 := e4.cell 0 rfl; have k1 := e4.cell 1 rfl; have k3 := e4.cell 3 rfl
      go_upto_region 10 with fail
      clear c0 c1 c3 c4 k0 k1 k3
      have s1 : decide (1 < x.tries) = true := decide_eq_true (by have := H1.out; omega)
      by_cases s2 : D < least
      · have s3 : decide (D < least) = true := decide_eq_true s2
        have S2 := Lib.hid s2; clear s2
        have c0 := p4.cell 0 rfl; have c1 := p4.cell 1 rfl; have c3 := p4.cell 3 rfl; have c4 := p4.cell 4 rfl; have k0 := e4.cell 0 rfl; have k1 := e4.cell 1 rfl; have k3 := e4.cell 3 rfl
        go_upto_region 11 with fail
        clear c0 c1 c3 c4 k0 k1 k3
        have hz := HZ2.out
        rw [new_soon (decide_eq_true ⟨by have := H1.out; omega, by rw [HD.out]; exact S2.out⟩), far_no (by rw [HE.out]; have := F1.out; omega), mix_no (fun h => G1.out h.1)] at hz
        try rw [HE.out] at hz
        try rw [HD.out] at hz
        subst hz
        clear HZ2
        have hBs : B ≤ w4.heap.size := by have := y4.lt; omega
        go_wp2_with (first | (refine rk_load rfl (.tmp 11) rfl rfl n4 rfl ?_) | (refine rk_store rfl (.tmp 8) (.tmp 72) rfl rfl [.int .i64 v.at_, .int .i64 v.end_, .int .i64 v.took, .int .i64 v.far, .bool v.mixed, .int .i64 v.quarters] rfl y4 rfl rfl rfl ?_))
        refine rk_end2 (by rfl) (by rfl) (by rfl) (rk_put y4 [.int .i64 v.at_, .int .i64 v.end_, .int .i64 v.took, .int .i64 v.far, .bool v.mixed, .int .i64 v.quarters]) rfl rfl ?_
        exact ⟨rfl, b4.grown (rk_grown _ (B + 1 + 1) #[.int .i64 v.at_, .int .i64 v.end_, .int .i64 v.took, .int .i64 v.far, .bool v.mixed, .int .i64 v.quarters]) hBs (fun k hk => by cases hk; omega)⟩
      · have s3 : decide (D < least) = false := decide_eq_false s2
        have S2 := Lib.hid s2; clear s2
        have c0 := p4.cell 0 rfl; have c1 := p4.cell 1 rfl; have c3 := p4.cell 3 rfl; have c4 := p4.cell 4 rfl; have k0 := e4.cell 0 rfl; have k1 := e4.cell 1 rfl; have k3 := e4.cell 3 rfl
        go_upto_region 12 with fail
        clear c0 c1 c3 c4 k0 k1 k3
        cases hah : aheadB v.at_ v.end_ x.at_ E with
        | true =>
          have HAH := Lib.hid hah; clear hah
          have c0 := p4.cell 0 rfl; have c1 := p4.cell 1 rfl; have c3 := p4.cell 3 rfl; have c4 := p4.cell 4 rfl; have k0 := e4.cell 0 rfl; have k1 := e4.cell 1 rfl; have k3 := e4.cell 3 rfl
          go_upto_region 13 with (go_at_call 28; refine (rkahead_any _ _ _ _ _).mono ?_; rintro e wx ⟨rfl, rfl⟩; rw [HAH.out])
          have z0 := n4.cell 0 rfl; have zf := n4.free 0
          go_upto_region 14 with fail
          clear z0 zf
          clear c0 c1 c3 c4 k0 k1 k3
          have n5 := n4.set 0 (.int .i64 x.at_)
          have e5 := e4.far (p := ⟨Q, 0, none⟩) (by show B ≠ Q; omega) (.int .i64 x.at_); have p5 := p4.far (p := ⟨Q, 0, none⟩) (by show B + 1 ≠ Q; omega) (.int .i64 x.at_); have y5 := y4.far (p := ⟨Q, 0, none⟩) (by show B + 1 + 1 ≠ Q; omega) (.int .i64 x.at_)
          have b5 := b4.setCell (p := ⟨Q, 0, none⟩) (by show B ≤ Q; omega) (.int .i64 x.at_)
          generalize w4.setCell ⟨Q, 0, none⟩ (.int .i64 x.at_) = w5 at n5 e5 p5 y5 b5 ⊢
          clear n4 e4 p4 y4 b4
          have c0 := p5.cell 0 rfl; have c1 := p5.cell 1 rfl; have c3 := p5.cell 3 rfl; have c4 := p5.cell 4 rfl; have k0 := e5.cell 0 rfl; have k1 := e5.cell 1 rfl; have k3 := e5.cell 3 rfl
          have z0 := n5.cell 1 rfl; have zf := n5.free 1
          go_upto_region 15 with fail
          clear z0 zf
          clear c0 c1 c3 c4 k0 k1 k3
          have n6 := n5.set 1 (.int .i64 E)
          have e6 := e5.far (p := ⟨Q, 1, none⟩) (by show B ≠ Q; omega) (.int .i64 E); have p6 := p5.far (p := ⟨Q, 1, none⟩) (by show B + 1 ≠ Q; omega) (.int .i64 E); have y6 := y5.far (p := ⟨Q, 1, none⟩) (by show B + 1 + 1 ≠ Q; omega) (.int .i64 E)
          have b6 := b5.setCell (p := ⟨Q, 1, none⟩) (by show B ≤ Q; omega) (.int .i64 E)
          generalize w5.setCell ⟨Q, 1, none⟩ (.int .i64 E) = w6 at n6 e6 p6 y6 b6 ⊢
          clear n5 e5 p5 y5 b5
          have c0 := p6.cell 0 rfl; have c1 := p6.cell 1 rfl; have c3 := p6.cell 3 rfl; have c4 := p6.cell 4 rfl; have k0 := e6.cell 0 rfl; have k1 := e6.cell 1 rfl; have k3 := e6.cell 3 rfl
          have z0 := n6.cell 2 rfl; have zf := n6.free 2
          go_upto_region 16 with fail
          clear z0 zf
          clear c0 c1 c3 c4 k0 k1 k3
          have n7 := n6.set 2 (.int .i64 D)
          have e7 := e6.far (p := ⟨Q, 2, none⟩) (by show B ≠ Q; omega) (.int .i64 D); have p7 := p6.far (p := ⟨Q, 2, none⟩) (by show B + 1 ≠ Q; omega) (.int .i64 D); have y7 := y6.far (p := ⟨Q, 2, none⟩) (by show B + 1 + 1 ≠ Q; omega) (.int .i64 D)
          have b7 := b6.setCell (p := ⟨Q, 2, none⟩) (by show B ≤ Q; omega) (.int .i64 D)
          generalize w6.setCell ⟨Q, 2, none⟩ (.int .i64 D) = w7 at n7 e7 p7 y7 b7 ⊢
          clear n6 e6 p6 y6 b6
          have hz := HZ2.out
          rw [new_new (decide_eq_false (fun h => by have h2 := h.2; rw [HD.out] at h2; have := S2.out; omega)) (by rw [HE.out]; exact HAH.out), far_no (by rw [HE.out]; have := F1.out; omega), mix_no (fun h => G1.out h.1)] at hz
          try rw [HE.out] at hz
          try rw [HD.out] at hz
          subst hz
          clear HZ2
          have hBs : B ≤ w7.heap.size := by have := y7.lt; omega
          go_wp2_with (first | (refine rk_load rfl (.tmp 11) rfl rfl n7 rfl ?_) | (refine rk_store rfl (.tmp 8) (.tmp 91) rfl rfl [.int .i64 x.at_, .int .i64 E, .int .i64 D, .int .i64 v.far, .bool v.mixed, .int .i64 v.quarters] rfl y7 rfl rfl rfl ?_))
          refine rk_end2 (by rfl) (by rfl) (by rfl) (rk_put y7 [.int .i64 x.at_, .int .i64 E, .int .i64 D, .int .i64 v.far, .bool v.mixed, .int .i64 v.quarters]) rfl rfl ?_
          exact ⟨rfl, b7.grown (rk_grown _ (B + 1 + 1) #[.int .i64 x.at_, .int .i64 E, .int .i64 D, .int .i64 v.far, .bool v.mixed, .int .i64 v.quarters]) hBs (fun k hk => by cases hk; omega)⟩
        | false =>
          have HAH := Lib.hid hah; clear hah
          have c0 := p4.cell 0 rfl; have c1 := p4.cell 1 rfl; have c3 := p4.cell 3 rfl; have c4 := p4.cell 4 rfl; have k0 := e4.cell 0 rfl; have k1 := e4.cell 1 rfl; have k3 := e4.cell 3 rfl
          go_upto_region 16 with (go_at_call 28; refine (rkahead_any _ _ _ _ _).mono ?_; rintro e wx ⟨rfl, rfl⟩; rw [HAH.out])
          clear c0 c1 c3 c4 k0 k1 k3
          have hz := HZ2.out
          rw [new_old (decide_eq_false (fun h => by have h2 := h.2; rw [HD.out] at h2; have := S2.out; omega)) (by rw [HE.out]; exact HAH.out), far_no (by rw [HE.out]; have := F1.out; omega), mix_no (fun h => G1.out h.1)] at hz
          try rw [HE.out] at hz
          try rw [HD.out] at hz
          subst hz
          clear HZ2
          have hBs : B ≤ w4.heap.size := by have := y4.lt; omega
          go_wp2_with (first | (refine rk_load rfl (.tmp 11) rfl rfl n4 rfl ?_) | (refine rk_store rfl (.tmp 8) (.tmp 91) rfl rfl [.int .i64 v.at_, .int .i64 v.end_, .int .i64 v.took, .int .i64 v.far, .bool v.mixed, .int .i64 v.quarters] rfl y4 rfl rfl rfl ?_))
          refine rk_end2 (by rfl) (by rfl) (by rfl) (rk_put y4 [.int .i64 v.at_, .int .i64 v.end_, .int .i64 v.took, .int .i64 v.far, .bool v.mixed, .int .i64 v.quarters]) rfl rfl ?_
          exact ⟨rfl, b4.grown (rk_grown _ (B + 1 + 1) #[.int .i64 v.at_, .int .i64 v.end_, .int .i64 v.took, .int .i64 v.far, .bool v.mixed, .int .i64 v.quarters]) hBs (fun k hk => by cases hk; omega)⟩
end Go.Proofs.Ytlanplobdgchaaa
