/- Package spans: valid, limited, May. -/
import Derived.Test.YtnbamacdcggaeaaSpEnds
import Derived.Test.YtnbamacdcggaeaaSpPure
import Derived.WalkSmall
import Derived.BigQuiet
namespace Go.Proofs.Ytnbamacdcggaeaa
open Go.RowKit Go.Shelf

theorem valid_any (a b : Int) (w : World) :
    Calls Try.prog 43 #[.int .i64 a, .int .i64 b] w fun e w' => e = .returned (.bool (vld a b)) ∧ w = w' := by
  have e : vld a b = (decide (0 ≤ a) && (decide (a < b) && decide (b ≤ 4611686018427387904))) := rfl
  by_cases h1 : 0 ≤ a
  · by_cases h2 : a < b
    · by_cases h3 : b ≤ 4611686018427387904
      · rw [decide_eq_true h1, decide_eq_true h2, decide_eq_true h3] at e
        rw [e]
        go_enter Try.func43, Try.ntmps43
        go_wp2
        go_ret
        exact ⟨rfl, rfl⟩
      · rw [decide_eq_true h1, decide_eq_true h2, decide_eq_false h3] at e
        rw [e]
        go_enter Try.func43, Try.ntmps43
        go_wp2
        go_ret
        exact ⟨rfl, rfl⟩
    · rw [decide_eq_true h1, decide_eq_false h2] at e
      rw [e]
      have h2' : b ≤ a := by omega
      go_enter Try.func43, Try.ntmps43
      go_wp2
      go_ret
      exact ⟨rfl, rfl⟩
  · rw [decide_eq_false h1] at e
    rw [e]
    have h1' : a < 0 := by omega
    go_enter Try.func43, Try.ntmps43
    go_wp2
    go_ret
    exact ⟨rfl, rfl⟩

attribute [local go_sem] Oper.semAt_some

set_option maxRecDepth 100000 in
set_option maxHeartbeats 2000000 in
theorem may_any (A : Option Addr) (len cap : Nat) (l : List Sp) (w : World) (hs : Ss w A len cap l) :
    Calls Try.prog 30 #[.slice A len cap] w fun e W' => e = .returned (.bool (mayB l)) ∧ Below w.heap.size w W' := by
  refine (callsIn_wide (n := 4)).1 ?_
  have h1 : 1 ≤ 4 := by omega
  have hlen := hs.rd.len
  refine callsIn_of_wp_marks Try.func30 rfl trivial ?_ rfl
  simp only [Try.ntmps30, List.size_toArray, List.length_cons, List.length_nil, Nat.reduceAdd, Nat.reduceSub, Array.replicate_succ, Array.replicate_zero, List.push_toArray, List.append_toArray, List.nil_append, List.cons_append]
  by_cases hgt : len ≤ 1000
  case neg =>
    have e0 : mayB l = false := by unfold mayB; rw [hlen, decide_eq_false hgt]; rfl
    rw [e0]
    gi_wp2
    have bR := Boxed.new w 4 (.bool false)
    have hcr := bR.cell
    refine ⟨.bool false, by simp [results, Try.f30, go_sem, hcr], rfl, (Below.refl _ _).alloc (Nat.le_refl _) _⟩
  case pos =>
  have e0 : mayB l = chain (-1) l := by unfold mayB; rw [hlen, decide_eq_true hgt]; rfl
  rw [e0]
  gi_wp2_with (refine ⟨trivial, ?_⟩; gi_at_call 42; refine (ends_in Fence.wide _ trivial rfl _ _ _ _).mono ?_; rintro e w' ⟨rfl, rfl⟩)
  have bR := Boxed.new w 4 (.bool false)
  have bL := Boxed.new (w.alloc (.cells #[.bool false] 4)) 3 (.int .i64 (-1))
  have bN := Boxed.new ((w.alloc (.cells #[.bool false] 4)).alloc (.cells #[.int .i64 (-1)] 3)) 25 (.slice A len cap)
  rw [World.size_alloc] at bL
  rw [World.size_alloc, World.size_alloc] at bN
  have hB0 : Below w.heap.size w (((w.alloc (.cells #[.bool false] 4)).alloc (.cells #[.int .i64 (-1)] 3)).alloc (.cells #[.slice A len cap] 25)) := (((Below.refl _ w).alloc (Nat.le_refl _) _).alloc (by simp) _).alloc (by simp; omega) _
  refine wpIn_rangeFunc_ownG rfl h1 (gf := 48) (lb := #[.pointer (some ⟨w.heap.size + 1 + 1, 0, none⟩)]) rfl trivial (enters_of Try.func48 (by kernel_rfl) rfl)
    (ends_stops Fence.wide (4 - 1) trivial rfl (by omega) (w.heap.size + 1 + 1) w.heap.size A len cap l (by omega) _ (by simp) (by simp; omega) bN.cell (hs.rd.keep hB0) (fun b o e h0 => by obtain ⟨b', o', e', hl, _⟩ := hs.rd.at_ h0; rw [e] at e'; cases e'; exact hl)) belowK_t (belowK_b (by simp; omega)) (Below.refl _ _) (fun _ => rfl)
    (fun pre W => (chain (-1) pre = true ∧ Boxed W w.heap.size 4 (.bool false) ∧ Boxed W (w.heap.size + 1) 3 (.int .i64 (lastOf (-1) pre))) ∧ Below w.heap.size w W)
    (fun c pre W => (c = .ret ∧ chain (-1) pre = false ∧ Boxed W w.heap.size 4 (.bool false)) ∧ Below w.heap.size w W)
    (OwnFrom.and (Own.from (fun s A B row hs hg hr => ⟨hs.1, boxed_own _ _ (fun _ => .bool false) s A B row hs.2.1 hg hr, boxed_own _ _ (fun s => .int .i64 (lastOf (-1) s)) s A B row hs.2.2 hg hr⟩) _) (ownFrom_below (Nat.le_refl _) (by simp; omega)))
    (fun c => OwnFrom.and (Own.from (fun s A B row hs hg hr => ⟨hs.1, hs.2.1, boxed_own _ _ (fun _ => .bool false) s A B row hs.2.2 hg hr⟩) _) (ownFrom_below (Nat.le_refl _) (by simp; omega)))
    ⟨⟨rfl, (bR.alloc _).alloc _, bL.alloc _⟩, hB0⟩
    (fun x => { tmps := #[.slice A len cap, undef, .pointer (some ⟨w.heap.size, 0, none⟩), .pointer (some ⟨w.heap.size + 1, 0, none⟩), .int .i64 x.1, .int .i64 x.2, .slice A len cap, .int .i64 (len : Int), .bool (decide (1000 < (len : Int))), .slice A len cap, .func (.func 48) #[] #[.pointer (some ⟨w.heap.size + 1 + 1, 0, none⟩)], .int .i64 x.1, .int .i64 x.2, undef, undef, undef, undef, undef, undef, undef, undef, undef, undef], defers := [] }) ?assign ?body ?done ?stop
  case assign =>
    intro l x W K hK
    gi_wp2
    exact hK
  case body =>
    rintro r pre x W ⟨⟨hch, hR, hL⟩, hB⟩ _
    have hcl := hL.cell
    have hfl := hL.frozen
    have hcr := hR.cell
    have hfr := hR.frozen
    by_cases hle : x.1 ≤ lastOf (-1) pre
    · gi_wp2_with (refine (And.intro trivial ?_ : Fence.wide.fn 43 ∧ _))
      exact ⟨(KeepsOthers.setCell _ _ _).from _, ⟨rfl, by rw [chain_snoc, decide_eq_false (by omega)]; simp, hR.set _⟩, hB.setCell (p := ⟨w.heap.size, 0, none⟩) (Nat.le_refl _) _⟩
    · have hd : decide (x.1 ≤ lastOf (-1) pre) = false := decide_eq_false hle
      by_cases hv : vld x.1 x.2 = true
      · gi_wp2_with (refine ⟨trivial, ?_⟩; gi_at_call 43; refine (CallsIn.inRound r (callsIn_wide.2 (valid_any _ _ _))).mono ?_; rintro e w' ⟨rfl, rfl⟩)
        exact ⟨(KeepsOthers.setCell _ _ _).from _, (Below.refl _ _).setCell (p := ⟨w.heap.size + 1, 0, none⟩) (by simp) _, ⟨by rw [chain_snoc, hch, hv, decide_eq_true (by omega)]; rfl, hR.other (by omega) _, by rw [lastOf_snoc]; exact hL.set _⟩, hB.setCell (p := ⟨w.heap.size + 1, 0, none⟩) (by simp) _⟩
      · have hv' : vld x.1 x.2 = false := by simpa using hv
        clear hv
        gi_wp2_with (refine ⟨trivial, ?_⟩; gi_at_call 43; refine (CallsIn.inRound r (callsIn_wide.2 (valid_any _ _ _))).mono ?_; rintro e w' ⟨rfl, rfl⟩)
        exact ⟨(KeepsOthers.setCell _ _ _).from _, ⟨rfl, by rw [chain_snoc, hv']; simp, hR.set _⟩, hB.setCell (p := ⟨w.heap.size, 0, none⟩) (Nat.le_refl _) _⟩
  case done =>
    rintro D ys W hD rfl ⟨⟨hch, hR, hL⟩, hB⟩ hK
    have hcr := hR.cell
    have hfr := hR.frozen
    gi_wp2
    have hK' := (KeepsOthers.setCell W ⟨w.heap.size, 0, none⟩ (.bool true)).same D _ hK rfl
    refine ⟨by simp, .inl ⟨_, _, rfl, run_takeDeferred hK', ?_⟩⟩
    have hc5 := cell_kept (World.cell?_setCell_same' W ⟨w.heap.size, 0, none⟩ (.bool true) (by rw [hcr]; rfl)) (grownBy_putObj' _ D (.deferred none)) (fun r e => by cases e; exact ⟨_, hK', rfl⟩)
    refine ⟨.bool true, by simp [results, Try.f30, go_sem, hc5], by rw [hch], (hB.setCell (p := ⟨w.heap.size, 0, none⟩) (Nat.le_refl _) _).trans (belowK_b (w := w) (Nat.le_refl _) _ D _ _ (by simp at hD; omega) hK' rfl rfl)⟩
  case stop =>
    rintro D c pre W hD ⟨k, hk, rfl⟩ ⟨⟨rfl, hch, hR⟩, hB⟩ hK
    gi_wp2
    refine ⟨by simp, .inl ⟨_, _, rfl, run_takeDeferred hK, ?_⟩⟩
    have hc5 := cell_kept hR.cell (grownBy_putObj' _ D (.deferred none)) (fun r e => by cases e; exact ⟨_, hK, rfl⟩)
    refine ⟨.bool false, by simp [results, Try.f30, go_sem, hc5], ?_, hB.trans (belowK_b (w := w) (Nat.le_refl _) W D _ _ (by simp at hD; omega) hK rfl rfl)⟩
    have : chain (-1) l = false := by
      cases h : chain (-1) l with
      | false => rfl
      | true => rw [chain_take h k] at hch; cases hch
    rw [this]
end Go.Proofs.Ytnbamacdcggaeaa
