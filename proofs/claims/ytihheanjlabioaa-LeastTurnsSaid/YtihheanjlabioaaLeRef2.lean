/- The reference of package least: Of as a contract of the call. -/
import Derived.Test.YtihheanjlabioaaLeRef1
import Derived.WalkKit
import Derived.WalkSpells
import Derived.WalkSmall
import Derived.Lib.Hide
import Derived.Below
import Derived.Outline
import Derived.Laws.Tables
import Derived.Laws.Rows
namespace Go.Proofs.Ytihheanjlabioaa
open Go.RowKit
set_option linter.unusedVariables false
set_option linter.unusedSimpArgs false

theorem find_at {l : List Sp} {f : Sp → Bool} {k : Nat} (hk : k < l.length) (h : ∀ i, i < k → f (sp l i) = false) (ht : f (sp l k) = true) : l.find? f = some (sp l k) := by
  rw [List.find?_eq_some_iff_getElem]
  refine ⟨ht, k, hk, (sp_eq hk).symm, fun j hj => ?_⟩
  have := h j hj
  rw [sp_eq (by omega)] at this
  simp [this]
theorem find_none {l : List Sp} {f : Sp → Bool} (h : ∀ i, i < l.length → f (sp l i) = false) : l.find? f = none := by
  rw [List.find?_eq_none]
  intro p hp
  obtain ⟨i, hi, rfl⟩ := List.getElem_of_mem hp
  have := h i hi
  rw [sp_eq hi] at this
  simp [this]
theorem of_no {v : Lv} {a : Int} (h : ¬ (lmay v = true ∧ 0 ≤ a ∧ a ≤ 1152921504606846976)) : ofR v a = (0, false) := if_neg h
theorem of_yes {v : Lv} {a : Int} (h : lmay v = true ∧ 0 ≤ a ∧ a ≤ 1152921504606846976) : ofR v a = fst2 (v.l.find? (cnt v.span a)) := if_pos h

theorem info_least : (Try.prog.info? 24).map (·.size) = some 3 := by kernel_rfl
theorem least_struct : ∃ fs, Try.prog.underlying 24 = some (.struct fs) := ⟨_, Try.underlying24⟩
section
variable {W : World} {B : Nat} {t : TypeId} {cs : List Value}
theorem le_put (h : Bx W B t cs) (vs : List Value) : Bx (W.setRow B vs.toArray) B t vs := setRow_heap W B _ vs.toArray t (0, 0) h
theorem le_grown (W : World) (B : Nat) (vs : Array Value) : W.grownBy (W.setRow B vs) (some B) :=
  ⟨rfl, rfl, rfl, by simp [World.setRow], fun i _ hne => setRow_other W B i vs (fun e => hne (by rw [e]))⟩
/-- a whole windowed minimum is loaded, in a plain region -/
theorem le_load {ops : Array Oper} {rest : List Oper} {o : Oper} {a : Act} {Q : Exit → Act → World → Prop} (hgd : o.guard = none) (x : Operand) (ho : o.op = .load 24 x) (hx : a.eval x = .pointer (some ⟨B, 0, none⟩))
    (h : Bx W B t cs) (hl : cs.length = 3) (k : wpList Try.prog ops Q rest (a.put o.dst (.agg cs.toArray)) W) : wpList Try.prog ops Q (o :: rest) a W := by
  obtain ⟨fs, hu⟩ := least_struct
  exact wpList_load_row hgd _ x ho B hx t cs.toArray (0, 0) _ h hu rfl (by rw [info_least]; simp [hl]) k
/-- a whole windowed minimum is stored -/
theorem le_store {ops : Array Oper} {rest : List Oper} {o : Oper} {a : Act} {Q : Exit → Act → World → Prop} (hgd : o.guard = none) (x y : Operand) (ho : o.op = .store 24 x y) (hx : a.eval x = .pointer (some ⟨B, 0, none⟩))
    (vs : List Value) (hy : a.eval y = .agg vs.toArray) (h : Bx W B t cs) (hl : cs.length = 3) (hv : vs.length = 3) (h1 : vs.all (·.oneCell') = true) (k : wpList Try.prog ops Q rest (a.put o.dst undef) (W.setRow B vs.toArray)) : wpList Try.prog ops Q (o :: rest) a W :=
  wpList_store_row hgd _ x y ho B vs.toArray hx hy t cs.toArray h (by rw [info_least]; simp [hv]) (by simp [hl, hv]) (by simpa using h1) k
theorem le_var (h : Bx W B t cs) (hl : cs.length = 3) : (Go.loadVar 24 ⟨B, 0, none⟩).run Try.prog W = .ok (.agg cs.toArray) W := by
  obtain ⟨fs, hu⟩ := least_struct
  exact run_loadVar_row W B t 24 cs.toArray (0, 0) _ h hu rfl (by rw [info_least]; simp [hl])
end

set_option maxRecDepth 100000 in
set_option maxHeartbeats 4000000 in
theorem rlof_any (span : Int) (A : Option Addr) (n c : Nat) (high : Int) (l : List Sp) (at_ : Int) (w : World) (hs : Ss w A n c l) :
    Calls Try.prog 14 #[.agg #[.int .i64 span, .slice A n c, .int .i64 high], .int .i64 at_] w fun e w' => e = .returned (.tuple #[.int .i64 (ofR ⟨span, l, high⟩ at_).1, .bool (ofR ⟨span, l, high⟩ at_).2]) ∧ Below w.heap.size w w' := by
  obtain ⟨B, hB⟩ : ∃ B, w.heap.size = B := ⟨_, rfl⟩
  rw [hB]
  have hl := hs.rd.len
  have m1 := hs.le
  have m2 := hs.max
  unfold maxLen at m2
  have e0 := Bx.new w 24 [.int .i64 span, .slice A n c, .int .i64 high]
  rw [hB] at e0
  have b0 : Below B w (w.alloc (.cells #[.int .i64 span, .slice A n c, .int .i64 high] 24)) := by rw [← hB]; exact (Below.refl _ _).alloc (Nat.le_refl _) _
  have hs0 := hs.alloc (.cells #[.int .i64 span, .slice A n c, .int .i64 high] 24)
  obtain ⟨x, hx⟩ : ∃ x, ofR ⟨span, l, high⟩ at_ = x := ⟨_, rfl⟩
  rw [hx]
  obtain ⟨xn, xb⟩ := x
  go_enter Try.func14, Try.ntmps14
  go_wp2_with (refine le_load rfl (.tmp 2) rfl rfl e0 rfl ?_)
  generalize w.alloc (.cells #[.int .i64 span, .slice A n c, .int .i64 high] 24) = w1 at e0 b0 hs0 ⊢
  refine (rlmay_any span A n c high l _ hs0).mono ?_
  rintro e w2 ⟨rfl, hb2⟩
  have e2 := e0.kept hb2; have b2 := b0.trans (hb2.mono (Nat.le_of_lt e0.lt)); have hs2 := hs0.keep hb2
  have x1 := e2.cell 1 rfl
  clear hs hs0 e0 b0 hb2
  cases hk : lmay ⟨span, l, high⟩ with
  | false =>
    have hz := of_no (v := ⟨span, l, high⟩) (a := at_) (fun h => by rw [hk] at h; exact absurd h.1 (by simp))
    rw [hx] at hz; cases hz
    clear hx hk hl
    go_wp2_with fail
    go_loopw [7] (fun i wr => i = .int .i64 0 ∧ w2 = wr) (fun _ _ => 0)
    case atStart => exact ⟨rfl, rfl⟩
    case round =>
      obtain ⟨rfl, rfl⟩ := hrel
      by_cases hn0 : n = 0
      · subst hn0
        go_wp2_with fail
        go_ret2
        exact ⟨rfl, b2⟩
      · have hn1 : 0 < n := by omega
        go_wp2_with fail
        go_ret2
        exact ⟨rfl, b2⟩
  | true =>
    by_cases c0 : 0 ≤ at_
    case neg =>
      have hz := of_no (v := ⟨span, l, high⟩) (a := at_) (fun h => c0 h.2.1)
      rw [hx] at hz; cases hz
      clear hx hk hl
      have d0 : decide (0 ≤ at_) = false := decide_eq_false c0
      go_wp2_with fail
      go_loopw [7] (fun i wr => i = .int .i64 0 ∧ w2 = wr) (fun _ _ => 0)
      case atStart => exact ⟨rfl, rfl⟩
      case round =>
        obtain ⟨rfl, rfl⟩ := hrel
        by_cases hn0 : n = 0
        · subst hn0
          go_wp2_with fail
          go_ret2
          exact ⟨rfl, b2⟩
        · have hn1 : 0 < n := by omega
          go_wp2_with fail
          go_ret2
          exact ⟨rfl, b2⟩
    have d0 : decide (0 ≤ at_) = true := decide_eq_true c0
    by_cases c1 : at_ ≤ 1152921504606846976
    case neg =>
      have hz := of_no (v := ⟨span, l, high⟩) (a := at_) (fun h => c1 h.2.2)
      rw [hx] at hz; cases hz
      clear hx hk hl
      have d1 : decide (at_ ≤ 1152921504606846976) = false := decide_eq_false c1
      go_wp2_with fail
      go_loopw [7] (fun i wr => i = .int .i64 0 ∧ w2 = wr) (fun _ _ => 0)
      case atStart => exact ⟨rfl, rfl⟩
      case round =>
        obtain ⟨rfl, rfl⟩ := hrel
        by_cases hn0 : n = 0
        · subst hn0
          go_wp2_with fail
          go_ret2
          exact ⟨rfl, b2⟩
        · have hn1 : 0 < n := by omega
          go_wp2_with fail
          go_ret2
          exact ⟨rfl, b2⟩
    have d1 : decide (at_ ≤ 1152921504606846976) = true := decide_eq_true c1
    rw [of_yes ⟨hk, c0, c1⟩] at hx
    have HX := Lib.hid hx
    have HK := Lib.hid ((lmay_iff _).1 hk)
    have HL := Lib.hid hl
    have hn : n ≤ 100 := by have := HK.out.len; dsimp only at this; omega
    have x0 := e2.cell 0 rfl
    clear hx hk hl
    go_wp2_with fail
    go_loopw [7] (fun i wr => ∃ k q : Nat, k ≤ n ∧ i = .int .i64 (k : Int) ∧ (∀ i, i < k → cnt span at_ (sp l i) = false) ∧ wr = w2.drewN q) (fun i _ => n - (intOf i).toNat)
    case atStart => exact ⟨0, 0, Nat.zero_le _, rfl, fun i hi => absurd hi (by omega), rfl⟩
    case round =>
      obtain ⟨k, q, hkn, rfl, hok, rfl⟩ := hrel
      have HO := Lib.hid hok; clear hok
      by_cases hlt : k < n
      · obtain ⟨b, o, rfl, hbl, hc⟩ := hs2.rd.at_ (by omega)
        obtain ⟨y1, y2⟩ := hc k hlt
        have hp := HK.out.pts k (by dsimp only; rw [HL.out]; exact hlt)
        obtain ⟨⟨p, m⟩, hpm⟩ : ∃ p, sp l k = p := ⟨_, rfl⟩
        have p0 := hp.a0; have p1 := hp.a1
        dsimp only at p0 p1
        rw [hpm] at y1 y2 p0 p1
        simp only at y1 y2 p0 p1
        have HPM := Lib.hid hpm
        clear hpm hc hp
        go_upto_region 5 with fail
        have s1 : IntKind.i64.wrap (at_ - p) = at_ - p := IntWalk.i64_in _ (by omega)
        by_cases g : at_ - p ≤ span
        · have d2 : decide (at_ - p ≤ span) = true := decide_eq_true g
          have hf : fst2 (l.find? (cnt span at_)) = (m, true) := by
            rw [find_at (by rw [HL.out]; exact hlt) HO.out (by rw [HPM.out]; exact d2), HPM.out]; rfl
          have hx := HX.out
          rw [hf] at hx; cases hx
          clear hf
          go_quiet (fail)
          clear s1
          go_wp2_with fail
          go_ret2
          exact ⟨rfl, below_drewN b2 _⟩
        · have d2 : decide (at_ - p ≤ span) = false := decide_eq_false g
          go_quiet (fail)
          clear s1
          go_wp2_with fail
          go_roundw
          case rel => exact ⟨k + 1, _, by omega, by go_num, (fun i hi => by
            by_cases e : i = k
            · subst e; rw [HPM.out]; exact d2
            · exact HO.out i (by omega)), rfl⟩
          case measure => simp [intOf]; omega
      · obtain rfl : k = n := by omega
        have hf : fst2 (l.find? (cnt span at_)) = (0, false) := by
          rw [find_none (by rw [HL.out]; exact HO.out)]; rfl
        have hx := HX.out
        rw [hf] at hx; cases hx
        clear hf
        go_wp2_with fail
        go_ret2
        exact ⟨rfl, below_drewN b2 _⟩
end Go.Proofs.Ytihheanjlabioaa
