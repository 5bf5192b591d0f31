/- Package sent as it landed: slices.ContainsFunc, inside as contracts of the calls. -/
import Derived.Test.YtnbamacdcggaeaaStL3
import Derived.Test.YtnbamacdcggaeaaStH
import Derived.Test.YtnbamacdcggaeaaSpAsk
namespace Go.Proofs.Ytnbamacdcggaeaa
open Go.RowKit
set_option linter.unusedVariables false
set_option linter.unusedSimpArgs false

set_option maxRecDepth 100000 in
set_option maxHeartbeats 8000000 in
theorem idxS_any (f : Nat) (hent : ∀ args w, (callFunc f args).run Try.prog w = .ok (.enter f args) w) (q : Addr) (p : Sp → Bool) (A : Option Addr) (n c : Nat) (l : List Sp) (w : World) (hs : Ss w A n c l)
    (hcall : Hid (∀ W, Below w.heap.size w W → ∀ i, i < n → Calls Try.prog f #[.agg #[.int .i64 (sp l i).1, .int .i64 (sp l i).2], .pointer (some q)] W fun e W' => e = .returned (.bool (p (sp l i))) ∧ Below W.heap.size W W')) :
    Calls Try.prog 49 #[.slice A n c, .func (.func f) #[] #[.pointer (some q)]] w fun e w' => (∃ r : Int, e = .returned (.int .i64 r) ∧ decide (0 ≤ r) = l.any p) ∧ Below w.heap.size w w' := by
  have hl := hs.rd.len
  have m1 := hs.le
  have m2 := hs.max
  have m3 : n ≤ 9223372036854775807 := by unfold maxLen at m2; omega
  clear m1 m2
  obtain ⟨x, hx⟩ : ∃ x, l.any p = x := ⟨_, rfl⟩
  rw [hx]
  have HX := Lib.hid hx
  have HA := Lib.hid hs; have HL := Lib.hid hl
  clear hx hs hl
  go_enter Try.func49, Try.ntmps49
  go_wp2_with fail
  go_loopw [8] (fun i wr => ∃ k : Nat, k ≤ n ∧ i = .int .i64 (k : Int) ∧ Hid (∀ i, i < k → p (sp l i) = false) ∧ Below w.heap.size w wr) (fun i _ => n - (intOf i).toNat)
  case atStart => exact ⟨0, Nat.zero_le _, rfl, Lib.hid (fun i hi => absurd hi (by omega)), Below.refl _ _⟩
  case round =>
    obtain ⟨k, hk, rfl, HNO, hb⟩ := hrel
    by_cases hlt : k < n
    · have dlt : decide (k < n) = true := decide_eq_true hlt
      have hsr : Ss wr A n c l := HA.out.keep hb
      obtain ⟨b, o, rfl, hbl, hc⟩ := hsr.rd.at_ (by omega)
      obtain ⟨x0, x1⟩ := hc k hlt
      have hkl : k < l.length := by rw [HL.out]; exact hlt
      have hf := hcall.out wr hb k hlt
      have hgo : p (sp l k) = false → ∀ i, i < k + 1 → p (sp l i) = false := fun h i hi => by
        by_cases e : i = k
        · subst e; exact h
        · exact HNO.out i (by omega)
      have hstop : p (sp l k) = true → x = true := fun h => by
        rw [← HX.out, List.any_eq_true]
        exact ⟨sp l k, by rw [sp_eq hkl]; exact List.getElem_mem hkl, h⟩
      obtain ⟨⟨y1, y2⟩, hy⟩ : ∃ y, sp l k = y := ⟨_, rfl⟩
      rw [hy] at x0 x1 hf hgo hstop
      simp only at x0 x1 hf
      have HGO := Lib.hid hgo; have HSTOP := Lib.hid hstop
      clear hc hy hsr hkl hgo hstop
      cases hz : p (y1, y2) with
      | false =>
        rw [hz] at hf
        have HGO2 := Lib.hid (HGO.out hz)
        clear hz
        go_wp2_with (go_at_fn f; refine hf.mono ?_; rintro e wv ⟨rfl, hbv⟩)
        go_roundw
        case rel => exact ⟨k + 1, by omega, by go_num, HGO2, hb.trans (hbv.mono hb.size)⟩
        case measure => simp [intOf]; omega
      | true =>
        rw [hz] at hf
        have hF := HSTOP.out hz
        subst hF
        clear hz
        go_wp2_with (go_at_fn f; refine hf.mono ?_; rintro e wv ⟨rfl, hbv⟩)
        go_ret
        exact ⟨⟨_, rfl, by simp⟩, hb.trans (hbv.mono hb.size)⟩
    · obtain rfl : k = n := by omega
      have hF : x = false := by
        rw [← HX.out, List.any_eq_false]
        intro y hy
        obtain ⟨i, hi, rfl⟩ := List.getElem_of_mem hy
        rw [← sp_eq hi, HNO.out i (by rw [← HL.out]; exact hi)]
        simp
      subst hF
      have dlt : decide (k < k) = false := decide_eq_false (by omega)
      go_wp2_with fail
      go_ret
      exact ⟨⟨_, rfl, by decide⟩, hb⟩
set_option maxRecDepth 100000 in
set_option maxHeartbeats 8000000 in
theorem conS_any (f : Nat) (hent : ∀ args w, (callFunc f args).run Try.prog w = .ok (.enter f args) w) (q : Addr) (p : Sp → Bool) (A : Option Addr) (n c : Nat) (l : List Sp) (w : World) (hs : Ss w A n c l)
    (hcall : Hid (∀ W, Below w.heap.size w W → ∀ i, i < n → Calls Try.prog f #[.agg #[.int .i64 (sp l i).1, .int .i64 (sp l i).2], .pointer (some q)] W fun e W' => e = .returned (.bool (p (sp l i))) ∧ Below W.heap.size W W')) :
    Calls Try.prog 45 #[.slice A n c, .func (.func f) #[] #[.pointer (some q)]] w fun e w' => e = .returned (.bool (l.any p)) ∧ Below w.heap.size w w' := by
  have hi := idxS_any f hent q p A n c l w hs hcall
  obtain ⟨x, hx⟩ : ∃ x, l.any p = x := ⟨_, rfl⟩
  rw [hx] at hi ⊢
  clear hcall hx hent hs
  go_enter Try.func45, Try.ntmps45
  go_wp2_with (go_at_call 49; refine hi.mono ?_; rintro e w2 ⟨⟨r, rfl, hr⟩, hb2⟩)
  go_ret
  exact ⟨by simp, hb2⟩

theorem ent_inside1 : ∀ args w, (callFunc 44 args).run Try.prog w = .ok (.enter 44 args) w := enters_of Try.func44 (by kernel_rfl) rfl
theorem inside1_any (a b sf su : Int) (Q : Nat) (w : World) (hq : Bx w Q 37 [.int .i64 sf, .int .i64 su]) :
    Calls Try.prog 44 #[.agg #[.int .i64 a, .int .i64 b], .pointer (some ⟨Q, 0, none⟩)] w fun e w' => e = .returned (.bool (outP (sf, su) (a, b))) ∧ Below w.heap.size w w' := by
  obtain ⟨B, hB⟩ : ∃ B, w.heap.size = B := ⟨_, rfl⟩
  have e0 := Bx.new w 37 [.int .i64 a, .int .i64 b]
  have y0 := hq.alloc (.cells #[.int .i64 a, .int .i64 b] 37)
  rw [hB] at e0 ⊢
  have b0 : Below B w (w.alloc (.cells #[.int .i64 a, .int .i64 b] 37)) := by rw [← hB]; exact (Below.refl _ _).alloc (Nat.le_refl _) _
  have c0 := e0.cell 0 rfl; have c1 := e0.cell 1 rfl
  have k0 := y0.cell 0 rfl; have k1 := y0.cell 1 rfl
  clear hq
  by_cases h : a < sf
  · have d : decide (a < sf) = true := decide_eq_true h
    have ho : outP (sf, su) (a, b) = true := by unfold outP; simp only [d]; rfl
    rw [ho]
    clear ho h
    go_enter Try.func44, Try.ntmps44
    go_wp2
    go_ret
    exact ⟨rfl, b0⟩
  · have d : decide (a < sf) = false := decide_eq_false h
    have ho : outP (sf, su) (a, b) = decide (su < b) := by unfold outP; simp only [d]; rfl
    rw [ho]
    clear ho h
    go_enter Try.func44, Try.ntmps44
    go_wp2
    go_ret
    exact ⟨by simp, b0⟩

/-- whether there is a span, and all that came lies in it -/
def insB (l : List Prt) (got : Int) (sk : List Sp) : Bool := decide (0 < l.length) && (winB got (spanR l).1 (spanR l).2 && !outB (spanR l) sk)
set_option maxRecDepth 100000 in
set_option maxHeartbeats 8000000 in
theorem inside_any (A : Option Addr) (n c : Nat) (l : List Prt) (got : Int) (A' : Option Addr) (n' c' : Nat) (sk : List Sp) (w : World) (hs : Se w A n c l) (hk : Ss w A' n' c' sk) :
    Calls Try.prog 31 #[.slice A n c, .int .i64 got, .slice A' n' c'] w fun e w' => e = .returned (.bool (insB l got sk)) ∧ Below w.heap.size w w' := by
  have hl := hs.rd.len
  have m1 := hs.le
  have m2 := hs.max
  have m3 : n ≤ 9223372036854775807 := by unfold maxLen at m2; omega
  clear m1 m2
  obtain ⟨q, hq⟩ : ∃ q, insB l got sk = q := ⟨_, rfl⟩
  rw [hq]
  have HQ := Lib.hid hq
  have HL := Lib.hid hl
  have hspan := stspan_any A n c l w hs
  obtain ⟨⟨sf, su⟩, hsx⟩ : ∃ s, spanR l = s := ⟨_, rfl⟩
  rw [hsx] at hspan
  have HSX := Lib.hid hsx
  dsimp only at hspan
  clear hq hl hsx
  go_enter Try.func31, Try.ntmps31
  go_upto_region 2 with (go_at_call 21; refine hspan.mono ?_; rintro e w2 ⟨rfl, hb2⟩)
  obtain ⟨P, hP⟩ : ∃ P, w2.heap.size = P := ⟨_, rfl⟩
  have yS : Bx (w2.alloc (.cells #[.int .i64 sf, .int .i64 su] 37)) P 37 [.int .i64 sf, .int .i64 su] := hP ▸ Bx.new w2 37 [.int .i64 sf, .int .i64 su]
  have b2 : Below w.heap.size w (w2.alloc (.cells #[.int .i64 sf, .int .i64 su] 37)) := hb2.alloc hb2.size _
  have hk2 : Ss (w2.alloc (.cells #[.int .i64 sf, .int .i64 su] 37)) A' n' c' sk := hk.keep b2
  have hwP : w.heap.size ≤ P := hP ▸ hb2.size
  try rw [hP]
  clear hP hspan hk hs hb2
  generalize w2.alloc (.cells #[.int .i64 sf, .int .i64 su] 37) = w3 at yS b2 hk2 ⊢
  have c0 := yS.cell 0 rfl; have c1 := yS.cell 1 rfl
  by_cases hn : n = 0
  · subst hn
    have hF : q = false := by rw [← HQ.out]; unfold insB; rw [HL.out]; rfl
    subst hF
    go_wp2_with fail
    go_ret
    exact ⟨rfl, b2⟩
  have hn1 : (0 : Int) < (n : Int) := by omega
  have hn2 : decide (0 < n) = true := decide_eq_true (by omega)
  have hq2 : q = (winB got sf su && !outB (sf, su) sk) := by rw [← HQ.out]; unfold insB; rw [HL.out, HSX.out, hn2]; rfl
  have HQ2 := Lib.hid hq2
  clear HQ hq2 hn
  cases hw : winB got sf su with
  | false =>
    have hF : q = false := by rw [HQ2.out, hw]; rfl
    subst hF
    go_wp2_with (go_at_call 26; refine (within_any _ _ _ _).mono ?_; rintro e wx ⟨rfl, rfl⟩)
    go_ret
    exact ⟨rfl, b2⟩
  | true =>
    have hF : q = !(sk.any (outP (sf, su))) := by rw [HQ2.out, hw]; rfl
    subst hF
    clear HQ2
    go_wp2_with (first | (go_at_call 26; refine (within_any _ _ _ _).mono ?_; rintro e wx ⟨rfl, rfl⟩) | (go_at_call 45; refine (conS_any 44 ent_inside1 _ (outP (sf, su)) A' n' c' sk _ hk2 (Lib.hid (fun W hW i hi => inside1_any _ _ sf su _ W (yS.kept hW)))).mono ?_; rintro e w4 ⟨rfl, hb4⟩))
    go_ret
    exact ⟨by simp, b2.trans (hb4.mono (by have := yS.lt; omega))⟩
end Go.Proofs.Ytnbamacdcggaeaa
