/- The reference of package least: Same and Own as contracts of the calls. -/
import Derived.Test.YtihheanjlabioaaLeRef3
import Derived.WalkKit
import Derived.WalkSpells
import Derived.WalkSmall
import Derived.Lib.Hide
import Derived.Below
import Derived.Outline
namespace Go.Proofs.Ytihheanjlabioaa
open Go.RowKit
set_option linter.unusedVariables false
set_option linter.unusedSimpArgs false

/-- are two the same -/
def lsame (a b : Lv) : Bool := decide (a.l = b.l) && (decide (a.span = b.span) && decide (a.high = b.high))
theorem lsame_refl (a : Lv) : lsame a a = true := by unfold lsame; simp

set_option maxRecDepth 100000 in
set_option maxHeartbeats 4000000 in
theorem rlsame_any (span : Int) (A : Option Addr) (n c : Nat) (high : Int) (l : List Sp) (span2 : Int) (A2 : Option Addr) (n2 c2 : Nat) (high2 : Int) (l2 : List Sp) (w : World) (hs : Ss w A n c l) (ht : Ss w A2 n2 c2 l2) :
    Calls Try.prog 12 #[.agg #[.int .i64 span, .slice A n c, .int .i64 high], .agg #[.int .i64 span2, .slice A2 n2 c2, .int .i64 high2]] w fun e w' => e = .returned (.bool (lsame ⟨span, l, high⟩ ⟨span2, l2, high2⟩)) ∧ Below w.heap.size w w' := by
  obtain ⟨B, hB⟩ : ∃ B, w.heap.size = B := ⟨_, rfl⟩
  rw [hB]
  have hl := hs.rd.len; have hl2 := ht.rd.len
  have m1 := hs.le; have m3 := ht.le
  have m2 := hs.max; have m4 := ht.max
  unfold maxLen at m2 m4
  have e0 := (Bx.new w 24 [.int .i64 span, .slice A n c, .int .i64 high]).alloc (.cells #[.int .i64 span2, .slice A2 n2 c2, .int .i64 high2] 24)
  have y0 := Bx.new (w.alloc (.cells #[.int .i64 span, .slice A n c, .int .i64 high] 24)) 24 [.int .i64 span2, .slice A2 n2 c2, .int .i64 high2]
  rw [World.size_alloc] at y0
  rw [hB] at e0 y0
  have b0 : Below B w ((w.alloc (.cells #[.int .i64 span, .slice A n c, .int .i64 high] 24)).alloc (.cells #[.int .i64 span2, .slice A2 n2 c2, .int .i64 high2] 24)) := by rw [← hB]; exact ((Below.refl _ _).alloc (Nat.le_refl _) _).alloc (by simp) _
  have hs0 := (hs.alloc (.cells #[.int .i64 span, .slice A n c, .int .i64 high] 24)).alloc (.cells #[.int .i64 span2, .slice A2 n2 c2, .int .i64 high2] 24)
  have ht0 := (ht.alloc (.cells #[.int .i64 span, .slice A n c, .int .i64 high] 24)).alloc (.cells #[.int .i64 span2, .slice A2 n2 c2, .int .i64 high2] 24)
  have x0 := e0.cell 0 rfl; have x1 := e0.cell 1 rfl; have x2 := e0.cell 2 rfl
  have z0 := y0.cell 0 rfl; have z1 := y0.cell 1 rfl; have z2 := y0.cell 2 rfl
  obtain ⟨q, hq⟩ : ∃ q, lsame ⟨span, l, high⟩ ⟨span2, l2, high2⟩ = q := ⟨_, rfl⟩
  rw [hq]
  have HQ := Lib.hid hq; clear hq
  have HL := Lib.hid hl; have HL2 := Lib.hid hl2; clear hl hl2 hs ht
  by_cases hn : n = n2
  case neg =>
    have hF : q = false := by
      rw [← HQ.out]
      unfold lsame
      rw [decide_eq_false (fun h => hn (by dsimp only at h; rw [← HL.out, ← HL2.out, h]))]
      rfl
    subst hF
    have hne : ((n : Int) == (n2 : Int)) = false := by simp; omega
    have hne2 : ((n : Int) != (n2 : Int)) = true := by simp; omega
    go_enter Try.func12, Try.ntmps12
    go_wp2_with fail
    go_ret
    exact ⟨rfl, b0⟩
  case pos =>
  subst hn
  go_enter Try.func12, Try.ntmps12
  go_wp2_with fail
  clear x0 x1 x2 z0 z1 z2
  generalize (w.alloc (.cells #[.int .i64 span, .slice A n c, .int .i64 high] 24)).alloc (.cells #[.int .i64 span2, .slice A2 n c2, .int .i64 high2] 24) = w1 at e0 y0 b0 hs0 ht0 ⊢
  go_loopw [5] (fun i wr => ∃ k r : Nat, k ≤ n ∧ i = .int .i64 (k : Int) ∧ (∀ i, i < k → sp l i = sp l2 i) ∧ wr = w1.drewN r) (fun i _ => n - (intOf i).toNat)
  case atStart => exact ⟨0, 0, Nat.zero_le _, rfl, fun i hi => absurd hi (by omega), rfl⟩
  case round =>
    obtain ⟨k, r, hkn, rfl, hok, rfl⟩ := hrel
    have HO := Lib.hid hok; clear hok
    have x0 := e0.cell 0 rfl; have x1 := e0.cell 1 rfl; have x2 := e0.cell 2 rfl
    have z0 := y0.cell 0 rfl; have z1 := y0.cell 1 rfl; have z2 := y0.cell 2 rfl
    by_cases hlt : k < n
    · obtain ⟨b, o, rfl, hbl, hc⟩ := hs0.rd.at_ (by omega)
      obtain ⟨b', o', rfl, hbl', hc'⟩ := ht0.rd.at_ (by omega)
      obtain ⟨p1, p2⟩ := hc k hlt
      obtain ⟨q1, q2⟩ := hc' k hlt
      obtain ⟨⟨p, m⟩, hp⟩ : ∃ p, sp l k = p := ⟨_, rfl⟩
      obtain ⟨⟨p', m'⟩, hp'⟩ : ∃ p, sp l2 k = p := ⟨_, rfl⟩
      rw [hp] at p1 p2
      rw [hp'] at q1 q2
      simp only at p1 p2 q1 q2
      have HP := Lib.hid hp; have HP' := Lib.hid hp'
      clear hc hc' hp hp'
      go_upto_region 6 with fail
      by_cases ha : p = p' ∧ m = m'
      · obtain ⟨rfl, rfl⟩ := ha
        go_quiet (fail)
        go_wp2_with fail
        go_roundw
        case rel => exact ⟨k + 1, _, by omega, by go_num, (fun i hi => by
          by_cases e : i = k
          · subst e; rw [HP.out, HP'.out]
          · exact HO.out i (by omega)), rfl⟩
        case measure => simp [intOf]; omega
      · have hF : q = false := by
          rw [← HQ.out]
          unfold lsame
          rw [decide_eq_false (fun h => ha (by dsimp only at h; have h2 := HP'.out; rw [← h, HP.out] at h2; cases h2; exact ⟨rfl, rfl⟩))]
          rfl
        subst hF
        by_cases ha1 : p = p'
        · subst ha1
          have ha2 : ¬ m = m' := fun h => ha ⟨rfl, h⟩
          have ha3 : (m == m') = false := by simpa using ha2
          clear ha
          go_quiet (fail)
          go_wp2_with fail
          go_ret
          exact ⟨rfl, below_drewN (below_drewN b0 _) _⟩
        · have ha3 : (p == p') = false := by simpa using ha1
          clear ha
          go_quiet (fail)
          go_wp2_with fail
          go_ret
          exact ⟨rfl, below_drewN (below_drewN b0 _) _⟩
    · obtain rfl : k = n := by omega
      have hll : l = l2 := sp_ext (by rw [HL.out, HL2.out]) (by rw [HL.out]; exact HO.out)
      have hqq : q = (decide (span = span2) && decide (high = high2)) := by rw [← HQ.out]; unfold lsame; dsimp only; rw [decide_eq_true hll]; rfl
      clear hll
      by_cases h1 : span = span2
      · have d1 : (span == span2) = true := by simpa using h1
        rw [decide_eq_true h1, Bool.true_and] at hqq
        by_cases h2 : high = high2
        · have d2 : (high == high2) = true := by simpa using h2
          rw [decide_eq_true h2] at hqq
          subst hqq
          clear h1 h2
          go_wp2_with fail
          go_ret
          exact ⟨rfl, below_drewN b0 _⟩
        · have d2 : (high == high2) = false := by simpa using h2
          rw [decide_eq_false h2] at hqq
          subst hqq
          clear h1
          go_wp2_with fail
          go_ret
          exact ⟨rfl, below_drewN b0 _⟩
      · have d1 : (span == span2) = false := by simpa using h1
        rw [decide_eq_false h1, Bool.false_and] at hqq
        subst hqq
        go_wp2_with fail
        go_ret
        exact ⟨rfl, below_drewN b0 _⟩
theorem rlsame_yes (span : Int) (A : Option Addr) (n c : Nat) (high : Int) (l : List Sp) (A2 : Option Addr) (n2 c2 : Nat) (w : World) (hs : Ss w A n c l) (ht : Ss w A2 n2 c2 l) :
    Calls Try.prog 12 #[.agg #[.int .i64 span, .slice A n c, .int .i64 high], .agg #[.int .i64 span, .slice A2 n2 c2, .int .i64 high]] w fun e w' => e = .returned (.bool true) ∧ Below w.heap.size w w' :=
  (rlsame_any span A n c high l span A2 n2 c2 high l w hs ht).mono fun e w' ⟨he, hb⟩ => ⟨by rw [he, lsame_refl], hb⟩

theorem le_grown_set (W : World) (p : Addr) (u : Value) : W.grownBy (W.setCell p u) (some p.block) :=
  ⟨rfl, rfl, rfl, by simp, fun i hi hne => Below.heap_setCell W p u i (fun e => hne (by rw [e]))⟩
/-- a box alone: what the call hands back -/
theorem le_end1 {W : World} {B : Nat} {t : TypeId} {cs : List Value} {fn : Func} {tmps : Array Value} {R : Ending → World → Prop} {ds : List Deferred} {p : Tmp} (hr : fn.results = #[.cell p 24]) (h2 : tmps.getD p undef = .pointer (some ⟨B, 0, none⟩))
    (e : Bx W B t cs) (hl : cs.length = 3) (hd : ds = []) (h : R (.returned (.agg cs.toArray)) W) : bodyPost Try.prog fn R .ret { tmps := tmps, defers := ds } W := by
  have l2 := le_var e hl
  have h2a : tmps[p]?.getD undef = .pointer (some ⟨B, 0, none⟩) := by simpa using h2
  refine bodyPost_ret (v := .agg cs.toArray) ?_ hd h
  simp [results, hr, h2a, asAddr, l2]

set_option maxRecDepth 100000 in
set_option maxHeartbeats 4000000 in
theorem rlown_any (span : Int) (A : Option Addr) (n c : Nat) (high : Int) (l : List Sp) (w : World) (hs : Ss w A n c l) (hn : n ≤ 1000000) :
    Calls Try.prog 9 #[.agg #[.int .i64 span, .slice A n c, .int .i64 high]] w fun e w' => ∃ R d, e = .returned (.agg #[.int .i64 span, .slice R n d, .int .i64 high]) ∧ Sn w' w.heap.size R n d l ∧ Below w.heap.size w w' := by
  obtain ⟨B, hB⟩ : ∃ B, w.heap.size = B := ⟨_, rfl⟩
  rw [hB]
  have e0 := (Bx.new w 24 [.int .i64 span, .slice A n c, .int .i64 high]).alloc (.cells #[.int .i64 0, .slice none 0 0, .int .i64 0] 24)
  have y0 := Bx.new (w.alloc (.cells #[.int .i64 span, .slice A n c, .int .i64 high] 24)) 24 [.int .i64 0, .slice none 0 0, .int .i64 0]
  rw [World.size_alloc] at y0
  rw [hB] at e0 y0
  have b0 : Below B w ((w.alloc (.cells #[.int .i64 span, .slice A n c, .int .i64 high] 24)).alloc (.cells #[.int .i64 0, .slice none 0 0, .int .i64 0] 24)) := by rw [← hB]; exact ((Below.refl _ _).alloc (Nat.le_refl _) _).alloc (by simp) _
  have hs0 := (hs.alloc (.cells #[.int .i64 span, .slice A n c, .int .i64 high] 24)).alloc (.cells #[.int .i64 0, .slice none 0 0, .int .i64 0] 24)
  have x0 := e0.cell 0 rfl; have x1 := e0.cell 1 rfl; have x2 := e0.cell 2 rfl
  go_enter Try.func9, Try.ntmps9
  go_upto_region 2 with fail
  have e1 := e0.alloc (.cells #[.int .i64 span, .slice A n c, .int .i64 high] 24)
  have y1 := y0.alloc (.cells #[.int .i64 span, .slice A n c, .int .i64 high] 24)
  have v1 := Bx.new ((w.alloc (.cells #[.int .i64 span, .slice A n c, .int .i64 high] 24)).alloc (.cells #[.int .i64 0, .slice none 0 0, .int .i64 0] 24)) 24 [.int .i64 span, .slice A n c, .int .i64 high]
  have b1 := b0.alloc (by simp [hB]; omega) (.cells #[.int .i64 span, .slice A n c, .int .i64 high] 24)
  have hs1 := hs0.alloc (.cells #[.int .i64 span, .slice A n c, .int .i64 high] 24)
  rw [World.size_alloc, World.size_alloc, hB] at v1
  clear x0 x1 x2
  generalize ((w.alloc (.cells #[.int .i64 span, .slice A n c, .int .i64 high] 24)).alloc (.cells #[.int .i64 0, .slice none 0 0, .int .i64 0] 24)).alloc (.cells #[.int .i64 span, .slice A n c, .int .i64 high] 24) = w1 at e1 y1 v1 b1 hs1 ⊢
  obtain ⟨Z, hZ⟩ : ∃ Z, w1.heap.size = Z := ⟨_, rfl⟩
  have hBZ : B + 1 + 1 < Z := by rw [← hZ]; exact v1.lt
  have HZ := Lib.hid hZ
  have x1 := e1.cell 1 rfl
  have hA := hs1.nil
  have HS := Lib.hid hs1
  have HN := Lib.hid hA
  clear hs hs0 e0 y0 b0 hA hs1 hZ
  go_wp2_with (first
    | (at_builtin; go_loud (refine wpList_apps w1 rfl (.const (.slice none 0 0)) (.tmp 6) 22 rfl Z 38 Try.underlying22 info_pt _ 0 [] rfl (Gots.none _ _ _) rfl HN.out HS.out.rd (by omega) (by rw [HZ.out]; exact Nat.le_refl _) ?_; intro v' w' hg' hgrow' _; simp only [Nat.zero_add, List.nil_append] at hg'; have br2 : Below Z w1 w' := (Below.refl _ _).grown hgrow' (by rw [HZ.out]; exact Nat.le_refl _) (fun k hk => by cases hk); have br3 : Below w1.heap.size w1 w' := (by rw [HZ.out]; exact br2); have e2 := e1.kept br3; have y2 := y1.kept br3; have v2 := v1.kept br3; obtain ⟨R, d, rfl, hsn⟩ := hg'.sn; have v3 := v2.set 1 (.slice R n d); simp only [List.set_cons_zero, List.set_cons_succ] at v3; have y3 := y2.far (p := ⟨B + 1 + 1, 1, none⟩) (by simp) (.slice R n d); have x3 := v2.cell 1 rfl; have f3 := v2.free 1; have HSN := Lib.hid hsn; clear hsn hg'))
    | (refine le_load rfl (.tmp 3) rfl rfl v3 rfl ?_)
    | (refine le_store rfl (.tmp 2) (.tmp 9) rfl rfl [.int .i64 span, .slice R n d, .int .i64 high] rfl y3 rfl rfl rfl ?_))
  refine le_end1 (by rfl) (by rfl) (le_put y3 [.int .i64 span, .slice R n d, .int .i64 high]) rfl rfl ?_
  have hss : Sn (w'.setCell ⟨B + 1 + 1, 1, none⟩ (.slice R n d)) Z R n d l := HSN.out.grown (by exact le_grown_set w' ⟨B + 1 + 1, 1, none⟩ (.slice R n d)) (by exact hBZ)
  have hbb : Below B w (w'.setCell ⟨B + 1 + 1, 1, none⟩ (.slice R n d)) := (b1.trans (br2.mono (by omega))).grown (le_grown_set w' ⟨B + 1 + 1, 1, none⟩ (.slice R n d)) (Nat.le_of_lt e2.lt) (fun k hk => by cases hk; exact (by omega : B ≤ B + 1 + 1))
  exact ⟨R, d, rfl, (hss.grown (le_grown _ (B + 1) _) (by omega)).mono (by omega), hbb.grown (le_grown _ (B + 1) _) (by have := v3.lt; omega) (fun k hk => by cases hk; omega)⟩
end Go.Proofs.Ytihheanjlabioaa
