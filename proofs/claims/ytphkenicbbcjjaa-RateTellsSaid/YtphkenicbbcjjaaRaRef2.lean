/- The reference of package rate: Ints, Same, Own, Came as contracts of the calls. -/
import Derived.Test.YtphkenicbbcjjaaRaRef1
import Derived.WalkKit
import Derived.WalkSpells
import Derived.WalkSmall
import Derived.Lib.Hide
import Derived.Below
import Derived.Outline
import Derived.Laws.Tables
import Derived.Laws.Rows
import Derived.OrdersHeld
import Derived.Deep.QuietTactic
import Derived.BigQuiet
import Derived.IntWalk
import Derived.Deep.DeepCutAuto
namespace Go.Proofs.Ytphkenicbbcjjaa
open Go.RowKit
set_option linter.unusedVariables false
set_option linter.unusedSimpArgs false

def rasame (a b : Rv) : Bool := decide (a.l = b.l) && (decide (a.total = b.total) && decide (a.last = b.last))
theorem rasame_refl (a : Rv) : rasame a a = true := by unfold rasame; simp
theorem it_ext {a b : List Int} (h : a.length = b.length) (he : ∀ i, i < a.length → it a i = it b i) : a = b := by
  apply List.ext_getElem h
  intro i h1 h2
  have := he i h1
  rwa [it_eq h1, it_eq h2] at this
set_option maxRecDepth 100000 in
set_option maxHeartbeats 4000000 in
theorem ints_any (A : Option Addr) (n c : Nat) (l : List Int) (A2 : Option Addr) (n2 c2 : Nat) (l2 : List Int) (w : World) (hs : Si w A n c l) (ht : Si w A2 n2 c2 l2) :
    Calls Try.prog 22 #[.slice A n c, .slice A2 n2 c2] w fun e w' => e = .returned (.bool (decide (l = l2))) ∧ Below w.heap.size w w' := by
  have hl := hs.rd.len; have hl2 := ht.rd.len
  have m1 := hs.le; have m3 := ht.le
  have m2 := hs.max; have m4 := ht.max
  unfold maxLen at m2 m4
  obtain ⟨q, hq⟩ : ∃ q, decide (l = l2) = q := ⟨_, rfl⟩
  rw [hq]
  have HQ := Lib.hid hq; have HL := Lib.hid hl; have HL2 := Lib.hid hl2
  clear hq hl hl2
  by_cases hn : n = n2
  case neg =>
    have hF : q = false := by
      rw [← HQ.out]
      exact decide_eq_false (fun h => hn (by rw [← HL.out, ← HL2.out, h]))
    subst hF
    have hne : ((n : Int) == (n2 : Int)) = false := by simp; omega
    have hne2 : ((n : Int) != (n2 : Int)) = true := by simp; omega
    go_enter Try.func22, Try.ntmps22
    go_wp2_with fail
    go_ret
    exact ⟨rfl, Below.refl _ _⟩
  case pos =>
  subst hn
  have HS := Lib.hid hs; have HT := Lib.hid ht; clear hs ht
  go_enter Try.func22, Try.ntmps22
  go_wp2_with fail
  go_loopw [5] (fun i wr => ∃ k r : Nat, k ≤ n ∧ i = .int .i64 (k : Int) ∧ Hid (∀ i, i < k → it l i = it l2 i) ∧ wr = w.drewN r) (fun i _ => n - (intOf i).toNat)
  case atStart => exact ⟨0, 0, Nat.zero_le _, rfl, (fun i hi => absurd hi (by omega)), rfl⟩
  case round =>
    obtain ⟨k, r, hkn, rfl, HO, rfl⟩ := hrel
    by_cases hlt : k < n
    · have dlt : decide (k < n) = true := decide_eq_true hlt
      obtain ⟨b, o, hA, hbl, hc⟩ := HS.out.rd.at_ (by omega)
      obtain ⟨b', o', hA', hbl', hc'⟩ := HT.out.rd.at_ (by omega)
      subst hA hA'
      have p1 := hc k hlt
      have q1 := hc' k hlt
      obtain ⟨p, hp⟩ : ∃ p, it l k = p := ⟨_, rfl⟩
      obtain ⟨p', hp'⟩ : ∃ p, it l2 k = p := ⟨_, rfl⟩
      rw [hp] at p1
      rw [hp'] at q1
      have HP := Lib.hid hp; have HP' := Lib.hid hp'
      clear hc hc' hp hp'
      go_upto_region 6 with fail
      by_cases ha : p = p'
      · subst ha
        go_quiet (fail)
        go_wp2_with fail
        go_roundw
        case rel => exact ⟨k + 1, _, by omega, by go_num, (fun i hi => by
          by_cases e : i = k
          · subst e; rw [HP.out, HP'.out]
          · exact HO.out i (by omega)), rfl⟩
        case measure => simp [intOf]; omega
      · have hF : q = false := by
          rw [← HQ.out]
          exact decide_eq_false (fun h => ha (by have h2 := HP'.out; rw [← h, HP.out] at h2; exact h2))
        subst hF
        have ha3 : (p == p') = false := by simpa using ha
        clear ha
        go_quiet (fail)
        go_wp2_with fail
        go_ret
        exact ⟨rfl, below_drewN (below_drewN (Below.refl _ _) _) _⟩
    · obtain rfl : k = n := by omega
      have dlt : decide (k < k) = false := decide_eq_false (by omega)
      have hT : q = true := by
        rw [← HQ.out]
        exact decide_eq_true (it_ext (by rw [HL.out, HL2.out]) (by rw [HL.out]; exact HO.out))
      subst hT
      go_wp2_with fail
      go_ret
      exact ⟨rfl, below_drewN (Below.refl _ _) _⟩

set_option maxRecDepth 100000 in
set_option maxHeartbeats 4000000 in
theorem rrasame_any (total last : Int) (A : Option Addr) (n c : Nat) (l : List Int) (total2 last2 : Int) (A2 : Option Addr) (n2 c2 : Nat) (l2 : List Int) (w : World) (hs : Si w A n c l) (ht : Si w A2 n2 c2 l2) :
    Calls Try.prog 12 #[.agg #[.int .i64 total, .int .i64 last, .slice A n c], .agg #[.int .i64 total2, .int .i64 last2, .slice A2 n2 c2]] w fun e w' => e = .returned (.bool (rasame ⟨total, last, l⟩ ⟨total2, last2, l2⟩)) ∧ Below w.heap.size w w' := by
  obtain ⟨B, hB⟩ : ∃ B, w.heap.size = B := ⟨_, rfl⟩
  rw [hB]
  have e0 := (Bx.new w 24 [.int .i64 total, .int .i64 last, .slice A n c]).alloc (.cells #[.int .i64 total2, .int .i64 last2, .slice A2 n2 c2] 24)
  have y0 := Bx.new (w.alloc (.cells #[.int .i64 total, .int .i64 last, .slice A n c] 24)) 24 [.int .i64 total2, .int .i64 last2, .slice A2 n2 c2]
  rw [World.size_alloc] at y0
  rw [hB] at e0 y0
  have b0 : Below B w ((w.alloc (.cells #[.int .i64 total, .int .i64 last, .slice A n c] 24)).alloc (.cells #[.int .i64 total2, .int .i64 last2, .slice A2 n2 c2] 24)) := by rw [← hB]; exact ((Below.refl _ _).alloc (Nat.le_refl _) _).alloc (by simp) _
  have hs0 := (hs.alloc (.cells #[.int .i64 total, .int .i64 last, .slice A n c] 24)).alloc (.cells #[.int .i64 total2, .int .i64 last2, .slice A2 n2 c2] 24)
  have ht0 := (ht.alloc (.cells #[.int .i64 total, .int .i64 last, .slice A n c] 24)).alloc (.cells #[.int .i64 total2, .int .i64 last2, .slice A2 n2 c2] 24)
  have x0 := e0.cell 0 rfl; have x1 := e0.cell 1 rfl; have x2 := e0.cell 2 rfl
  have z0 := y0.cell 0 rfl; have z1 := y0.cell 1 rfl; have z2 := y0.cell 2 rfl
  obtain ⟨q, hq⟩ : ∃ q, rasame ⟨total, last, l⟩ ⟨total2, last2, l2⟩ = q := ⟨_, rfl⟩
  rw [hq]
  unfold rasame at hq
  dsimp only at hq
  go_enter Try.func12, Try.ntmps12
  go_wp2_with fail
  clear x0 x1 x2 z0 z1 z2
  generalize (w.alloc (.cells #[.int .i64 total, .int .i64 last, .slice A n c] 24)).alloc (.cells #[.int .i64 total2, .int .i64 last2, .slice A2 n2 c2] 24) = w1 at e0 y0 b0 hs0 ht0 ⊢
  refine (ints_any A n c l A2 n2 c2 l2 _ hs0 ht0).mono ?_
  rintro e w2 ⟨rfl, hb2⟩
  have e2 := e0.kept hb2; have y2 := y0.kept hb2; have b2 := b0.trans (hb2.mono (Nat.le_of_lt e0.lt))
  have x0 := e2.cell 0 rfl; have x1 := e2.cell 1 rfl
  have z0 := y2.cell 0 rfl; have z1 := y2.cell 1 rfl
  cases hl : decide (l = l2) with
  | false =>
    rw [hl, Bool.false_and] at hq
    subst hq
    go_wp2_with fail
    go_ret
    exact ⟨rfl, b2⟩
  | true =>
    rw [hl, Bool.true_and] at hq
    clear hl
    by_cases h1 : total = total2
    · have d1 : (total == total2) = true := by simpa using h1
      rw [decide_eq_true h1, Bool.true_and] at hq
      by_cases h2 : last = last2
      · have d2 : (last == last2) = true := by simpa using h2
        rw [decide_eq_true h2] at hq
        subst hq
        clear h1 h2
        go_wp2_with fail
        go_ret
        exact ⟨rfl, b2⟩
      · have d2 : (last == last2) = false := by simpa using h2
        rw [decide_eq_false h2] at hq
        subst hq
        clear h1
        go_wp2_with fail
        go_ret
        exact ⟨rfl, b2⟩
    · have d1 : (total == total2) = false := by simpa using h1
      rw [decide_eq_false h1, Bool.false_and] at hq
      subst hq
      go_wp2_with fail
      go_ret
      exact ⟨rfl, b2⟩
theorem rrasame_yes (total last : Int) (A : Option Addr) (n c : Nat) (l : List Int) (A2 : Option Addr) (n2 c2 : Nat) (w : World) (hs : Si w A n c l) (ht : Si w A2 n2 c2 l) :
    Calls Try.prog 12 #[.agg #[.int .i64 total, .int .i64 last, .slice A n c], .agg #[.int .i64 total, .int .i64 last, .slice A2 n2 c2]] w fun e w' => e = .returned (.bool true) ∧ Below w.heap.size w w' :=
  (rrasame_any total last A n c l total last A2 n2 c2 l w hs ht).mono fun e w' ⟨he, hb⟩ => ⟨by rw [he, rasame_refl], hb⟩

set_option maxRecDepth 100000 in
set_option maxHeartbeats 4000000 in
theorem rraown_any (total last : Int) (A : Option Addr) (n c : Nat) (l : List Int) (w : World) (hs : Si w A n c l) (hn : n ≤ 1000000) :
    Calls Try.prog 9 #[.agg #[.int .i64 total, .int .i64 last, .slice A n c]] w fun e w' => ∃ R d, e = .returned (.agg #[.int .i64 total, .int .i64 last, .slice R n d]) ∧ Goti w' (w.heap.size + 1 + 1 + 1) 3 (.slice R n d) n l ∧ Below w.heap.size w w' := by
  obtain ⟨B, hB⟩ : ∃ B, w.heap.size = B := ⟨_, rfl⟩
  rw [hB]
  have e0 := (Bx.new w 24 [.int .i64 total, .int .i64 last, .slice A n c]).alloc (.cells #[.int .i64 0, .int .i64 0, .slice none 0 0] 24)
  have y0 := Bx.new (w.alloc (.cells #[.int .i64 total, .int .i64 last, .slice A n c] 24)) 24 [.int .i64 0, .int .i64 0, .slice none 0 0]
  rw [World.size_alloc] at y0
  rw [hB] at e0 y0
  have b0 : Below B w ((w.alloc (.cells #[.int .i64 total, .int .i64 last, .slice A n c] 24)).alloc (.cells #[.int .i64 0, .int .i64 0, .slice none 0 0] 24)) := by rw [← hB]; exact ((Below.refl _ _).alloc (Nat.le_refl _) _).alloc (by simp) _
  have hs0 := (hs.alloc (.cells #[.int .i64 total, .int .i64 last, .slice A n c] 24)).alloc (.cells #[.int .i64 0, .int .i64 0, .slice none 0 0] 24)
  have x0 := e0.cell 0 rfl; have x1 := e0.cell 1 rfl; have x2 := e0.cell 2 rfl
  go_enter Try.func9, Try.ntmps9
  go_upto_region 2 with fail
  have e1 := e0.alloc (.cells #[.int .i64 total, .int .i64 last, .slice A n c] 24)
  have y1 := y0.alloc (.cells #[.int .i64 total, .int .i64 last, .slice A n c] 24)
  have v1 := Bx.new ((w.alloc (.cells #[.int .i64 total, .int .i64 last, .slice A n c] 24)).alloc (.cells #[.int .i64 0, .int .i64 0, .slice none 0 0] 24)) 24 [.int .i64 total, .int .i64 last, .slice A n c]
  have b1 := b0.alloc (by simp [hB]; omega) (.cells #[.int .i64 total, .int .i64 last, .slice A n c] 24)
  have hs1 := hs0.alloc (.cells #[.int .i64 total, .int .i64 last, .slice A n c] 24)
  have hz1 : (((w.alloc (.cells #[.int .i64 total, .int .i64 last, .slice A n c] 24)).alloc (.cells #[.int .i64 0, .int .i64 0, .slice none 0 0] 24)).alloc (.cells #[.int .i64 total, .int .i64 last, .slice A n c] 24)).heap.size = B + 1 + 1 + 1 := by simp [hB]
  rw [World.size_alloc, World.size_alloc, hB] at v1
  clear x0 x1 x2
  generalize ((w.alloc (.cells #[.int .i64 total, .int .i64 last, .slice A n c] 24)).alloc (.cells #[.int .i64 0, .int .i64 0, .slice none 0 0] 24)).alloc (.cells #[.int .i64 total, .int .i64 last, .slice A n c] 24) = w1 at e1 y1 v1 b1 hs1 hz1 ⊢
  have HZ := Lib.hid hz1
  have x1 := e1.cell 2 rfl
  have hA := hs1.nil
  have HS := Lib.hid hs1
  have HN := Lib.hid hA
  clear hs hs0 e0 y0 b0 hA hs1 hz1
  go_wp2_with (first
    | (at_builtin; go_loud (refine wpList_appi w1 rfl (.const (.slice none 0 0)) (.tmp 6) 22 rfl (B + 1 + 1 + 1) 3 Try.underlying22 info_int _ 0 [] rfl (Goti.nil _ _ _) rfl HN.out HS.out.rd (by omega) (by rw [HZ.out]; exact Nat.le_refl _) ?_; intro v' w' hg' hgrow' _; simp only [Nat.zero_add, List.nil_append] at hg'; have br2 : Below (B + 1 + 1 + 1) w1 w' := (Below.refl _ _).grown hgrow' (by rw [HZ.out]; exact Nat.le_refl _) (fun k hk => by cases hk); have br3 : Below w1.heap.size w1 w' := (by rw [HZ.out]; exact br2); have e2 := e1.kept br3; have y2 := y1.kept br3; have v2 := v1.kept br3; obtain ⟨R, d, hv', _⟩ := hg'.sni; subst hv'; have v3 := v2.set 2 (.slice R n d); simp only [List.set_cons_zero, List.set_cons_succ] at v3; have y3 := y2.far (p := ⟨B + 1 + 1, 2, none⟩) (by simp) (.slice R n d); have x3 := v2.cell 2 rfl; have f3 := v2.free 2; have HG := Lib.hid hg'; clear hg'))
    | (refine ra_load rfl (.tmp 3) rfl rfl v3 rfl ?_)
    | (refine ra_store rfl (.tmp 2) (.tmp 9) rfl rfl [.int .i64 total, .int .i64 last, .slice R n d] rfl y3 rfl rfl rfl ?_))
  refine ra_end1 (by rfl) (by rfl) (ra_put y3 [.int .i64 total, .int .i64 last, .slice R n d]) rfl rfl ?_
  have hbb : Below B w (w'.setCell ⟨B + 1 + 1, 2, none⟩ (.slice R n d)) := (b1.trans (br2.mono (by omega))).grown (ra_gset w' ⟨B + 1 + 1, 2, none⟩ (.slice R n d)) (Nat.le_of_lt e2.lt) (fun k hk => by cases hk; exact (by omega : B ≤ B + 1 + 1))
  have hg2 : Goti (w'.setCell ⟨B + 1 + 1, 2, none⟩ (.slice R n d)) (B + 1 + 1 + 1) 3 (.slice R n d) n l := ⟨ownsRow_setCell_below HG.out.row (by exact (by omega : B + 1 + 1 < B + 1 + 1 + 1)) _, HG.out.wide⟩
  have hg3 : Goti ((w'.setCell ⟨B + 1 + 1, 2, none⟩ (.slice R n d)).setRow (B + 1) #[.int .i64 total, .int .i64 last, .slice R n d]) (B + 1 + 1 + 1) 3 (.slice R n d) n l := ⟨hg2.row.kept (ra_grown _ (B + 1) _) (.inr (fun h => by have := (hg2.row.lt (B + 1) h).1; omega)), hg2.wide⟩
  exact ⟨R, d, rfl, hg3, hbb.grown (ra_grown _ (B + 1) _) (by have := v3.lt; omega) (fun k hk => by cases hk; omega)⟩
end Go.Proofs.Ytphkenicbbcjjaa
