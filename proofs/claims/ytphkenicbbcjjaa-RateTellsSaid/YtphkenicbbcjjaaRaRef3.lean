/- The reference of package rate: Came and Sample as contracts of the calls. -/
import Derived.Test.YtphkenicbbcjjaaRaRef2
import Derived.Test.YtphkenicbbcjjaaRmd
import Derived.WalkKit
import Derived.WalkSpells
import Derived.WalkSmall
import Derived.Lib.Hide
import Derived.Below
import Derived.Outline
import Derived.Laws.Tables
import Derived.Laws.Rows
import Derived.OrdersHeld
import Derived.Deep.QuietTactic
import Derived.BigQuiet
import Derived.IntWalk
import Derived.Deep.DeepCutAuto
namespace Go.Proofs.Ytphkenicbbcjjaa
open Go.RowKit
set_option linter.unusedVariables false
set_option linter.unusedSimpArgs false

/-- a rate and an error; a rate, a sample and an error -/
def TellC (w w' : World) (e : Ending) (x : Rv × Int) : Prop := ∃ R m d, e = .returned (.tuple #[.agg #[.int .i64 x.1.total, .int .i64 x.1.last, .slice R m d], .int .i64 x.2]) ∧ Sni w' w.heap.size R m d x.1.l ∧ Below w.heap.size w w'
def TellS (w w' : World) (e : Ending) (x : Rv × Int × Int) : Prop := ∃ R m d, e = .returned (.tuple #[.agg #[.int .i64 x.1.total, .int .i64 x.1.last, .slice R m d], .int .i64 x.2.1, .int .i64 x.2.2]) ∧ Sni w' w.heap.size R m d x.1.l ∧ Below w.heap.size w w'
theorem num_md {a d : Int} (h0 : 0 ≤ a) (h1 : a ≤ 1152921504606846976) (h2 : 0 < d) (h3 : d ≤ 1152921504606846976) : (mdOk 1000000 a d = true ∧ tell (1000000 * a / d) (mdOk 1000000 a d) = 1000000 * a / d) ∨ (mdOk 1000000 a d = false ∧ 1152921504606846976 < 1000000 * a / d) := by
  have hq : 0 ≤ 1000000 * a / d := Int.ediv_nonneg (by omega) (by omega)
  have he : mdOk 1000000 a d = inB (1000000 * a / d) := by
    unfold mdOk
    rw [(inB_iff 1000000).2 (by omega), (inB_iff a).2 (by omega), (inB_iff d).2 (by omega), decide_eq_true (by omega : 1 ≤ d)]
    rfl
  cases hb : inB (1000000 * a / d) with
  | true => left; rw [he, hb]; exact ⟨rfl, rfl⟩
  | false =>
    right
    rw [he, hb]
    refine ⟨rfl, ?_⟩
    have := (inB_not _).1 hb
    omega

set_option maxRecDepth 100000 in
set_option maxHeartbeats 8000000 in
theorem rracame_any (total last : Int) (A : Option Addr) (n c : Nat) (l : List Int) (at_ bytes : Int) (w : World) (hs : Si w A n c l) :
    Calls Try.prog 11 #[.agg #[.int .i64 total, .int .i64 last, .slice A n c], .int .i64 at_, .int .i64 bytes] w fun e w' => TellC w w' e (cameR ⟨total, last, l⟩ at_ bytes) := by
  unfold TellC
  obtain ⟨B, hB⟩ : ∃ B, w.heap.size = B := ⟨_, rfl⟩
  rw [hB]
  have hl := hs.rd.len
  have e0 := (Bx.new w 24 [.int .i64 total, .int .i64 last, .slice A n c]).alloc (.cells #[.int .i64 0, .int .i64 0, .slice none 0 0] 24)
  have y0 := Bx.new (w.alloc (.cells #[.int .i64 total, .int .i64 last, .slice A n c] 24)) 24 [.int .i64 0, .int .i64 0, .slice none 0 0]
  rw [World.size_alloc] at y0
  rw [hB] at e0 y0
  have b0 : Below B w ((w.alloc (.cells #[.int .i64 total, .int .i64 last, .slice A n c] 24)).alloc (.cells #[.int .i64 0, .int .i64 0, .slice none 0 0] 24)) := by rw [← hB]; exact ((Below.refl _ _).alloc (Nat.le_refl _) _).alloc (by simp) _
  have s0 := (hs.alloc (.cells #[.int .i64 total, .int .i64 last, .slice A n c] 24)).alloc (.cells #[.int .i64 0, .int .i64 0, .slice none 0 0] 24)
  obtain ⟨x, hx⟩ : ∃ x, cameR ⟨total, last, l⟩ at_ bytes = x := ⟨_, rfl⟩
  rw [hx]
  have HX := Lib.hid hx; have HL := Lib.hid hl; clear hx hl hs
  go_enter Try.func11, Try.ntmps11
  go_wp2_with (refine ra_load rfl (.tmp 3) rfl rfl e0 rfl ?_)
  generalize (w.alloc (.cells #[.int .i64 total, .int .i64 last, .slice A n c] 24)).alloc (.cells #[.int .i64 0, .int .i64 0, .slice none 0 0] 24) = w1 at e0 y0 b0 s0 ⊢
  refine (rramay_any total last A n c l _ s0).mono ?_
  rintro e w2 ⟨rfl, hb2⟩
  have e2 := e0.kept hb2; have y2 := y0.kept hb2; have b2 := b0.trans (hb2.mono (Nat.le_of_lt e0.lt)); have s2 := s0.keep hb2
  have hBs : B ≤ w2.heap.size := Nat.le_of_lt e2.lt
  have x0 := e2.cell 0 rfl; have x1 := e2.cell 1 rfl; have x2 := e2.cell 2 rfl
  clear e0 y0 b0 s0 hb2
  cases hk : ramay ⟨total, last, l⟩ with
  | false =>
    have hx := HX.out
    rw [came_no (fun h => by have := h.1; rw [hk] at this; cases this)] at hx
    subst hx
    clear HX
    go_upto_region 3 with (go_at_call 21; refine (rrain_any _ _).mono ?_; rintro e wx ⟨rfl, rfl⟩)
    go_wp2_with (refine ra_store rfl (.tmp 6) (.tmp 33) rfl rfl [.int .i64 0, .int .i64 0, .slice none 0 0] rfl y2 rfl rfl rfl ?_)
    refine ra_end2 (by rfl) (by rfl) (by rfl) (ra_put y2 [.int .i64 0, .int .i64 0, .slice none 0 0]) rfl rfl ?_
    exact ⟨none, 0, 0, rfl, Sni.none _ _, b2.grown (ra_grown _ (B + 1) #[.int .i64 0, .int .i64 0, .slice none 0 0]) hBs (fun k hk => by cases hk; omega)⟩
  | true =>
  have hv := (ramay_iff _).1 hk
  have t0 : 0 ≤ total := hv.t0; have t1 : total ≤ 1152921504606846976 := hv.t1; have l0 : 0 ≤ last := hv.a0; have l1 : last ≤ 1152921504606846976 := hv.a1
  have hn : n ≤ 10 := by have := hv.len; dsimp only at this; rw [HL.out] at this; exact this
  have HK := Lib.hid hk; clear hk hv
  by_cases c0 : at_ < last
  case pos =>
    have d0 : decide (at_ < last) = true := decide_eq_true c0
    have hx := HX.out
    rw [came_no (fun h => by have := h.2.1; dsimp only at this; omega)] at hx
    subst hx
    clear HX
    go_upto_region 3 with (go_at_call 21; refine (rrain_any _ _).mono ?_; rintro e wx ⟨rfl, rfl⟩)
    go_wp2_with (refine ra_store rfl (.tmp 6) (.tmp 33) rfl rfl [.int .i64 0, .int .i64 0, .slice none 0 0] rfl y2 rfl rfl rfl ?_)
    refine ra_end2 (by rfl) (by rfl) (by rfl) (ra_put y2 [.int .i64 0, .int .i64 0, .slice none 0 0]) rfl rfl ?_
    exact ⟨none, 0, 0, rfl, Sni.none _ _, b2.grown (ra_grown _ (B + 1) #[.int .i64 0, .int .i64 0, .slice none 0 0]) hBs (fun k hk => by cases hk; omega)⟩
  case neg =>
  have d0 : decide (at_ < last) = false := decide_eq_false c0
  cases ha : t60 at_ with
  | false =>
    have hx := HX.out
    rw [came_no (fun h => by have := h.2.2.1; rw [ha] at this; cases this)] at hx
    subst hx
    clear HX
    go_upto_region 3 with (go_at_call 21; refine (rrain_any _ _).mono ?_; rintro e wx ⟨rfl, rfl⟩)
    go_wp2_with (refine ra_store rfl (.tmp 6) (.tmp 33) rfl rfl [.int .i64 0, .int .i64 0, .slice none 0 0] rfl y2 rfl rfl rfl ?_)
    refine ra_end2 (by rfl) (by rfl) (by rfl) (ra_put y2 [.int .i64 0, .int .i64 0, .slice none 0 0]) rfl rfl ?_
    exact ⟨none, 0, 0, rfl, Sni.none _ _, b2.grown (ra_grown _ (B + 1) #[.int .i64 0, .int .i64 0, .slice none 0 0]) hBs (fun k hk => by cases hk; omega)⟩
  | true =>
  by_cases c1 : bytes < 0
  case pos =>
    have d1 : decide (bytes < 0) = true := decide_eq_true c1
    have hx := HX.out
    rw [came_no (fun h => by have := h.2.2.2.1; omega)] at hx
    subst hx
    clear HX
    go_upto_region 3 with (go_at_call 21; refine (rrain_any _ _).mono ?_; rintro e wx ⟨rfl, rfl⟩)
    go_wp2_with (refine ra_store rfl (.tmp 6) (.tmp 33) rfl rfl [.int .i64 0, .int .i64 0, .slice none 0 0] rfl y2 rfl rfl rfl ?_)
    refine ra_end2 (by rfl) (by rfl) (by rfl) (ra_put y2 [.int .i64 0, .int .i64 0, .slice none 0 0]) rfl rfl ?_
    exact ⟨none, 0, 0, rfl, Sni.none _ _, b2.grown (ra_grown _ (B + 1) #[.int .i64 0, .int .i64 0, .slice none 0 0]) hBs (fun k hk => by cases hk; omega)⟩
  case neg =>
  have d1 : decide (bytes < 0) = false := decide_eq_false c1
  by_cases c2 : 1099511627776 < bytes
  case pos =>
    have d2 : decide (1099511627776 < bytes) = true := decide_eq_true c2
    have hx := HX.out
    rw [came_no (fun h => by have := h.2.2.2.2; omega)] at hx
    subst hx
    clear HX
    go_upto_region 3 with (go_at_call 21; refine (rrain_any _ _).mono ?_; rintro e wx ⟨rfl, rfl⟩)
    go_wp2_with (refine ra_store rfl (.tmp 6) (.tmp 33) rfl rfl [.int .i64 0, .int .i64 0, .slice none 0 0] rfl y2 rfl rfl rfl ?_)
    refine ra_end2 (by rfl) (by rfl) (by rfl) (ra_put y2 [.int .i64 0, .int .i64 0, .slice none 0 0]) rfl rfl ?_
    exact ⟨none, 0, 0, rfl, Sni.none _ _, b2.grown (ra_grown _ (B + 1) #[.int .i64 0, .int .i64 0, .slice none 0 0]) hBs (fun k hk => by cases hk; omega)⟩
  case neg =>
  have d2 : decide (1099511627776 < bytes) = false := decide_eq_false c2
  have hok : CameOk ⟨total, last, l⟩ at_ bytes := ⟨HK.out, by dsimp only; omega, ha, by omega, by omega⟩
  have HOK := Lib.hid hok; clear hok
  by_cases c3 : total + bytes ≤ 1152921504606846976
  case neg =>
    have d3 : t60 (total + bytes) = false := t60_no (fun h => c3 h.2)
    have hx := HX.out
    rw [came_over HOK.out c3] at hx
    subst hx
    clear HX
    go_upto_region 5 with (go_at_call 21; refine (rrain_any _ _).mono ?_; rintro e wx ⟨rfl, rfl⟩)
    go_wp2_with (refine ra_store rfl (.tmp 6) (.tmp 40) rfl rfl [.int .i64 0, .int .i64 0, .slice none 0 0] rfl y2 rfl rfl rfl ?_)
    refine ra_end2 (by rfl) (by rfl) (by rfl) (ra_put y2 [.int .i64 0, .int .i64 0, .slice none 0 0]) rfl rfl ?_
    exact ⟨none, 0, 0, rfl, Sni.none _ _, b2.grown (ra_grown _ (B + 1) #[.int .i64 0, .int .i64 0, .slice none 0 0]) hBs (fun k hk => by cases hk; omega)⟩
  case pos =>
  have d3 : t60 (total + bytes) = true := (t60_iff _).2 ⟨by omega, c3⟩
  have hx := HX.out
  rw [came_ok HOK.out c3] at hx
  subst hx
  clear HX
  go_upto_region 6 with (go_at_call 21; refine (rrain_any _ _).mono ?_; rintro e wx ⟨rfl, rfl⟩)
  go_wp2_with (refine ra_load rfl (.tmp 3) rfl rfl e2 rfl ?_)
  refine (rraown_any total last A n c l _ s2 (by omega)).mono ?_
  rintro e w3 ⟨R, d, rfl, hg3, hb3⟩
  have e3 := e2.kept hb3; have y3 := y2.kept hb3; have b3 := b2.trans (hb3.mono hBs)
  have hw2 : B + 1 < w2.heap.size := y2.lt
  have hw3 : w2.heap.size ≤ w3.heap.size := hb3.size
  clear x0 x1 x2
  have e4 := e3.alloc (.cells #[.int .i64 (total + bytes), .int .i64 at_, .slice R n d] 24); have y4 := y3.alloc (.cells #[.int .i64 (total + bytes), .int .i64 at_, .slice R n d] 24); have v4 := Bx.new w3 24 [.int .i64 (total + bytes), .int .i64 at_, .slice R n d]
  have b4 := b3.alloc (by omega) (.cells #[.int .i64 (total + bytes), .int .i64 at_, .slice R n d] 24)
  have g4 := hg3.alloc (.cells #[.int .i64 (total + bytes), .int .i64 at_, .slice R n d] 24)
  have u0 : ∀ o, (w3.alloc o).cell? ⟨B, 0, none⟩ = some (.int .i64 total) := fun o => (e3.alloc o).cell 0 rfl
  go_wp2_with (first | (refine ra_load rfl (.tmp 9) rfl rfl v4 rfl ?_) | (refine ra_store rfl (.tmp 6) (.tmp 50) rfl rfl [.int .i64 (total + bytes), .int .i64 at_, .slice R n d] rfl y4 rfl rfl rfl ?_))
  refine ra_end2 (by rfl) (by rfl) (by rfl) (ra_put y4 [.int .i64 (total + bytes), .int .i64 at_, .slice R n d]) rfl rfl ?_
  have g5 : Goti ((w3.alloc (.cells #[.int .i64 (total + bytes), .int .i64 at_, .slice R n d] 24)).setRow (B + 1) #[.int .i64 (total + bytes), .int .i64 at_, .slice R n d]) (w2.heap.size + 1 + 1 + 1) 3 (.slice R n d) n l := ⟨g4.row.kept (ra_grown _ (B + 1) _) (.inr (fun h => by have := (g4.row.lt (B + 1) h).1; omega)), g4.wide⟩
  obtain ⟨R', d', hR', hsn⟩ := g5.sni
  cases hR'
  exact ⟨R, n, d, rfl, hsn.mono (by omega), b4.grown (ra_grown _ (B + 1) _) (by simp; omega) (fun k hk => by cases hk; omega)⟩

set_option maxRecDepth 100000 in
set_option maxHeartbeats 8000000 in
theorem rrasamp_any (total last : Int) (A : Option Addr) (n c : Nat) (l : List Int) (a b : Int) (w : World) (hs : Si w A n c l) :
    Calls Try.prog 14 #[.agg #[.int .i64 total, .int .i64 last, .slice A n c], .int .i64 a, .int .i64 b] w fun e w' => TellS w w' e (sampR ⟨total, last, l⟩ a b) := by
  unfold TellS
  obtain ⟨B, hB⟩ : ∃ B, w.heap.size = B := ⟨_, rfl⟩
  rw [hB]
  have hl := hs.rd.len
  have e0 := (Bx.new w 24 [.int .i64 total, .int .i64 last, .slice A n c]).alloc (.cells #[.int .i64 0, .int .i64 0, .slice none 0 0] 24)
  have y0 := Bx.new (w.alloc (.cells #[.int .i64 total, .int .i64 last, .slice A n c] 24)) 24 [.int .i64 0, .int .i64 0, .slice none 0 0]
  rw [World.size_alloc] at y0
  rw [hB] at e0 y0
  have b0 : Below B w ((w.alloc (.cells #[.int .i64 total, .int .i64 last, .slice A n c] 24)).alloc (.cells #[.int .i64 0, .int .i64 0, .slice none 0 0] 24)) := by rw [← hB]; exact ((Below.refl _ _).alloc (Nat.le_refl _) _).alloc (by simp) _
  have s0 := (hs.alloc (.cells #[.int .i64 total, .int .i64 last, .slice A n c] 24)).alloc (.cells #[.int .i64 0, .int .i64 0, .slice none 0 0] 24)
  obtain ⟨x, hx⟩ : ∃ x, sampR ⟨total, last, l⟩ a b = x := ⟨_, rfl⟩
  rw [hx]
  have HX := Lib.hid hx; have HL := Lib.hid hl; clear hx hl hs
  go_enter Try.func14, Try.ntmps14
  go_wp2_with (refine ra_load rfl (.tmp 3) rfl rfl e0 rfl ?_)
  generalize (w.alloc (.cells #[.int .i64 total, .int .i64 last, .slice A n c] 24)).alloc (.cells #[.int .i64 0, .int .i64 0, .slice none 0 0] 24) = w1 at e0 y0 b0 s0 ⊢
  refine (rramay_any total last A n c l _ s0).mono ?_
  rintro e w2 ⟨rfl, hb2⟩
  have e2 := e0.kept hb2; have y2 := y0.kept hb2; have b2 := b0.trans (hb2.mono (Nat.le_of_lt e0.lt)); have s2 := s0.keep hb2
  have hBs : B ≤ w2.heap.size := Nat.le_of_lt e2.lt
  have x0 := e2.cell 0 rfl; have x1 := e2.cell 1 rfl; have x2 := e2.cell 2 rfl
  clear e0 y0 b0 s0 hb2
  cases hk : ramay ⟨total, last, l⟩ with
  | false =>
    have hx := HX.out
    rw [samp_no (fun h => by have := h.1; rw [hk] at this; cases this)] at hx
    subst hx
    clear HX
    go_upto_region 3 with (go_at_call 21; refine (rrain_any _ _).mono ?_; rintro e wx ⟨rfl, rfl⟩)
    go_wp2_with (refine ra_store rfl (.tmp 6) (.tmp 37) rfl rfl [.int .i64 0, .int .i64 0, .slice none 0 0] rfl y2 rfl rfl rfl ?_)
    refine ra_end3 (by rfl) (by rfl) (by rfl) (by rfl) (ra_put y2 [.int .i64 0, .int .i64 0, .slice none 0 0]) rfl rfl ?_
    exact ⟨none, 0, 0, rfl, Sni.none _ _, b2.grown (ra_grown _ (B + 1) #[.int .i64 0, .int .i64 0, .slice none 0 0]) hBs (fun k hk => by cases hk; omega)⟩
  | true =>
  have hv := (ramay_iff _).1 hk
  have t0 : 0 ≤ total := hv.t0; have t1 : total ≤ 1152921504606846976 := hv.t1; have l0 : 0 ≤ last := hv.a0; have l1 : last ≤ 1152921504606846976 := hv.a1
  have hn : n ≤ 10 := by have := hv.len; dsimp only at this; rw [HL.out] at this; exact this
  have HK := Lib.hid hk; clear hk hv
  by_cases c0 : a < 0
  case pos =>
    have d0 : decide (a < 0) = true := decide_eq_true c0
    have hx := HX.out
    rw [samp_no (fun h => by have := h.2.1; (try dsimp only at this); omega)] at hx
    subst hx
    clear HX
    go_upto_region 3 with (go_at_call 21; refine (rrain_any _ _).mono ?_; rintro e wx ⟨rfl, rfl⟩)
    go_wp2_with (refine ra_store rfl (.tmp 6) (.tmp 37) rfl rfl [.int .i64 0, .int .i64 0, .slice none 0 0] rfl y2 rfl rfl rfl ?_)
    refine ra_end3 (by rfl) (by rfl) (by rfl) (by rfl) (ra_put y2 [.int .i64 0, .int .i64 0, .slice none 0 0]) rfl rfl ?_
    exact ⟨none, 0, 0, rfl, Sni.none _ _, b2.grown (ra_grown _ (B + 1) #[.int .i64 0, .int .i64 0, .slice none 0 0]) hBs (fun k hk => by cases hk; omega)⟩
  case neg =>
  have d0 : decide (a < 0) = false := decide_eq_false c0
  by_cases c1 : total < a
  case pos =>
    have d1 : decide (total < a) = true := decide_eq_true c1
    have hx := HX.out
    rw [samp_no (fun h => by have := h.2.2.1; (try dsimp only at this); omega)] at hx
    subst hx
    clear HX
    go_upto_region 3 with (go_at_call 21; refine (rrain_any _ _).mono ?_; rintro e wx ⟨rfl, rfl⟩)
    go_wp2_with (refine ra_store rfl (.tmp 6) (.tmp 37) rfl rfl [.int .i64 0, .int .i64 0, .slice none 0 0] rfl y2 rfl rfl rfl ?_)
    refine ra_end3 (by rfl) (by rfl) (by rfl) (by rfl) (ra_put y2 [.int .i64 0, .int .i64 0, .slice none 0 0]) rfl rfl ?_
    exact ⟨none, 0, 0, rfl, Sni.none _ _, b2.grown (ra_grown _ (B + 1) #[.int .i64 0, .int .i64 0, .slice none 0 0]) hBs (fun k hk => by cases hk; omega)⟩
  case neg =>
  have d1 : decide (total < a) = false := decide_eq_false c1
  by_cases c2 : b < 0
  case pos =>
    have d2 : decide (b < 0) = true := decide_eq_true c2
    have hx := HX.out
    rw [samp_no (fun h => by have := h.2.2.2.1; (try dsimp only at this); omega)] at hx
    subst hx
    clear HX
    go_upto_region 3 with (go_at_call 21; refine (rrain_any _ _).mono ?_; rintro e wx ⟨rfl, rfl⟩)
    go_wp2_with (refine ra_store rfl (.tmp 6) (.tmp 37) rfl rfl [.int .i64 0, .int .i64 0, .slice none 0 0] rfl y2 rfl rfl rfl ?_)
    refine ra_end3 (by rfl) (by rfl) (by rfl) (by rfl) (ra_put y2 [.int .i64 0, .int .i64 0, .slice none 0 0]) rfl rfl ?_
    exact ⟨none, 0, 0, rfl, Sni.none _ _, b2.grown (ra_grown _ (B + 1) #[.int .i64 0, .int .i64 0, .slice none 0 0]) hBs (fun k hk => by cases hk; omega)⟩
  case neg =>
  have d2 : decide (b < 0) = false := decide_eq_false c2
  by_cases c3 : last < b
  case pos =>
    have d3 : decide (last < b) = true := decide_eq_true c3
    have hx := HX.out
    rw [samp_no (fun h => by have := h.2.2.2.2; (try dsimp only at this); omega)] at hx
    subst hx
    clear HX
    go_upto_region 3 with (go_at_call 21; refine (rrain_any _ _).mono ?_; rintro e wx ⟨rfl, rfl⟩)
    go_wp2_with (refine ra_store rfl (.tmp 6) (.tmp 37) rfl rfl [.int .i64 0, .int .i64 0, .slice none 0 0] rfl y2 rfl rfl rfl ?_)
    refine ra_end3 (by rfl) (by rfl) (by rfl) (by rfl) (ra_put y2 [.int .i64 0, .int .i64 0, .slice none 0 0]) rfl rfl ?_
    exact ⟨none, 0, 0, rfl, Sni.none _ _, b2.grown (ra_grown _ (B + 1) #[.int .i64 0, .int .i64 0, .slice none 0 0]) hBs (fun k hk => by cases hk; omega)⟩
  case neg =>
  have d3 : decide (last < b) = false := decide_eq_false c3
  have hok : SampOk ⟨total, last, l⟩ a b := ⟨HK.out, by omega, by dsimp only; omega, by omega, by dsimp only; omega⟩
  have HOK := Lib.hid hok; clear hok
  go_wp2_with (refine ra_load rfl (.tmp 3) rfl rfl e2 rfl ?_)
  refine (rraown_any total last A n c l _ s2 (by omega)).mono ?_
  rintro e w3 ⟨R, d, rfl, hg3, hb3⟩
  have e3 := e2.kept hb3; have y3 := y2.kept hb3; have b3 := b2.trans (hb3.mono hBs)
  have hw2 : B + 1 < w2.heap.size := y2.lt
  have hw3 : w2.heap.size ≤ w3.heap.size := hb3.size
  clear x0 x1 x2
  have e4 := e3.alloc (.cells #[.int .i64 total, .int .i64 last, .slice R n d] 24); have y4 := y3.alloc (.cells #[.int .i64 total, .int .i64 last, .slice R n d] 24); have v4 := Bx.new w3 24 [.int .i64 total, .int .i64 last, .slice R n d]
  have b4 := b3.alloc (by omega) (.cells #[.int .i64 total, .int .i64 last, .slice R n d] 24)
  have g4 := hg3.alloc (.cells #[.int .i64 total, .int .i64 last, .slice R n d] 24)
  have hlt4 : ∀ k, (Value.slice R n d).ownBlock = some k → k < w3.heap.size := fun k h => (hg3.row.lt k h).2
  have x1 := e4.cell 1 rfl; have x0 := e4.cell 0 rfl
  obtain ⟨dd, hdd⟩ : ∃ dd, last - b = dd := ⟨_, rfl⟩
  by_cases c5 : dd ≤ 0
  case pos =>
    have d5 : decide (dd ≤ 0) = true := decide_eq_true c5
    have hx := HX.out
    rw [samp_same HOK.out (by dsimp only; omega)] at hx
    subst hx
    clear HX
    go_wp2_with (first | (refine ra_load rfl (.tmp 10) rfl rfl v4 rfl ?_) | (refine ra_store rfl (.tmp 6) (.tmp 45) rfl rfl [.int .i64 total, .int .i64 last, .slice R n d] rfl y4 rfl rfl rfl ?_))
    refine ra_end3 (by rfl) (by rfl) (by rfl) (by rfl) (ra_put y4 [.int .i64 total, .int .i64 last, .slice R n d]) rfl rfl ?_
    have g5 : Goti ((w3.alloc (.cells #[.int .i64 total, .int .i64 last, .slice R n d] 24)).setRow (B + 1) #[.int .i64 total, .int .i64 last, .slice R n d]) (w2.heap.size + 1 + 1 + 1) 3 (.slice R n d) n l := ⟨g4.row.kept (ra_grown _ (B + 1) _) (.inr (fun h => by have := (g4.row.lt (B + 1) h).1; omega)), g4.wide⟩
    obtain ⟨R', d', hR', hsn⟩ := g5.sni
    cases hR'
    exact ⟨R, n, d, rfl, hsn.mono (by omega), b4.grown (ra_grown _ (B + 1) _) (by simp; omega) (fun k hk => by cases hk; omega)⟩
  case neg =>
  have d5 : decide (dd ≤ 0) = false := decide_eq_false c5
  have hx := HX.out
  rw [samp_ok HOK.out (by dsimp only; omega)] at hx
  dsimp only at hx
  rw [hdd] at hx
  obtain ⟨aa, haa⟩ : ∃ aa, total - a = aa := ⟨_, rfl⟩
  rw [haa] at hx
  have hmd := num_md (a := aa) (d := dd) (by omega) (by omega) (by omega) (by omega)
  obtain ⟨q, hq⟩ : ∃ q, 1000000 * aa / dd = q := ⟨_, rfl⟩
  have hnr : numR aa dd = if 1152921504606846976 < q then 1152921504606846976 else q := by unfold numR; rw [hq]
  rw [hq] at hmd
  obtain ⟨nr, hnre⟩ : ∃ nr, numR aa dd = nr := ⟨_, rfl⟩
  have hnb := num_bd (a := aa) (d := dd) (by omega) (by omega)
  rw [hnre] at hx hnr hnb
  obtain ⟨nr0, nr1⟩ := hnb
  subst hx
  obtain ⟨ok, hokd⟩ : ∃ ok, mdOk 1000000 aa dd = ok := ⟨_, rfl⟩
  rw [hokd] at hmd
  have HMD := Lib.hid hmd; have HNR := Lib.hid hnr; have HQ := Lib.hid hq; have HOD := Lib.hid hokd
  clear HX hmd hnr hq hnre hokd
  go_wp2_with fail
  obtain ⟨P, hP⟩ : ∃ P, w3.heap.size = P := ⟨_, rfl⟩
  rw [hP] at v4 hw3 hlt4 ⊢
  generalize w3.alloc (.cells #[.int .i64 total, .int .i64 last, .slice R n d] 24) = w4 at e4 y4 v4 b4 g4 x0 x1 ⊢
  clear e3 y3 b3 hg3 hb3 hP
  refine (rmd_any 1000000 aa dd _).mono ?_
  rintro e w5 ⟨rfl, rfl⟩
  rw [HQ.out, HOD.out]
  obtain ⟨tq, htq⟩ : ∃ tq, tell q ok = tq := ⟨_, rfl⟩
  rw [htq]
  have hcase : (ok = false ∧ nr = 1152921504606846976) ∨ (ok = true ∧ 1152921504606846976 < tq ∧ nr = 1152921504606846976) ∨ (ok = true ∧ tq ≤ 1152921504606846976 ∧ nr = tq) := by
    have h1 := HMD.out
    have h2 := HNR.out
    rcases h1 with ⟨h1, h3⟩ | ⟨h1, h3⟩
    · rw [htq] at h3
      subst h3
      split at h2
      · exact .inr (.inl ⟨h1, by assumption, h2⟩)
      · exact .inr (.inr ⟨h1, by omega, h2⟩)
    · rw [if_pos h3] at h2
      exact .inl ⟨h1, h2⟩
  clear htq HMD HNR HQ HOD
  have hg0 : True := trivial
  rcases hcase with ⟨k1, k2⟩ | ⟨k1, k3, k2⟩ | ⟨k1, k3, k2⟩
  · subst k1; subst k2
    go_upto_region 10 with fail
    have hsplit : Hid (n = 10) ∨ Hid (n < 10) := (by by_cases c : n = 10; exact .inl (Lib.hid c); exact .inr (Lib.hid (by omega)))
    rcases hsplit with H10 | H10
    · have WN : Hid (W64 1152921504606846976) := Lib.hid (by unfold W64; omega)
      have HG := Lib.hid (g4.mono (base' := w2.heap.size) (by omega))
      have h4 := v4.lt
      have x2 := v4.cell 2 rfl
      have f2 := v4.free 2
      clear g4 hg0
      go_upto_region 11 with (at_builtin; go_loud (refine wpList_appi _ rfl (.tmp 65) (.tmp 67) 22 rfl w2.heap.size 3 Try.underlying22 info_int _ _ _ rfl (HG.out.alloc (.cells #[.int .i64 1152921504606846976] 3)) rfl (fun h => by cases h) (ri_one w4 WN.out 3) (by omega) (by simp; omega) ?_; intro v' w5 hg' hgrow' hown'; have v5 := (v4.alloc (.cells #[.int .i64 1152921504606846976] 3)).grown hgrow' (fun h => by have := hlt4 P h.symm; omega); have y5 := (y4.alloc (.cells #[.int .i64 1152921504606846976] 3)).grown hgrow' (fun h => by have := (HG.out.row.lt (B + 1) h.symm).1; omega); have b5 : Below B w w5 := (b4.alloc (by omega) (.cells #[.int .i64 1152921504606846976] 3)).grown hgrow' (by simp; omega) (fun k h => by have := (HG.out.row.lt k h).1; omega); have hneP : v'.ownBlock ≠ some P := (by rcases hown' with h | h; exact (fun h2 => by have := hlt4 P (h.symm.trans h2); omega); exact (fun h2 => by have h3 := Option.some.inj (h.symm.trans h2); simp at h3; omega)); have h5 : w4.heap.size + 1 ≤ w5.heap.size := (by have := hgrow'.size; simp at this; omega); obtain ⟨R2, c2, hv', hs2⟩ := hg'.sni; subst hv'; have hle2 := hs2.si.le; obtain ⟨d2, hd2⟩ : ∃ d2, c2 = d2 + 1 := ⟨c2 - 1, by omega⟩; subst hd2; have v6 := v5.set 2 (.slice R2 (n + 1) (d2 + 1)); simp only [List.set_cons_zero, List.set_cons_succ] at v6; have y6 := y5.far (p := ⟨P, 2, none⟩) (by simp; omega) (.slice R2 (n + 1) (d2 + 1)); have b6 := b5.grown (ra_gset w5 ⟨P, 2, none⟩ (.slice R2 (n + 1) (d2 + 1))) (by omega) (fun k h => by cases h; exact (by omega : B ≤ P)); have g6 : Goti (w5.setCell ⟨P, 2, none⟩ (.slice R2 (n + 1) (d2 + 1))) w2.heap.size 3 (.slice R2 (n + 1) (d2 + 1)) (n + 1) (l ++ [1152921504606846976]) := ⟨hg'.row.kept (ra_gset w5 ⟨P, 2, none⟩ (.slice R2 (n + 1) (d2 + 1))) (.inr hneP), hg'.wide⟩; have h6 : w4.heap.size < (w5.setCell ⟨P, 2, none⟩ (.slice R2 (n + 1) (d2 + 1))).heap.size := (by simp; omega); have x5 := v5.cell 2 rfl; have f5 := v5.free 2; clear hs2 hle2 hg' hown' hgrow' x2 f2))
      have HG6 := Lib.hid g6; have HNP := Lib.hid hneP; clear x5 f5 v5 y5 b5 g6 hneP h5
      generalize w5.setCell ⟨P, 2, none⟩ (.slice R2 (n + 1) (d2 + 1)) = w6 at v6 y6 b6 HG6 h6 ⊢
      have x6 := v6.cell 2 rfl; have f6 := v6.free 2
      have hdn : n ≤ d2 := by
        obtain ⟨R', d', hR', hsn⟩ := HG6.out.sni
        cases hR'
        have := hsn.si.le
        omega
      have hcut : ∀ w, (Instr.slice 22 (.slice R2 (n + 1) (d2 + 1)) (some (.int .i64 1)) none none).run Try.prog w = .ok (.slice (cutI R2 1 (d2 + 1)) n d2) w := fun w => run_cutI Try.prog 22 3 Try.underlying22 info_int R2 1 n d2 w (by omega) hdn
      have d10 : decide ((10 : Int) < (n : Int) + 1) = true := decide_eq_true (by have := H10.out; omega)
      have v7 := v6.set 2 (.slice (cutI R2 1 (d2 + 1)) n d2); simp only [List.set_cons_zero, List.set_cons_succ] at v7
      have y7 := y6.far (p := ⟨P, 2, none⟩) (by simp; omega) (.slice (cutI R2 1 (d2 + 1)) n d2)
      have b7 := b6.grown (ra_gset w6 ⟨P, 2, none⟩ (.slice (cutI R2 1 (d2 + 1)) n d2)) (by omega) (fun k h => by cases h; exact (by omega : B ≤ P))
      have HG7 : Hid (Goti (w6.setCell ⟨P, 2, none⟩ (.slice (cutI R2 1 (d2 + 1)) n d2)) w2.heap.size 3 (.slice R2 (n + 1) (d2 + 1)) (n + 1) (l ++ [1152921504606846976])) := Lib.hid ⟨HG6.out.row.kept (ra_gset w6 ⟨P, 2, none⟩ (.slice (cutI R2 1 (d2 + 1)) n d2)) (.inr HNP.out), HG6.out.wide⟩
      go_upto_region 13 with fail
      generalize w6.setCell ⟨P, 2, none⟩ (.slice (cutI R2 1 (d2 + 1)) n d2) = w7 at v7 y7 b7 HG7 ⊢
      go_wp2_with (first | (refine ra_load rfl (.tmp 10) rfl rfl v7 rfl ?_) | (refine ra_store rfl (.tmp 6) (.tmp 78) rfl rfl [.int .i64 total, .int .i64 last, .slice (cutI R2 1 (d2 + 1)) n d2] rfl y7 rfl rfl rfl ?_))
      refine ra_end3 (by rfl) (by rfl) (by rfl) (by rfl) (ra_put y7 [.int .i64 total, .int .i64 last, .slice (cutI R2 1 (d2 + 1)) n d2]) rfl rfl ?_
      have g8 : Goti (w7.setRow (B + 1) #[.int .i64 total, .int .i64 last, .slice (cutI R2 1 (d2 + 1)) n d2]) w2.heap.size 3 (.slice R2 (n + 1) (d2 + 1)) (n + 1) (l ++ [1152921504606846976]) := ⟨HG7.out.row.kept (ra_grown _ (B + 1) _) (.inr (fun h => by have := (HG7.out.row.lt (B + 1) h).1; omega)), HG7.out.wide⟩
      obtain ⟨R', d', hR', hsn⟩ := g8.sni
      cases hR'
      refine ⟨cutI R2 1 (d2 + 1), n, d2, rfl, ?_, b7.grown (ra_grown _ (B + 1) _) (Nat.le_of_lt (by have := y7.lt; omega)) (fun k hk => by cases hk; omega)⟩
      rw [push_full (by rw [HL.out]; exact H10.out)]
      exact (hsn.cut (k := 1) (m := n) (d := d2) rfl rfl).mono (by omega)
    · have WN : Hid (W64 1152921504606846976) := Lib.hid (by unfold W64; omega)
      have HG := Lib.hid (g4.mono (base' := w2.heap.size) (by omega))
      have h4 := v4.lt
      have x2 := v4.cell 2 rfl
      have f2 := v4.free 2
      clear g4 hg0
      go_upto_region 11 with (at_builtin; go_loud (refine wpList_appi _ rfl (.tmp 65) (.tmp 67) 22 rfl w2.heap.size 3 Try.underlying22 info_int _ _ _ rfl (HG.out.alloc (.cells #[.int .i64 1152921504606846976] 3)) rfl (fun h => by cases h) (ri_one w4 WN.out 3) (by omega) (by simp; omega) ?_; intro v' w5 hg' hgrow' hown'; have v5 := (v4.alloc (.cells #[.int .i64 1152921504606846976] 3)).grown hgrow' (fun h => by have := hlt4 P h.symm; omega); have y5 := (y4.alloc (.cells #[.int .i64 1152921504606846976] 3)).grown hgrow' (fun h => by have := (HG.out.row.lt (B + 1) h.symm).1; omega); have b5 : Below B w w5 := (b4.alloc (by omega) (.cells #[.int .i64 1152921504606846976] 3)).grown hgrow' (by simp; omega) (fun k h => by have := (HG.out.row.lt k h).1; omega); have hneP : v'.ownBlock ≠ some P := (by rcases hown' with h | h; exact (fun h2 => by have := hlt4 P (h.symm.trans h2); omega); exact (fun h2 => by have h3 := Option.some.inj (h.symm.trans h2); simp at h3; omega)); have h5 : w4.heap.size + 1 ≤ w5.heap.size := (by have := hgrow'.size; simp at this; omega); obtain ⟨R2, c2, hv', hs2⟩ := hg'.sni; subst hv'; have hle2 := hs2.si.le; obtain ⟨d2, hd2⟩ : ∃ d2, c2 = d2 + 1 := ⟨c2 - 1, by omega⟩; subst hd2; have v6 := v5.set 2 (.slice R2 (n + 1) (d2 + 1)); simp only [List.set_cons_zero, List.set_cons_succ] at v6; have y6 := y5.far (p := ⟨P, 2, none⟩) (by simp; omega) (.slice R2 (n + 1) (d2 + 1)); have b6 := b5.grown (ra_gset w5 ⟨P, 2, none⟩ (.slice R2 (n + 1) (d2 + 1))) (by omega) (fun k h => by cases h; exact (by omega : B ≤ P)); have g6 : Goti (w5.setCell ⟨P, 2, none⟩ (.slice R2 (n + 1) (d2 + 1))) w2.heap.size 3 (.slice R2 (n + 1) (d2 + 1)) (n + 1) (l ++ [1152921504606846976]) := ⟨hg'.row.kept (ra_gset w5 ⟨P, 2, none⟩ (.slice R2 (n + 1) (d2 + 1))) (.inr hneP), hg'.wide⟩; have h6 : w4.heap.size < (w5.setCell ⟨P, 2, none⟩ (.slice R2 (n + 1) (d2 + 1))).heap.size := (by simp; omega); have x5 := v5.cell 2 rfl; have f5 := v5.free 2; clear hs2 hle2 hg' hown' hgrow' x2 f2))
      have HG6 := Lib.hid g6; have HNP := Lib.hid hneP; clear x5 f5 v5 y5 b5 g6 hneP h5
      generalize w5.setCell ⟨P, 2, none⟩ (.slice R2 (n + 1) (d2 + 1)) = w6 at v6 y6 b6 HG6 h6 ⊢
      have x6 := v6.cell 2 rfl; have f6 := v6.free 2
      have d10 : decide ((10 : Int) < (n : Int) + 1) = false := decide_eq_false (by have := H10.out; omega)
      have v7 := v6; have y7 := y6; have b7 := b6; have HG7 := HG6
      clear v6 y6 b6 HG6
      go_upto_region 13 with fail
      obtain ⟨w7, hw7⟩ : ∃ w7, w6 = w7 := ⟨_, rfl⟩
      subst hw7
      go_wp2_with (first | (refine ra_load rfl (.tmp 10) rfl rfl v7 rfl ?_) | (refine ra_store rfl (.tmp 6) (.tmp 78) rfl rfl [.int .i64 total, .int .i64 last, .slice R2 (n + 1) (d2 + 1)] rfl y7 rfl rfl rfl ?_))
      refine ra_end3 (by rfl) (by rfl) (by rfl) (by rfl) (ra_put y7 [.int .i64 total, .int .i64 last, .slice R2 (n + 1) (d2 + 1)]) rfl rfl ?_
      have g8 : Goti (w6.setRow (B + 1) #[.int .i64 total, .int .i64 last, .slice R2 (n + 1) (d2 + 1)]) w2.heap.size 3 (.slice R2 (n + 1) (d2 + 1)) (n + 1) (l ++ [1152921504606846976]) := ⟨HG7.out.row.kept (ra_grown _ (B + 1) _) (.inr (fun h => by have := (HG7.out.row.lt (B + 1) h).1; omega)), HG7.out.wide⟩
      obtain ⟨R', d', hR', hsn⟩ := g8.sni
      cases hR'
      refine ⟨R2, n + 1, d2 + 1, rfl, ?_, b7.grown (ra_grown _ (B + 1) _) (Nat.le_of_lt (by have := y7.lt; omega)) (fun k hk => by cases hk; omega)⟩
      rw [push_room (by rw [HL.out]; exact H10.out)]
      exact hsn.mono (by omega)
  · subst k1; subst k2
    have d6 : decide (1152921504606846976 < tq) = true := decide_eq_true k3
    go_upto_region 10 with fail
    have hsplit : Hid (n = 10) ∨ Hid (n < 10) := (by by_cases c : n = 10; exact .inl (Lib.hid c); exact .inr (Lib.hid (by omega)))
    rcases hsplit with H10 | H10
    · have WN : Hid (W64 1152921504606846976) := Lib.hid (by unfold W64; omega)
      have HG := Lib.hid (g4.mono (base' := w2.heap.size) (by omega))
      have h4 := v4.lt
      have x2 := v4.cell 2 rfl
      have f2 := v4.free 2
      clear g4 hg0
      go_upto_region 11 with (at_builtin; go_loud (refine wpList_appi _ rfl (.tmp 65) (.tmp 67) 22 rfl w2.heap.size 3 Try.underlying22 info_int _ _ _ rfl (HG.out.alloc (.cells #[.int .i64 1152921504606846976] 3)) rfl (fun h => by cases h) (ri_one w4 WN.out 3) (by omega) (by simp; omega) ?_; intro v' w5 hg' hgrow' hown'; have v5 := (v4.alloc (.cells #[.int .i64 1152921504606846976] 3)).grown hgrow' (fun h => by have := hlt4 P h.symm; omega); have y5 := (y4.alloc (.cells #[.int .i64 1152921504606846976] 3)).grown hgrow' (fun h => by have := (HG.out.row.lt (B + 1) h.symm).1; omega); have b5 : Below B w w5 := (b4.alloc (by omega) (.cells #[.int .i64 1152921504606846976] 3)).grown hgrow' (by simp; omega) (fun k h => by have := (HG.out.row.lt k h).1; omega); have hneP : v'.ownBlock ≠ some P := (by rcases hown' with h | h; exact (fun h2 => by have := hlt4 P (h.symm.trans h2); omega); exact (fun h2 => by have h3 := Option.some.inj (h.symm.trans h2); simp at h3; omega)); have h5 : w4.heap.size + 1 ≤ w5.heap.size := (by have := hgrow'.size; simp at this; omega); obtain ⟨R2, c2, hv', hs2⟩ := hg'.sni; subst hv'; have hle2 := hs2.si.le; obtain ⟨d2, hd2⟩ : ∃ d2, c2 = d2 + 1 := ⟨c2 - 1, by omega⟩; subst hd2; have v6 := v5.set 2 (.slice R2 (n + 1) (d2 + 1)); simp only [List.set_cons_zero, List.set_cons_succ] at v6; have y6 := y5.far (p := ⟨P, 2, none⟩) (by simp; omega) (.slice R2 (n + 1) (d2 + 1)); have b6 := b5.grown (ra_gset w5 ⟨P, 2, none⟩ (.slice R2 (n + 1) (d2 + 1))) (by omega) (fun k h => by cases h; exact (by omega : B ≤ P)); have g6 : Goti (w5.setCell ⟨P, 2, none⟩ (.slice R2 (n + 1) (d2 + 1))) w2.heap.size 3 (.slice R2 (n + 1) (d2 + 1)) (n + 1) (l ++ [1152921504606846976]) := ⟨hg'.row.kept (ra_gset w5 ⟨P, 2, none⟩ (.slice R2 (n + 1) (d2 + 1))) (.inr hneP), hg'.wide⟩; have h6 : w4.heap.size < (w5.setCell ⟨P, 2, none⟩ (.slice R2 (n + 1) (d2 + 1))).heap.size := (by simp; omega); have x5 := v5.cell 2 rfl; have f5 := v5.free 2; clear hs2 hle2 hg' hown' hgrow' x2 f2))
      have HG6 := Lib.hid g6; have HNP := Lib.hid hneP; clear x5 f5 v5 y5 b5 g6 hneP h5
      generalize w5.setCell ⟨P, 2, none⟩ (.slice R2 (n + 1) (d2 + 1)) = w6 at v6 y6 b6 HG6 h6 ⊢
      have x6 := v6.cell 2 rfl; have f6 := v6.free 2
      have hdn : n ≤ d2 := by
        obtain ⟨R', d', hR', hsn⟩ := HG6.out.sni
        cases hR'
        have := hsn.si.le
        omega
      have hcut : ∀ w, (Instr.slice 22 (.slice R2 (n + 1) (d2 + 1)) (some (.int .i64 1)) none none).run Try.prog w = .ok (.slice (cutI R2 1 (d2 + 1)) n d2) w := fun w => run_cutI Try.prog 22 3 Try.underlying22 info_int R2 1 n d2 w (by omega) hdn
      have d10 : decide ((10 : Int) < (n : Int) + 1) = true := decide_eq_true (by have := H10.out; omega)
      have v7 := v6.set 2 (.slice (cutI R2 1 (d2 + 1)) n d2); simp only [List.set_cons_zero, List.set_cons_succ] at v7
      have y7 := y6.far (p := ⟨P, 2, none⟩) (by simp; omega) (.slice (cutI R2 1 (d2 + 1)) n d2)
      have b7 := b6.grown (ra_gset w6 ⟨P, 2, none⟩ (.slice (cutI R2 1 (d2 + 1)) n d2)) (by omega) (fun k h => by cases h; exact (by omega : B ≤ P))
      have HG7 : Hid (Goti (w6.setCell ⟨P, 2, none⟩ (.slice (cutI R2 1 (d2 + 1)) n d2)) w2.heap.size 3 (.slice R2 (n + 1) (d2 + 1)) (n + 1) (l ++ [1152921504606846976])) := Lib.hid ⟨HG6.out.row.kept (ra_gset w6 ⟨P, 2, none⟩ (.slice (cutI R2 1 (d2 + 1)) n d2)) (.inr HNP.out), HG6.out.wide⟩
      go_upto_region 13 with fail
      generalize w6.setCell ⟨P, 2, none⟩ (.slice (cutI R2 1 (d2 + 1)) n d2) = w7 at v7 y7 b7 HG7 ⊢
      go_wp2_with (first | (refine ra_load rfl (.tmp 10) rfl rfl v7 rfl ?_) | (refine ra_store rfl (.tmp 6) (.tmp 78) rfl rfl [.int .i64 total, .int .i64 last, .slice (cutI R2 1 (d2 + 1)) n d2] rfl y7 rfl rfl rfl ?_))
      refine ra_end3 (by rfl) (by rfl) (by rfl) (by rfl) (ra_put y7 [.int .i64 total, .int .i64 last, .slice (cutI R2 1 (d2 + 1)) n d2]) rfl rfl ?_
      have g8 : Goti (w7.setRow (B + 1) #[.int .i64 total, .int .i64 last, .slice (cutI R2 1 (d2 + 1)) n d2]) w2.heap.size 3 (.slice R2 (n + 1) (d2 + 1)) (n + 1) (l ++ [1152921504606846976]) := ⟨HG7.out.row.kept (ra_grown _ (B + 1) _) (.inr (fun h => by have := (HG7.out.row.lt (B + 1) h).1; omega)), HG7.out.wide⟩
      obtain ⟨R', d', hR', hsn⟩ := g8.sni
      cases hR'
      refine ⟨cutI R2 1 (d2 + 1), n, d2, rfl, ?_, b7.grown (ra_grown _ (B + 1) _) (Nat.le_of_lt (by have := y7.lt; omega)) (fun k hk => by cases hk; omega)⟩
      rw [push_full (by rw [HL.out]; exact H10.out)]
      exact (hsn.cut (k := 1) (m := n) (d := d2) rfl rfl).mono (by omega)
    · have WN : Hid (W64 1152921504606846976) := Lib.hid (by unfold W64; omega)
      have HG := Lib.hid (g4.mono (base' := w2.heap.size) (by omega))
      have h4 := v4.lt
      have x2 := v4.cell 2 rfl
      have f2 := v4.free 2
      clear g4 hg0
      go_upto_region 11 with (at_builtin; go_loud (refine wpList_appi _ rfl (.tmp 65) (.tmp 67) 22 rfl w2.heap.size 3 Try.underlying22 info_int _ _ _ rfl (HG.out.alloc (.cells #[.int .i64 1152921504606846976] 3)) rfl (fun h => by cases h) (ri_one w4 WN.out 3) (by omega) (by simp; omega) ?_; intro v' w5 hg' hgrow' hown'; have v5 := (v4.alloc (.cells #[.int .i64 1152921504606846976] 3)).grown hgrow' (fun h => by have := hlt4 P h.symm; omega); have y5 := (y4.alloc (.cells #[.int .i64 1152921504606846976] 3)).grown hgrow' (fun h => by have := (HG.out.row.lt (B + 1) h.symm).1; omega); have b5 : Below B w w5 := (b4.alloc (by omega) (.cells #[.int .i64 1152921504606846976] 3)).grown hgrow' (by simp; omega) (fun k h => by have := (HG.out.row.lt k h).1; omega); have hneP : v'.ownBlock ≠ some P := (by rcases hown' with h | h; exact (fun h2 => by have := hlt4 P (h.symm.trans h2); omega); exact (fun h2 => by have h3 := Option.some.inj (h.symm.trans h2); simp at h3; omega)); have h5 : w4.heap.size + 1 ≤ w5.heap.size := (by have := hgrow'.size; simp at this; omega); obtain ⟨R2, c2, hv', hs2⟩ := hg'.sni; subst hv'; have hle2 := hs2.si.le; obtain ⟨d2, hd2⟩ : ∃ d2, c2 = d2 + 1 := ⟨c2 - 1, by omega⟩; subst hd2; have v6 := v5.set 2 (.slice R2 (n + 1) (d2 + 1)); simp only [List.set_cons_zero, List.set_cons_succ] at v6; have y6 := y5.far (p := ⟨P, 2, none⟩) (by simp; omega) (.slice R2 (n + 1) (d2 + 1)); have b6 := b5.grown (ra_gset w5 ⟨P, 2, none⟩ (.slice R2 (n + 1) (d2 + 1))) (by omega) (fun k h => by cases h; exact (by omega : B ≤ P)); have g6 : Goti (w5.setCell ⟨P, 2, none⟩ (.slice R2 (n + 1) (d2 + 1))) w2.heap.size 3 (.slice R2 (n + 1) (d2 + 1)) (n + 1) (l ++ [1152921504606846976]) := ⟨hg'.row.kept (ra_gset w5 ⟨P, 2, none⟩ (.slice R2 (n + 1) (d2 + 1))) (.inr hneP), hg'.wide⟩; have h6 : w4.heap.size < (w5.setCell ⟨P, 2, none⟩ (.slice R2 (n + 1) (d2 + 1))).heap.size := (by simp; omega); have x5 := v5.cell 2 rfl; have f5 := v5.free 2; clear hs2 hle2 hg' hown' hgrow' x2 f2))
      have HG6 := Lib.hid g6; have HNP := Lib.hid hneP; clear x5 f5 v5 y5 b5 g6 hneP h5
      generalize w5.setCell ⟨P, 2, none⟩ (.slice R2 (n + 1) (d2 + 1)) = w6 at v6 y6 b6 HG6 h6 ⊢
      have x6 := v6.cell 2 rfl; have f6 := v6.free 2
      have d10 : decide ((10 : Int) < (n : Int) + 1) = false := decide_eq_false (by have := H10.out; omega)
      have v7 := v6; have y7 := y6; have b7 := b6; have HG7 := HG6
      clear v6 y6 b6 HG6
      go_upto_region 13 with fail
      obtain ⟨w7, hw7⟩ : ∃ w7, w6 = w7 := ⟨_, rfl⟩
      subst hw7
      go_wp2_with (first | (refine ra_load rfl (.tmp 10) rfl rfl v7 rfl ?_) | (refine ra_store rfl (.tmp 6) (.tmp 78) rfl rfl [.int .i64 total, .int .i64 last, .slice R2 (n + 1) (d2 + 1)] rfl y7 rfl rfl rfl ?_))
      refine ra_end3 (by rfl) (by rfl) (by rfl) (by rfl) (ra_put y7 [.int .i64 total, .int .i64 last, .slice R2 (n + 1) (d2 + 1)]) rfl rfl ?_
      have g8 : Goti (w6.setRow (B + 1) #[.int .i64 total, .int .i64 last, .slice R2 (n + 1) (d2 + 1)]) w2.heap.size 3 (.slice R2 (n + 1) (d2 + 1)) (n + 1) (l ++ [1152921504606846976]) := ⟨HG7.out.row.kept (ra_grown _ (B + 1) _) (.inr (fun h => by have := (HG7.out.row.lt (B + 1) h).1; omega)), HG7.out.wide⟩
      obtain ⟨R', d', hR', hsn⟩ := g8.sni
      cases hR'
      refine ⟨R2, n + 1, d2 + 1, rfl, ?_, b7.grown (ra_grown _ (B + 1) _) (Nat.le_of_lt (by have := y7.lt; omega)) (fun k hk => by cases hk; omega)⟩
      rw [push_room (by rw [HL.out]; exact H10.out)]
      exact hsn.mono (by omega)
  · subst k1; subst k2
    have d6 : decide (1152921504606846976 < nr) = false := decide_eq_false (by omega)
    go_upto_region 10 with fail
    have hsplit : Hid (n = 10) ∨ Hid (n < 10) := (by by_cases c : n = 10; exact .inl (Lib.hid c); exact .inr (Lib.hid (by omega)))
    rcases hsplit with H10 | H10
    · have WN : Hid (W64 nr) := Lib.hid (by unfold W64; omega)
      have HG := Lib.hid (g4.mono (base' := w2.heap.size) (by omega))
      have h4 := v4.lt
      have x2 := v4.cell 2 rfl
      have f2 := v4.free 2
      clear g4 hg0
      go_upto_region 11 with (at_builtin; go_loud (refine wpList_appi _ rfl (.tmp 65) (.tmp 67) 22 rfl w2.heap.size 3 Try.underlying22 info_int _ _ _ rfl (HG.out.alloc (.cells #[.int .i64 nr] 3)) rfl (fun h => by cases h) (ri_one w4 WN.out 3) (by omega) (by simp; omega) ?_; intro v' w5 hg' hgrow' hown'; have v5 := (v4.alloc (.cells #[.int .i64 nr] 3)).grown hgrow' (fun h => by have := hlt4 P h.symm; omega); have y5 := (y4.alloc (.cells #[.int .i64 nr] 3)).grown hgrow' (fun h => by have := (HG.out.row.lt (B + 1) h.symm).1; omega); have b5 : Below B w w5 := (b4.alloc (by omega) (.cells #[.int .i64 nr] 3)).grown hgrow' (by simp; omega) (fun k h => by have := (HG.out.row.lt k h).1; omega); have hneP : v'.ownBlock ≠ some P := (by rcases hown' with h | h; exact (fun h2 => by have := hlt4 P (h.symm.trans h2); omega); exact (fun h2 => by have h3 := Option.some.inj (h.symm.trans h2); simp at h3; omega)); have h5 : w4.heap.size + 1 ≤ w5.heap.size := (by have := hgrow'.size; simp at this; omega); obtain ⟨R2, c2, hv', hs2⟩ := hg'.sni; subst hv'; have hle2 := hs2.si.le; obtain ⟨d2, hd2⟩ : ∃ d2, c2 = d2 + 1 := ⟨c2 - 1, by omega⟩; subst hd2; have v6 := v5.set 2 (.slice R2 (n + 1) (d2 + 1)); simp only [List.set_cons_zero, List.set_cons_succ] at v6; have y6 := y5.far (p := ⟨P, 2, none⟩) (by simp; omega) (.slice R2 (n + 1) (d2 + 1)); have b6 := b5.grown (ra_gset w5 ⟨P, 2, none⟩ (.slice R2 (n + 1) (d2 + 1))) (by omega) (fun k h => by cases h; exact (by omega : B ≤ P)); have g6 : Goti (w5.setCell ⟨P, 2, none⟩ (.slice R2 (n + 1) (d2 + 1))) w2.heap.size 3 (.slice R2 (n + 1) (d2 + 1)) (n + 1) (l ++ [nr]) := ⟨hg'.row.kept (ra_gset w5 ⟨P, 2, none⟩ (.slice R2 (n + 1) (d2 + 1))) (.inr hneP), hg'.wide⟩; have h6 : w4.heap.size < (w5.setCell ⟨P, 2, none⟩ (.slice R2 (n + 1) (d2 + 1))).heap.size := (by simp; omega); have x5 := v5.cell 2 rfl; have f5 := v5.free 2; clear hs2 hle2 hg' hown' hgrow' x2 f2))
      have HG6 := Lib.hid g6; have HNP := Lib.hid hneP; clear x5 f5 v5 y5 b5 g6 hneP h5
      generalize w5.setCell ⟨P, 2, none⟩ (.slice R2 (n + 1) (d2 + 1)) = w6 at v6 y6 b6 HG6 h6 ⊢
      have x6 := v6.cell 2 rfl; have f6 := v6.free 2
      have hdn : n ≤ d2 := by
        obtain ⟨R', d', hR', hsn⟩ := HG6.out.sni
        cases hR'
        have := hsn.si.le
        omega
      have hcut : ∀ w, (Instr.slice 22 (.slice R2 (n + 1) (d2 + 1)) (some (.int .i64 1)) none none).run Try.prog w = .ok (.slice (cutI R2 1 (d2 + 1)) n d2) w := fun w => run_cutI Try.prog 22 3 Try.underlying22 info_int R2 1 n d2 w (by omega) hdn
      have d10 : decide ((10 : Int) < (n : Int) + 1) = true := decide_eq_true (by have := H10.out; omega)
      have v7 := v6.set 2 (.slice (cutI R2 1 (d2 + 1)) n d2); simp only [List.set_cons_zero, List.set_cons_succ] at v7
      have y7 := y6.far (p := ⟨P, 2, none⟩) (by simp; omega) (.slice (cutI R2 1 (d2 + 1)) n d2)
      have b7 := b6.grown (ra_gset w6 ⟨P, 2, none⟩ (.slice (cutI R2 1 (d2 + 1)) n d2)) (by omega) (fun k h => by cases h; exact (by omega : B ≤ P))
      have HG7 : Hid (Goti (w6.setCell ⟨P, 2, none⟩ (.slice (cutI R2 1 (d2 + 1)) n d2)) w2.heap.size 3 (.slice R2 (n + 1) (d2 + 1)) (n + 1) (l ++ [nr])) := Lib.hid ⟨HG6.out.row.kept (ra_gset w6 ⟨P, 2, none⟩ (.slice (cutI R2 1 (d2 + 1)) n d2)) (.inr HNP.out), HG6.out.wide⟩
      go_upto_region 13 with fail
      generalize w6.setCell ⟨P, 2, none⟩ (.slice (cutI R2 1 (d2 + 1)) n d2) = w7 at v7 y7 b7 HG7 ⊢
      go_wp2_with (first | (refine ra_load rfl (.tmp 10) rfl rfl v7 rfl ?_) | (refine ra_store rfl (.tmp 6) (.tmp 78) rfl rfl [.int .i64 total, .int .i64 last, .slice (cutI R2 1 (d2 + 1)) n d2] rfl y7 rfl rfl rfl ?_))
      refine ra_end3 (by rfl) (by rfl) (by rfl) (by rfl) (ra_put y7 [.int .i64 total, .int .i64 last, .slice (cutI R2 1 (d2 + 1)) n d2]) rfl rfl ?_
      have g8 : Goti (w7.setRow (B + 1) #[.int .i64 total, .int .i64 last, .slice (cutI R2 1 (d2 + 1)) n d2]) w2.heap.size 3 (.slice R2 (n + 1) (d2 + 1)) (n + 1) (l ++ [nr]) := ⟨HG7.out.row.kept (ra_grown _ (B + 1) _) (.inr (fun h => by have := (HG7.out.row.lt (B + 1) h).1; omega)), HG7.out.wide⟩
      obtain ⟨R', d', hR', hsn⟩ := g8.sni
      cases hR'
      refine ⟨cutI R2 1 (d2 + 1), n, d2, rfl, ?_, b7.grown (ra_grown _ (B + 1) _) (Nat.le_of_lt (by have := y7.lt; omega)) (fun k hk => by cases hk; omega)⟩
      rw [push_full (by rw [HL.out]; exact H10.out)]
      exact (hsn.cut (k := 1) (m := n) (d := d2) rfl rfl).mono (by omega)
    · have WN : Hid (W64 nr) := Lib.hid (by unfold W64; omega)
      have HG := Lib.hid (g4.mono (base' := w2.heap.size) (by omega))
      have h4 := v4.lt
      have x2 := v4.cell 2 rfl
      have f2 := v4.free 2
      clear g4 hg0
      go_upto_region 11 with (at_builtin; go_loud (refine wpList_appi _ rfl (.tmp 65) (.tmp 67) 22 rfl w2.heap.size 3 Try.underlying22 info_int _ _ _ rfl (HG.out.alloc (.cells #[.int .i64 nr] 3)) rfl (fun h => by cases h) (ri_one w4 WN.out 3) (by omega) (by simp; omega) ?_; intro v' w5 hg' hgrow' hown'; have v5 := (v4.alloc (.cells #[.int .i64 nr] 3)).grown hgrow' (fun h => by have := hlt4 P h.symm; omega); have y5 := (y4.alloc (.cells #[.int .i64 nr] 3)).grown hgrow' (fun h => by have := (HG.out.row.lt (B + 1) h.symm).1; omega); have b5 : Below B w w5 := (b4.alloc (by omega) (.cells #[.int .i64 nr] 3)).grown hgrow' (by simp; omega) (fun k h => by have := (HG.out.row.lt k h).1; omega); have hneP : v'.ownBlock ≠ some P := (by rcases hown' with h | h; exact (fun h2 => by have := hlt4 P (h.symm.trans h2); omega); exact (fun h2 => by have h3 := Option.some.inj (h.symm.trans h2); simp at h3; omega)); have h5 : w4.heap.size + 1 ≤ w5.heap.size := (by have := hgrow'.size; simp at this; omega); obtain ⟨R2, c2, hv', hs2⟩ := hg'.sni; subst hv'; have hle2 := hs2.si.le; obtain ⟨d2, hd2⟩ : ∃ d2, c2 = d2 + 1 := ⟨c2 - 1, by omega⟩; subst hd2; have v6 := v5.set 2 (.slice R2 (n + 1) (d2 + 1)); simp only [List.set_cons_zero, List.set_cons_succ] at v6; have y6 := y5.far (p := ⟨P, 2, none⟩) (by simp; omega) (.slice R2 (n + 1) (d2 + 1)); have b6 := b5.grown (ra_gset w5 ⟨P, 2, none⟩ (.slice R2 (n + 1) (d2 + 1))) (by omega) (fun k h => by cases h; exact (by omega : B ≤ P)); have g6 : Goti (w5.setCell ⟨P, 2, none⟩ (.slice R2 (n + 1) (d2 + 1))) w2.heap.size 3 (.slice R2 (n + 1) (d2 + 1)) (n + 1) (l ++ [nr]) := ⟨hg'.row.kept (ra_gset w5 ⟨P, 2, none⟩ (.slice R2 (n + 1) (d2 + 1))) (.inr hneP), hg'.wide⟩; have h6 : w4.heap.size < (w5.setCell ⟨P, 2, none⟩ (.slice R2 (n + 1) (d2 + 1))).heap.size := (by simp; omega); have x5 := v5.cell 2 rfl; have f5 := v5.free 2; clear hs2 hle2 hg' hown' hgrow' x2 f2))
      have HG6 := Lib.hid g6; have HNP := Lib.hid hneP; clear x5 f5 v5 y5 b5 g6 hneP h5
      generalize w5.setCell ⟨P, 2, none⟩ (.slice R2 (n + 1) (d2 + 1)) = w6 at v6 y6 b6 HG6 h6 ⊢
      have x6 := v6.cell 2 rfl; have f6 := v6.free 2
      have d10 : decide ((10 : Int) < (n : Int) + 1) = false := decide_eq_false (by have := H10.out; omega)
      have v7 := v6; have y7 := y6; have b7 := b6; have HG7 := HG6
      clear v6 y6 b6 HG6
      go_upto_region 13 with fail
      obtain ⟨w7, hw7⟩ : ∃ w7, w6 = w7 := ⟨_, rfl⟩
      subst hw7
      go_wp2_with (first | (refine ra_load rfl (.tmp 10) rfl rfl v7 rfl ?_) | (refine ra_store rfl (.tmp 6) (.tmp 78) rfl rfl [.int .i64 total, .int .i64 last, .slice R2 (n + 1) (d2 + 1)] rfl y7 rfl rfl rfl ?_))
      refine ra_end3 (by rfl) (by rfl) (by rfl) (by rfl) (ra_put y7 [.int .i64 total, .int .i64 last, .slice R2 (n + 1) (d2 + 1)]) rfl rfl ?_
      have g8 : Goti (w6.setRow (B + 1) #[.int .i64 total, .int .i64 last, .slice R2 (n + 1) (d2 + 1)]) w2.heap.size 3 (.slice R2 (n + 1) (d2 + 1)) (n + 1) (l ++ [nr]) := ⟨HG7.out.row.kept (ra_grown _ (B + 1) _) (.inr (fun h => by have := (HG7.out.row.lt (B + 1) h).1; omega)), HG7.out.wide⟩
      obtain ⟨R', d', hR', hsn⟩ := g8.sni
      cases hR'
      refine ⟨R2, n + 1, d2 + 1, rfl, ?_, b7.grown (ra_grown _ (B + 1) _) (Nat.le_of_lt (by have := y7.lt; omega)) (fun k hk => by cases hk; omega)⟩
      rw [push_room (by rw [HL.out]; exact H10.out)]
      exact hsn.mono (by omega)
end Go.Proofs.Ytphkenicbbcjjaa
