/- The reference of package least: Met as a contract of the call. -/
import Derived.Test.YtihheanjlabioaaLeRef2
import Derived.WalkKit
import Derived.WalkSpells
import Derived.WalkSmall
import Derived.Lib.Hide
import Derived.Below
import Derived.Outline
namespace Go.Proofs.Ytihheanjlabioaa
open Go.RowKit
set_option linter.unusedVariables false
set_option linter.unusedSimpArgs false

theorem info_pt : (Try.prog.info? 38).map (fun i => (i.zero, i.size, i.bytes)) = some (some (.agg #[.int .i64 0, .int .i64 0]), 2, 16) := by kernel_rfl
/-- a windowed minimum, whether it began anew, and an error -/
def TellM (w w' : World) (e : Ending) (x : Lv × Bool × Int) : Prop := ∃ R m d, e = .returned (.tuple #[.agg #[.int .i64 x.1.span, .slice R m d, .int .i64 x.1.high], .bool x.2.1, .int .i64 x.2.2]) ∧ Sn w' w.heap.size R m d x.1.l ∧ Below w.heap.size w w'
/-- a box and two slots: what the call hands back -/
theorem le_end {W : World} {B : Nat} {t : TypeId} {cs : List Value} {fn : Func} {tmps : Array Value} {R : Ending → World → Prop} {v u : Value} {ds : List Deferred} {p q r : Tmp} (hr : fn.results = #[.cell p 24, .tmp q, .tmp r]) (h2 : tmps.getD p undef = .pointer (some ⟨B, 0, none⟩)) (h3 : tmps.getD q undef = v) (h4 : tmps.getD r undef = u)
    (e : Bx W B t cs) (hl : cs.length = 3) (hd : ds = []) (h : R (.returned (.tuple #[.agg cs.toArray, v, u])) W) : bodyPost Try.prog fn R .ret { tmps := tmps, defers := ds } W := by
  have l2 := le_var e hl
  have h2a : tmps[p]?.getD undef = .pointer (some ⟨B, 0, none⟩) := by simpa using h2
  have h2b : tmps[q]?.getD undef = v := by simpa using h3
  have h2c : tmps[r]?.getD undef = u := by simpa using h4
  refine bodyPost_ret (v := .tuple #[.agg cs.toArray, v, u]) ?_ hd h
  simp [results, hr, h2a, h2b, h2c, asAddr, l2]
theorem of_bd {v : Lv} (h : Lok v) (a : Int) : 0 ≤ (ofR v a).1 ∧ (ofR v a).1 ≤ 1152921504606846976 := by
  unfold ofR
  split
  · cases hf : v.l.find? (cnt v.span a) with
    | none => exact ⟨Int.le_refl _, by show (0 : Int) ≤ _; decide⟩
    | some p =>
      have := (((pts_iff v.l).1 h.pts).1 p (List.mem_of_find?_eq_some hf)).2
      exact this
  · exact ⟨Int.le_refl _, by show (0 : Int) ≤ _; decide⟩
theorem left_snoc {l : List Sp} {f : Sp → Bool} {k : Nat} (h : k < l.length) : (l.take (k + 1)).filter f = (l.take k).filter f ++ (if f (sp l k) = true then [sp l k] else []) := by
  rw [take_sp h, List.filter_append]
  cases hf : f (sp l k) <;> simp [List.filter_cons, hf]

set_option maxRecDepth 100000 in
set_option maxHeartbeats 8000000 in
theorem rlmet_any (span : Int) (A : Option Addr) (n c : Nat) (high : Int) (l : List Sp) (at_ nn : Int) (w : World) (hs : Ss w A n c l) :
    Calls Try.prog 11 #[.agg #[.int .i64 span, .slice A n c, .int .i64 high], .int .i64 at_, .int .i64 nn] w fun e w' => TellM w w' e (metR ⟨span, l, high⟩ at_ nn) := by
  unfold TellM
  obtain ⟨B, hB⟩ : ∃ B, w.heap.size = B := ⟨_, rfl⟩
  rw [hB]
  have hl := hs.rd.len
  have m1 := hs.le
  have m2 := hs.max
  unfold maxLen at m2
  have e0 := Bx.new w 24 [.int .i64 span, .slice A n c, .int .i64 high]
  have e1 := e0.alloc (.cells #[.int .i64 0, .slice none 0 0, .int .i64 0] 24)
  have y1 := Bx.new (w.alloc (.cells #[.int .i64 span, .slice A n c, .int .i64 high] 24)) 24 [.int .i64 0, .slice none 0 0, .int .i64 0]
  rw [World.size_alloc] at y1
  rw [hB] at e1 y1
  have b1 : Below B w ((w.alloc (.cells #[.int .i64 span, .slice A n c, .int .i64 high] 24)).alloc (.cells #[.int .i64 0, .slice none 0 0, .int .i64 0] 24)) := by rw [← hB]; exact ((Below.refl _ _).alloc (Nat.le_refl _) _).alloc (by simp) _
  have hs1 : Ss ((w.alloc (.cells #[.int .i64 span, .slice A n c, .int .i64 high] 24)).alloc (.cells #[.int .i64 0, .slice none 0 0, .int .i64 0] 24)) A n c l := (hs.alloc _).alloc _
  obtain ⟨x, hx⟩ : ∃ x, metR ⟨span, l, high⟩ at_ nn = x := ⟨_, rfl⟩
  rw [hx]
  have HX := Lib.hid hx
  have HL := Lib.hid hl
  clear e0 hx
  go_enter Try.func11, Try.ntmps11
  go_wp2_with (refine le_load rfl (.tmp 3) rfl rfl e1 rfl ?_)
  generalize (w.alloc (.cells #[.int .i64 span, .slice A n c, .int .i64 high] 24)).alloc (.cells #[.int .i64 0, .slice none 0 0, .int .i64 0] 24) = w1 at e1 y1 b1 hs1 ⊢
  refine (rlmay_any span A n c high l _ hs1).mono ?_
  rintro e w2 ⟨rfl, hb2⟩
  have e2 := e1.kept hb2; have y2 := y1.kept hb2; have b2 := b1.trans (hb2.mono (Nat.le_of_lt e1.lt)); have hs2 := hs1.keep hb2
  have hBs : B ≤ w2.heap.size := Nat.le_of_lt e2.lt
  clear hs hs1 e1 y1 b1 hb2 hl
  cases hk : lmay ⟨span, l, high⟩ with
  | false =>
    have hz := met_no (v := ⟨span, l, high⟩) (a := at_) (n := nn) (fun h => by have := h.1; rw [hk] at this; exact absurd this (by simp))
    have hx := HX.out
    rw [hz] at hx; subst hx
    clear hz HX hk
    go_wp2_with (refine le_store rfl (.tmp 6) (.tmp 37) rfl rfl [.int .i64 0, .slice none 0 0, .int .i64 0] rfl y2 rfl rfl rfl ?_)
    refine le_end (by rfl) (by rfl) (by rfl) (by rfl) (le_put y2 [.int .i64 0, .slice none 0 0, .int .i64 0]) rfl rfl ?_
    exact ⟨none, 0, 0, rfl, Sn.none _ _, b2.grown (le_grown _ (B + 1) #[.int .i64 0, .slice none 0 0, .int .i64 0]) hBs (fun k hk => by cases hk; omega)⟩
  | true =>
  by_cases c0 : 0 ≤ at_
  case neg =>
    have hz := met_no (v := ⟨span, l, high⟩) (a := at_) (n := nn) (fun h => c0 (h.2.1))
    have hx := HX.out
    rw [hz] at hx; subst hx
    clear hz HX hk
    have g0 : at_ < 0 := by omega
    have d0 : decide (at_ < 0) = true := decide_eq_true g0
    go_wp2_with (refine le_store rfl (.tmp 6) (.tmp 37) rfl rfl [.int .i64 0, .slice none 0 0, .int .i64 0] rfl y2 rfl rfl rfl ?_)
    refine le_end (by rfl) (by rfl) (by rfl) (by rfl) (le_put y2 [.int .i64 0, .slice none 0 0, .int .i64 0]) rfl rfl ?_
    exact ⟨none, 0, 0, rfl, Sn.none _ _, b2.grown (le_grown _ (B + 1) #[.int .i64 0, .slice none 0 0, .int .i64 0]) hBs (fun k hk => by cases hk; omega)⟩
  case pos =>
  have d0 : decide (at_ < 0) = false := decide_eq_false (by omega)
  by_cases c1 : at_ ≤ 1152921504606846976
  case neg =>
    have hz := met_no (v := ⟨span, l, high⟩) (a := at_) (n := nn) (fun h => c1 (h.2.2.1))
    have hx := HX.out
    rw [hz] at hx; subst hx
    clear hz HX hk
    have g1 : 1152921504606846976 < at_ := by omega
    have d1 : decide (1152921504606846976 < at_) = true := decide_eq_true g1
    go_wp2_with (refine le_store rfl (.tmp 6) (.tmp 37) rfl rfl [.int .i64 0, .slice none 0 0, .int .i64 0] rfl y2 rfl rfl rfl ?_)
    refine le_end (by rfl) (by rfl) (by rfl) (by rfl) (le_put y2 [.int .i64 0, .slice none 0 0, .int .i64 0]) rfl rfl ?_
    exact ⟨none, 0, 0, rfl, Sn.none _ _, b2.grown (le_grown _ (B + 1) #[.int .i64 0, .slice none 0 0, .int .i64 0]) hBs (fun k hk => by cases hk; omega)⟩
  case pos =>
  have d1 : decide (1152921504606846976 < at_) = false := decide_eq_false (by omega)
  by_cases c2 : 0 ≤ nn
  case neg =>
    have hz := met_no (v := ⟨span, l, high⟩) (a := at_) (n := nn) (fun h => c2 (h.2.2.2.1))
    have hx := HX.out
    rw [hz] at hx; subst hx
    clear hz HX hk
    have g2 : nn < 0 := by omega
    have d2 : decide (nn < 0) = true := decide_eq_true g2
    go_wp2_with (refine le_store rfl (.tmp 6) (.tmp 37) rfl rfl [.int .i64 0, .slice none 0 0, .int .i64 0] rfl y2 rfl rfl rfl ?_)
    refine le_end (by rfl) (by rfl) (by rfl) (by rfl) (le_put y2 [.int .i64 0, .slice none 0 0, .int .i64 0]) rfl rfl ?_
    exact ⟨none, 0, 0, rfl, Sn.none _ _, b2.grown (le_grown _ (B + 1) #[.int .i64 0, .slice none 0 0, .int .i64 0]) hBs (fun k hk => by cases hk; omega)⟩
  case pos =>
  have d2 : decide (nn < 0) = false := decide_eq_false (by omega)
  by_cases c3 : nn ≤ 1152921504606846976
  case neg =>
    have hz := met_no (v := ⟨span, l, high⟩) (a := at_) (n := nn) (fun h => c3 (h.2.2.2.2.1))
    have hx := HX.out
    rw [hz] at hx; subst hx
    clear hz HX hk
    have g3 : 1152921504606846976 < nn := by omega
    have d3 : decide (1152921504606846976 < nn) = true := decide_eq_true g3
    go_wp2_with (refine le_store rfl (.tmp 6) (.tmp 37) rfl rfl [.int .i64 0, .slice none 0 0, .int .i64 0] rfl y2 rfl rfl rfl ?_)
    refine le_end (by rfl) (by rfl) (by rfl) (by rfl) (le_put y2 [.int .i64 0, .slice none 0 0, .int .i64 0]) rfl rfl ?_
    exact ⟨none, 0, 0, rfl, Sn.none _ _, b2.grown (le_grown _ (B + 1) #[.int .i64 0, .slice none 0 0, .int .i64 0]) hBs (fun k hk => by cases hk; omega)⟩
  case pos =>
  have d3 : decide (1152921504606846976 < nn) = false := decide_eq_false (by omega)
  have hok := (lmay_iff _).1 hk
  have hn : n ≤ 100 := by have := hok.len; dsimp only at this; rw [HL.out] at this; exact this
  have x0 := e2.cell 0 rfl; have x1 := e2.cell 1 rfl; have x2 := e2.cell 2 rfl
  have HOK := Lib.hid hok; have HK := Lib.hid hk; clear hok hk
  by_cases c5 : 0 < n → (sp l (n - 1)).1 ≤ at_
  case neg =>
    have hz := met_no (v := ⟨span, l, high⟩) (a := at_) (n := nn) (fun h => c5 (by have := h.2.2.2.2.2; dsimp only at this; rw [HL.out] at this; exact this))
    have hx := HX.out
    rw [hz] at hx; subst hx
    clear hz HX
    have hn0 : 0 < n := by by_cases h : 0 < n; exact h; exact absurd (fun h2 => absurd h2 h) c5
    have c5' : at_ < (sp l (n - 1)).1 := by
      rcases Int.lt_or_le at_ (sp l (n - 1)).1 with h | h
      · exact h
      · exact absurd (fun _ => h) c5
    clear c5
    obtain ⟨j, rfl⟩ : ∃ j, n = j + 1 := ⟨n - 1, by omega⟩
    obtain ⟨b, o, rfl, hbl, hc⟩ := hs2.rd.at_ (by omega)
    obtain ⟨z1, z2⟩ := hc j (by omega)
    obtain ⟨⟨p, m⟩, hpm⟩ : ∃ p, sp l j = p := ⟨_, rfl⟩
    rw [show j + 1 - 1 = j by omega, hpm] at c5'
    rw [hpm] at z1
    simp only at z1 c5'
    have d5 : decide (at_ < p) = true := decide_eq_true c5'
    clear hc hpm z2
    go_wp2_with (refine le_store rfl (.tmp 6) (.tmp 54) rfl rfl [.int .i64 0, .slice none 0 0, .int .i64 0] rfl y2 rfl rfl rfl ?_)
    refine le_end (by rfl) (by rfl) (by rfl) (by rfl) (le_put y2 [.int .i64 0, .slice none 0 0, .int .i64 0]) rfl rfl ?_
    exact ⟨none, 0, 0, rfl, Sn.none _ _, b2.grown (le_grown _ (B + 1) #[.int .i64 0, .slice none 0 0, .int .i64 0]) hBs (fun k hk => by cases hk; omega)⟩
  case pos =>
  have hmok : MetOk ⟨span, l, high⟩ at_ nn := ⟨HK.out, c0, c1, c2, c3, by dsimp only; rw [HL.out]; exact c5⟩
  have HMO := Lib.hid hmok; clear hmok
  have hbd := of_bd HOK.out at_
  obtain ⟨y, hy⟩ : ∃ y, ofR ⟨span, l, high⟩ at_ = y := ⟨_, rfl⟩
  rw [hy] at hbd
  obtain ⟨om, ob⟩ := y
  obtain ⟨om0, om1⟩ := hbd
  dsimp only at om0 om1
  have hof := rlof_any span A n c high l at_
  rw [hy] at hof
  have HOF := Lib.hid hof
  have HY := Lib.hid hy
  clear hof hy
  have hh0 := HOK.out.h0; have hh1 := HOK.out.h1
  dsimp only at hh0 hh1
  by_cases hn0 : n = 0
  · have hn1 : ¬ (0 < n) := by omega
    clear c5
    have hob : ob = false := by
      have h1 := HY.out
      have h2 : l = [] := List.eq_nil_of_length_eq_zero (by rw [HL.out]; exact hn0)
      rw [of_yes ⟨HK.out, c0, c1⟩, h2] at h1
      cases h1; rfl
    subst hob
    have HN0 := Lib.hid hn0; clear hn0 hn1
    have dn0 : decide ((0 : Int) < (n : Int)) = false := decide_eq_false (by have := HN0.out; omega)
    have dn1 : decide (0 < n) = false := decide_eq_false (by have := HN0.out; omega)
    have hBs2 : B ≤ w2.heap.size := hBs
    go_upto_region 7 with fail
    go_wp2_with (refine le_load rfl (.tmp 3) rfl rfl e2 rfl ?_)
    refine (HOF.out _ hs2).mono ?_
    rintro e w3 ⟨rfl, hb3⟩
    have e3 := e2.kept hb3; have y3 := y2.kept hb3; have b3 := b2.trans (hb3.mono hBs2); have hs3 := hs2.keep hb3
    clear x0 x1 x2
    have x0 := e3.cell 0 rfl; have x1 := e3.cell 1 rfl; have x2 := e3.cell 2 rfl
    clear e2 y2 b2 hs2 hb3

    have hH : highR ⟨span, l, high⟩ at_ nn = 0 := by unfold highR farB; rw [HY.out]; rfl
    have HH := Lib.hid hH; clear hH
    have wa : W64 at_ := by unfold W64; omega
    have wn : W64 nn := by unfold W64; omega
    have WA := Lib.hid wa; have WN := Lib.hid wn; clear wa wn
    have e4 := e3.alloc (.cells #[.int .i64 at_, .int .i64 nn] 38)
    have y4 := y3.alloc (.cells #[.int .i64 at_, .int .i64 nn] 38)
    have v4 := Bx.new w3 38 [.int .i64 at_, .int .i64 nn]
    have b4 := b3.alloc (Nat.le_of_lt e3.lt) (.cells #[.int .i64 at_, .int .i64 nn] 38)
    have hs4 := hs3.alloc (.cells #[.int .i64 at_, .int .i64 nn] 38)
    have y3s := y3.lt
    have hz := met_ok HMO.out (by rw [HH.out]; decide)
    have hx := HX.out
    rw [hz, HH.out] at hx; subst hx
    clear hz HX
    go_wp2_with fail
    clear x0 x1 x2
    obtain ⟨P, hP⟩ : ∃ P, w3.heap.size = P := ⟨_, rfl⟩
    rw [hP] at v4 y3s ⊢
    generalize w3.alloc (.cells #[.int .i64 at_, .int .i64 nn] 38) = w4 at e4 y4 v4 b4 hs4 ⊢
    obtain ⟨Z, hZ⟩ : ∃ Z, w4.heap.size = Z := ⟨_, rfl⟩
    have hPZ : P < Z := by rw [← hZ]; exact v4.lt
    have HZ := Lib.hid hZ
    clear e3 y3 b3 hs3 hP
    go_loopw [15, 16] (fun s i wr => ∃ k N : Nat, k ≤ n ∧ N ≤ k ∧ i = .int .i64 (k : Int) ∧ Gots wr Z 38 s N ((l.take k).filter (stay span at_ nn)) ∧ Below Z w4 wr) (fun _ i _ => n - (intOf i).toNat)
    case atStart => exact ⟨0, 0, Nat.zero_le _, Nat.le_refl _, rfl, Gots.none _ _ _, Below.refl _ _⟩
    case round =>
      obtain ⟨k, N, hkn, hNk, rfl, hg, br⟩ := hrel
      have HG := Lib.hid hg; clear hg
      have brw : Below w4.heap.size w4 wr := by rw [HZ.out]; exact br
      have er := e4.kept brw; have yr := y4.kept brw; have vr := v4.kept brw; have hsr := hs4.keep brw
      have hsz : Z ≤ wr.heap.size := by have := brw.size; rw [HZ.out] at this; exact this
      by_cases hlt : k < n
      · obtain ⟨b, o, hA, hbl, hc⟩ := hsr.rd.at_ (by omega)
        cases hA
        obtain ⟨z1, z2⟩ := hc k hlt
        have hw1 := sp_wide hsr.rd.wide k
        have hp := HOK.out.pts k (by dsimp only; rw [HL.out]; exact hlt)
        have p0 := hp.a0; have p1 := hp.a1
        have hsn := left_snoc (l := l) (f := (stay span at_ nn)) (k := k) (by rw [HL.out]; exact hlt)
        obtain ⟨⟨p, m⟩, hpm⟩ : ∃ p, sp l k = p := ⟨_, rfl⟩
        dsimp only at p0 p1
        rw [hpm] at z1 z2 p0 p1 hw1 hsn
        simp only at z1 z2 p0 p1
        have HW := Lib.hid hw1
        have HSN := Lib.hid hsn
        clear hpm hc hp hw1 hsn
        have x0 := er.cell 0 rfl; have x1 := er.cell 1 rfl
        go_upto_region 18 with fail
        have s1 : IntKind.i64.wrap (at_ - p) = at_ - p := IntWalk.i64_in _ (by omega)
        by_cases ca : at_ - p ≤ span
        · have da : decide (at_ - p ≤ span) = true := decide_eq_true ca
          by_cases cb : m < nn
          · have db : decide (m < nn) = true := decide_eq_true cb
            have hst : stay span at_ nn (p, m) = true := by unfold stay cnt; rw [da, db]; rfl
            have HST := Lib.hid hst; clear hst
            go_quiet (fail)
            clear s1
            have brd := below_drewN br nq
            have hgd : Gots (wr.drewN nq) Z 38 u15 N ((l.take k).filter (stay span at_ nn)) := ⟨HG.out.row, HG.out.wide⟩
            have HGD := Lib.hid hgd; clear hgd
            go_wp2_with (at_builtin; go_loud (refine wpList_apps _ rfl (.tmp 107) (.tmp 113) 22 rfl Z 38 Try.underlying22 info_pt _ _ _ rfl ⟨HGD.out.row.alloc (.cells #[.int .i64 p, .int .i64 m] 38), HGD.out.wide⟩ rfl (fun h => by cases h) (sn_one (wr.drewN nq) HW.out.1 HW.out.2 38).rd (by omega) (by simp; omega) ?_; intro v' w' hg' hgrow' _; have br2 : Below Z w4 w' := (brd.alloc (by exact hsz) _).grown hgrow' (by simp; omega) (fun k hk => (HGD.out.row.lt k hk).1)))
            have hg2 : Gots w' Z 38 v' (N + 1) ((l.take (k + 1)).filter (stay span at_ nn)) := by rw [HSN.out, HST.out]; exact hg'
            have HG2 := Lib.hid hg2; clear hg2 hg'
            go_roundw
            case rel => exact ⟨k + 1, N + 1, by omega, by omega, by go_num, HG2.out, br2⟩
            case measure => simp [intOf]; omega
          · have db : decide (m < nn) = false := decide_eq_false cb
            have hst : stay span at_ nn (p, m) = false := by unfold stay cnt; rw [da, db]; rfl
            have hg2 : (l.take (k + 1)).filter (stay span at_ nn) = (l.take k).filter (stay span at_ nn) := by rw [HSN.out, hst]; simp
            have HG2 := Lib.hid hg2; clear hst hg2
            go_quiet (fail)
            clear s1
            go_wp2_with fail
            go_roundw
            case rel => exact ⟨k + 1, N, by omega, by omega, by go_num, by rw [HG2.out]; exact ⟨HG.out.row, HG.out.wide⟩, below_drewN br _⟩
            case measure => simp [intOf]; omega
        · have da : decide (at_ - p ≤ span) = false := decide_eq_false ca
          have hst : stay span at_ nn (p, m) = false := by unfold stay cnt; rw [da]; rfl
          have hg2 : (l.take (k + 1)).filter (stay span at_ nn) = (l.take k).filter (stay span at_ nn) := by rw [HSN.out, hst]; simp
          have HG2 := Lib.hid hg2; clear hst hg2
          go_quiet (fail)
          clear s1
          go_wp2_with fail
          go_roundw
          case rel => exact ⟨k + 1, N, by omega, by omega, by go_num, by rw [HG2.out]; exact ⟨HG.out.row, HG.out.wide⟩, below_drewN br _⟩
          case measure => simp [intOf]; omega
      · obtain rfl : k = n := by omega
        have hfl : (l.take k).filter (stay span at_ nn) = leftR ⟨span, l, high⟩ at_ nn := by rw [← HL.out, List.take_length]; rfl
        have hg3 : Gots wr Z 38 u15 N (leftR ⟨span, l, high⟩ at_ nn) := by rw [← hfl]; exact HG.out
        have HG3 := Lib.hid hg3
        have hNl := hg3.len
        obtain ⟨R, d, rfl, hsn⟩ := hg3.sn
        have hbz := b4.trans (br.mono (by omega : B ≤ Z))
        clear hfl hg3
        have q0 := vr.cell 0 rfl; have q1 := vr.cell 1 rfl
        have x0 := er.cell 0 rfl
        by_cases cN : N < 100
        · have dN : decide (N < 100) = true := decide_eq_true cN
          have how : ownR (leftR ⟨span, l, high⟩ at_ nn) at_ nn = leftR ⟨span, l, high⟩ at_ nn ++ [(at_, nn)] := by unfold ownR; rw [hNl, if_pos cN]
          have HOW := Lib.hid how; clear how hNl
          have HSN := Lib.hid hsn; clear hsn
          go_wp2_with (first
            | (at_builtin; go_loud (refine wpList_apps _ rfl (.tmp 118) (.tmp 120) 22 rfl Z 38 Try.underlying22 info_pt _ _ _ rfl ⟨HG3.out.row.alloc (.cells #[.int .i64 at_, .int .i64 nn] 38), HG3.out.wide⟩ rfl (fun h => by cases h) (sn_one wr WA.out WN.out 38).rd (by omega) (by simp; omega) ?_; intro v' w' hg' hgrow' _; have br2 : Below Z w4 w' := (br.alloc hsz _).grown hgrow' (by simp; omega) (fun k hk => (HG3.out.row.lt k hk).1); have br3 : Below w4.heap.size w4 w' := (by rw [HZ.out]; exact br2); have ef := e4.kept br3; have yf := y4.kept br3; have xf := ef.cell 0 rfl; obtain ⟨R2, d2, rfl, hsn2⟩ := hg'.sn; have HS2 := Lib.hid hsn2; clear hsn2 hg'))
            | (refine le_store rfl (.tmp 6) (.tmp 126) rfl rfl [.int .i64 span, .slice R2 (N + 1) d2, .int .i64 (0)] rfl yf rfl rfl rfl ?_))
          refine le_end (by rfl) (by rfl) (by rfl) (by rfl) (le_put yf [.int .i64 span, .slice R2 (N + 1) d2, .int .i64 (0)]) rfl rfl ?_
          refine ⟨R2, N + 1, d2, rfl, ?_, ?_⟩
          · try dsimp only
            rw [HOW.out]
            exact (HS2.out.grown (le_grown w' (B + 1) _) (by omega)).mono (by omega)
          · exact (b4.trans (br2.mono (by omega : B ≤ Z))).grown (le_grown w' (B + 1) _) (Nat.le_of_lt ef.lt) (fun k hk => by cases hk; omega)
        · have dN : decide (N < 100) = false := decide_eq_false cN
          have how : ownR (leftR ⟨span, l, high⟩ at_ nn) at_ nn = leftR ⟨span, l, high⟩ at_ nn := by unfold ownR; rw [hNl, if_neg cN]
          have HOW := Lib.hid how; clear how hNl
          have HSN := Lib.hid hsn; clear hsn
          go_wp2_with (refine le_store rfl (.tmp 6) (.tmp 126) rfl rfl [.int .i64 span, .slice R N d, .int .i64 (0)] rfl yr rfl rfl rfl ?_)
          refine le_end (by rfl) (by rfl) (by rfl) (by rfl) (le_put yr [.int .i64 span, .slice R N d, .int .i64 (0)]) rfl rfl ?_
          refine ⟨R, N, d, rfl, ?_, ?_⟩
          · try dsimp only
            rw [HOW.out]
            exact (HSN.out.grown (le_grown wr (B + 1) _) (by omega)).mono (by omega)
          · exact hbz.grown (le_grown wr (B + 1) _) (Nat.le_of_lt er.lt) (fun k hk => by cases hk; omega)
  · have hn1 : 0 < n := by omega
    obtain ⟨j, hj⟩ : ∃ j, n = j + 1 := ⟨n - 1, by omega⟩
    have hnj : (n : Int) - 1 = (j : Int) := by omega
    have hjn : j < n := by omega
    have c5' : (sp l j).1 ≤ at_ := by rw [show j = n - 1 by omega]; exact c5 hn1
    clear c5 hj
    obtain ⟨b0, o0, hA0, hbl0, hc0⟩ := hs2.rd.at_ (by omega)
    subst hA0
    obtain ⟨zz1, zz2⟩ := hc0 j (by omega)
    obtain ⟨⟨pp, mm⟩, hpp⟩ : ∃ p, sp l j = p := ⟨_, rfl⟩
    rw [hpp] at c5'
    rw [hpp] at zz1
    simp only at zz1 c5'
    have d5 : decide (at_ < pp) = false := decide_eq_false (by omega)
    clear hc0 hpp zz2 c5'
    have hBs2 : B ≤ w2.heap.size := hBs
    cases ob with
    | false =>
      go_wp2_with (refine le_load rfl (.tmp 3) rfl rfl e2 rfl ?_)
      refine (HOF.out _ hs2).mono ?_
      rintro e w3 ⟨rfl, hb3⟩
      have e3 := e2.kept hb3; have y3 := y2.kept hb3; have b3 := b2.trans (hb3.mono hBs2); have hs3 := hs2.keep hb3
      clear x0 x1 x2
      have x0 := e3.cell 0 rfl; have x1 := e3.cell 1 rfl; have x2 := e3.cell 2 rfl
      clear e2 y2 b2 hs2 hb3

      have hH : highR ⟨span, l, high⟩ at_ nn = 0 := by unfold highR farB; rw [HY.out]; rfl
      have HH := Lib.hid hH; clear hH
      have wa : W64 at_ := by unfold W64; omega
      have wn : W64 nn := by unfold W64; omega
      have WA := Lib.hid wa; have WN := Lib.hid wn; clear wa wn
      have e4 := e3.alloc (.cells #[.int .i64 at_, .int .i64 nn] 38)
      have y4 := y3.alloc (.cells #[.int .i64 at_, .int .i64 nn] 38)
      have v4 := Bx.new w3 38 [.int .i64 at_, .int .i64 nn]
      have b4 := b3.alloc (Nat.le_of_lt e3.lt) (.cells #[.int .i64 at_, .int .i64 nn] 38)
      have hs4 := hs3.alloc (.cells #[.int .i64 at_, .int .i64 nn] 38)
      have y3s := y3.lt
      have hz := met_ok HMO.out (by rw [HH.out]; decide)
      have hx := HX.out
      rw [hz, HH.out] at hx; subst hx
      clear hz HX
      go_wp2_with fail
      clear x0 x1 x2
      obtain ⟨P, hP⟩ : ∃ P, w3.heap.size = P := ⟨_, rfl⟩
      rw [hP] at v4 y3s ⊢
      generalize w3.alloc (.cells #[.int .i64 at_, .int .i64 nn] 38) = w4 at e4 y4 v4 b4 hs4 ⊢
      obtain ⟨Z, hZ⟩ : ∃ Z, w4.heap.size = Z := ⟨_, rfl⟩
      have hPZ : P < Z := by rw [← hZ]; exact v4.lt
      have HZ := Lib.hid hZ
      clear e3 y3 b3 hs3 hP
      go_loopw [15, 16] (fun s i wr => ∃ k N : Nat, k ≤ n ∧ N ≤ k ∧ i = .int .i64 (k : Int) ∧ Gots wr Z 38 s N ((l.take k).filter (stay span at_ nn)) ∧ Below Z w4 wr) (fun _ i _ => n - (intOf i).toNat)
      case atStart => exact ⟨0, 0, Nat.zero_le _, Nat.le_refl _, rfl, Gots.none _ _ _, Below.refl _ _⟩
      case round =>
        obtain ⟨k, N, hkn, hNk, rfl, hg, br⟩ := hrel
        have HG := Lib.hid hg; clear hg
        have brw : Below w4.heap.size w4 wr := by rw [HZ.out]; exact br
        have er := e4.kept brw; have yr := y4.kept brw; have vr := v4.kept brw; have hsr := hs4.keep brw
        have hsz : Z ≤ wr.heap.size := by have := brw.size; rw [HZ.out] at this; exact this
        by_cases hlt : k < n
        · obtain ⟨b, o, hA, hbl, hc⟩ := hsr.rd.at_ (by omega)
          cases hA
          obtain ⟨z1, z2⟩ := hc k hlt
          have hw1 := sp_wide hsr.rd.wide k
          have hp := HOK.out.pts k (by dsimp only; rw [HL.out]; exact hlt)
          have p0 := hp.a0; have p1 := hp.a1
          have hsn := left_snoc (l := l) (f := (stay span at_ nn)) (k := k) (by rw [HL.out]; exact hlt)
          obtain ⟨⟨p, m⟩, hpm⟩ : ∃ p, sp l k = p := ⟨_, rfl⟩
          dsimp only at p0 p1
          rw [hpm] at z1 z2 p0 p1 hw1 hsn
          simp only at z1 z2 p0 p1
          have HW := Lib.hid hw1
          have HSN := Lib.hid hsn
          clear hpm hc hp hw1 hsn
          have x0 := er.cell 0 rfl; have x1 := er.cell 1 rfl
          go_upto_region 18 with fail
          have s1 : IntKind.i64.wrap (at_ - p) = at_ - p := IntWalk.i64_in _ (by omega)
          by_cases ca : at_ - p ≤ span
          · have da : decide (at_ - p ≤ span) = true := decide_eq_true ca
            by_cases cb : m < nn
            · have db : decide (m < nn) = true := decide_eq_true cb
              have hst : stay span at_ nn (p, m) = true := by unfold stay cnt; rw [da, db]; rfl
              have HST := Lib.hid hst; clear hst
              go_quiet (fail)
              clear s1
              have brd := below_drewN br nq
              have hgd : Gots (wr.drewN nq) Z 38 u15 N ((l.take k).filter (stay span at_ nn)) := ⟨HG.out.row, HG.out.wide⟩
              have HGD := Lib.hid hgd; clear hgd
              go_wp2_with (at_builtin; go_loud (refine wpList_apps _ rfl (.tmp 107) (.tmp 113) 22 rfl Z 38 Try.underlying22 info_pt _ _ _ rfl ⟨HGD.out.row.alloc (.cells #[.int .i64 p, .int .i64 m] 38), HGD.out.wide⟩ rfl (fun h => by cases h) (sn_one (wr.drewN nq) HW.out.1 HW.out.2 38).rd (by omega) (by simp; omega) ?_; intro v' w' hg' hgrow' _; have br2 : Below Z w4 w' := (brd.alloc (by exact hsz) _).grown hgrow' (by simp; omega) (fun k hk => (HGD.out.row.lt k hk).1)))
              have hg2 : Gots w' Z 38 v' (N + 1) ((l.take (k + 1)).filter (stay span at_ nn)) := by rw [HSN.out, HST.out]; exact hg'
              have HG2 := Lib.hid hg2; clear hg2 hg'
              go_roundw
              case rel => exact ⟨k + 1, N + 1, by omega, by omega, by go_num, HG2.out, br2⟩
              case measure => simp [intOf]; omega
            · have db : decide (m < nn) = false := decide_eq_false cb
              have hst : stay span at_ nn (p, m) = false := by unfold stay cnt; rw [da, db]; rfl
              have hg2 : (l.take (k + 1)).filter (stay span at_ nn) = (l.take k).filter (stay span at_ nn) := by rw [HSN.out, hst]; simp
              have HG2 := Lib.hid hg2; clear hst hg2
              go_quiet (fail)
              clear s1
              go_wp2_with fail
              go_roundw
              case rel => exact ⟨k + 1, N, by omega, by omega, by go_num, by rw [HG2.out]; exact ⟨HG.out.row, HG.out.wide⟩, below_drewN br _⟩
              case measure => simp [intOf]; omega
          · have da : decide (at_ - p ≤ span) = false := decide_eq_false ca
            have hst : stay span at_ nn (p, m) = false := by unfold stay cnt; rw [da]; rfl
            have hg2 : (l.take (k + 1)).filter (stay span at_ nn) = (l.take k).filter (stay span at_ nn) := by rw [HSN.out, hst]; simp
            have HG2 := Lib.hid hg2; clear hst hg2
            go_quiet (fail)
            clear s1
            go_wp2_with fail
            go_roundw
            case rel => exact ⟨k + 1, N, by omega, by omega, by go_num, by rw [HG2.out]; exact ⟨HG.out.row, HG.out.wide⟩, below_drewN br _⟩
            case measure => simp [intOf]; omega
        · obtain rfl : k = n := by omega
          have hfl : (l.take k).filter (stay span at_ nn) = leftR ⟨span, l, high⟩ at_ nn := by rw [← HL.out, List.take_length]; rfl
          have hg3 : Gots wr Z 38 u15 N (leftR ⟨span, l, high⟩ at_ nn) := by rw [← hfl]; exact HG.out
          have HG3 := Lib.hid hg3
          have hNl := hg3.len
          obtain ⟨R, d, rfl, hsn⟩ := hg3.sn
          have hbz := b4.trans (br.mono (by omega : B ≤ Z))
          clear hfl hg3
          have q0 := vr.cell 0 rfl; have q1 := vr.cell 1 rfl
          have x0 := er.cell 0 rfl
          by_cases cN : N < 100
          · have dN : decide (N < 100) = true := decide_eq_true cN
            have how : ownR (leftR ⟨span, l, high⟩ at_ nn) at_ nn = leftR ⟨span, l, high⟩ at_ nn ++ [(at_, nn)] := by unfold ownR; rw [hNl, if_pos cN]
            have HOW := Lib.hid how; clear how hNl
            have HSN := Lib.hid hsn; clear hsn
            go_wp2_with (first
              | (at_builtin; go_loud (refine wpList_apps _ rfl (.tmp 118) (.tmp 120) 22 rfl Z 38 Try.underlying22 info_pt _ _ _ rfl ⟨HG3.out.row.alloc (.cells #[.int .i64 at_, .int .i64 nn] 38), HG3.out.wide⟩ rfl (fun h => by cases h) (sn_one wr WA.out WN.out 38).rd (by omega) (by simp; omega) ?_; intro v' w' hg' hgrow' _; have br2 : Below Z w4 w' := (br.alloc hsz _).grown hgrow' (by simp; omega) (fun k hk => (HG3.out.row.lt k hk).1); have br3 : Below w4.heap.size w4 w' := (by rw [HZ.out]; exact br2); have ef := e4.kept br3; have yf := y4.kept br3; have xf := ef.cell 0 rfl; obtain ⟨R2, d2, rfl, hsn2⟩ := hg'.sn; have HS2 := Lib.hid hsn2; clear hsn2 hg'))
              | (refine le_store rfl (.tmp 6) (.tmp 126) rfl rfl [.int .i64 span, .slice R2 (N + 1) d2, .int .i64 (0)] rfl yf rfl rfl rfl ?_))
            refine le_end (by rfl) (by rfl) (by rfl) (by rfl) (le_put yf [.int .i64 span, .slice R2 (N + 1) d2, .int .i64 (0)]) rfl rfl ?_
            refine ⟨R2, N + 1, d2, rfl, ?_, ?_⟩
            · try dsimp only
              rw [HOW.out]
              exact (HS2.out.grown (le_grown w' (B + 1) _) (by omega)).mono (by omega)
            · exact (b4.trans (br2.mono (by omega : B ≤ Z))).grown (le_grown w' (B + 1) _) (Nat.le_of_lt ef.lt) (fun k hk => by cases hk; omega)
          · have dN : decide (N < 100) = false := decide_eq_false cN
            have how : ownR (leftR ⟨span, l, high⟩ at_ nn) at_ nn = leftR ⟨span, l, high⟩ at_ nn := by unfold ownR; rw [hNl, if_neg cN]
            have HOW := Lib.hid how; clear how hNl
            have HSN := Lib.hid hsn; clear hsn
            go_wp2_with (refine le_store rfl (.tmp 6) (.tmp 126) rfl rfl [.int .i64 span, .slice R N d, .int .i64 (0)] rfl yr rfl rfl rfl ?_)
            refine le_end (by rfl) (by rfl) (by rfl) (by rfl) (le_put yr [.int .i64 span, .slice R N d, .int .i64 (0)]) rfl rfl ?_
            refine ⟨R, N, d, rfl, ?_, ?_⟩
            · try dsimp only
              rw [HOW.out]
              exact (HSN.out.grown (le_grown wr (B + 1) _) (by omega)).mono (by omega)
            · exact hbz.grown (le_grown wr (B + 1) _) (Nat.le_of_lt er.lt) (fun k hk => by cases hk; omega)
    | true =>
      by_cases cf : 2 * om < nn
      · have df : decide (2 * om < nn) = true := decide_eq_true cf
        by_cases c7 : high = 7
        · have e7 : (high + 1 == 8) = true := by simp; omega
          have C7 := Lib.hid c7; clear c7
          go_wp2_with (refine le_load rfl (.tmp 3) rfl rfl e2 rfl ?_)
          refine (HOF.out _ hs2).mono ?_
          rintro e w3 ⟨rfl, hb3⟩
          have e3 := e2.kept hb3; have y3 := y2.kept hb3; have b3 := b2.trans (hb3.mono hBs2); have hs3 := hs2.keep hb3
          clear x0 x1 x2
          have x0 := e3.cell 0 rfl; have x1 := e3.cell 1 rfl; have x2 := e3.cell 2 rfl
          clear e2 y2 b2 hs2 hb3

          have hH : highR ⟨span, l, high⟩ at_ nn = high + 1 := by unfold highR farB; rw [HY.out]; dsimp only; rw [df]; rfl
          have HH := Lib.hid hH; clear hH
          have wa : W64 at_ := by unfold W64; omega
          have wn : W64 nn := by unfold W64; omega
          have WA := Lib.hid wa; have WN := Lib.hid wn; clear wa wn
          have e4 := e3.alloc (.cells #[.int .i64 at_, .int .i64 nn] 38)
          have y4 := y3.alloc (.cells #[.int .i64 at_, .int .i64 nn] 38)
          have v4 := Bx.new w3 38 [.int .i64 at_, .int .i64 nn]
          have b4 := b3.alloc (Nat.le_of_lt e3.lt) (.cells #[.int .i64 at_, .int .i64 nn] 38)
          have hs4 := hs3.alloc (.cells #[.int .i64 at_, .int .i64 nn] 38)
          have y3s := y3.lt
          have hz := met_turn HMO.out (by rw [HH.out]; have := C7.out; omega)
          have hx := HX.out
          rw [hz] at hx; subst hx
          clear hz HX
          have q0 := v4.cell 0 rfl; have q1 := v4.cell 1 rfl; have r0 := e4.cell 0 rfl
          have hone := sn_one (w3.alloc (.cells #[.int .i64 at_, .int .i64 nn] 38)) WA.out WN.out 38
          have b5 := b4.alloc (by simp; omega) (.cells #[.int .i64 at_, .int .i64 nn] 38)
          have y5 := y4.alloc (.cells #[.int .i64 at_, .int .i64 nn] 38)
          rw [World.size_alloc] at hone
          have hsz3 : B + 1 < w3.heap.size := y3s
          go_wp2_with (refine le_store rfl (.tmp 6) (.tmp 80) rfl rfl [.int .i64 span, .slice (some ⟨w3.heap.size + 1, 0, none⟩) 1 1, .int .i64 0] rfl y5 rfl rfl rfl ?_)
          refine le_end (by rfl) (by rfl) (by rfl) (by rfl) (le_put y5 [.int .i64 span, .slice (some ⟨w3.heap.size + 1, 0, none⟩) 1 1, .int .i64 0]) rfl rfl ?_
          exact ⟨_, 1, 1, rfl, (Sn.grown (base := w3.heap.size + 1) ⟨hone, fun b o s e => by cases e; omega⟩ (le_grown _ (B + 1) _) (by omega)).mono (by omega), b5.grown (le_grown _ (B + 1) _) (by simp; omega) (fun k hk => by cases hk; omega)⟩
        · have e8 : (high + 1 == 8) = false := by simp; omega
          go_wp2_with (refine le_load rfl (.tmp 3) rfl rfl e2 rfl ?_)
          refine (HOF.out _ hs2).mono ?_
          rintro e w3 ⟨rfl, hb3⟩
          have e3 := e2.kept hb3; have y3 := y2.kept hb3; have b3 := b2.trans (hb3.mono hBs2); have hs3 := hs2.keep hb3
          clear x0 x1 x2
          have x0 := e3.cell 0 rfl; have x1 := e3.cell 1 rfl; have x2 := e3.cell 2 rfl
          clear e2 y2 b2 hs2 hb3

          have hH : highR ⟨span, l, high⟩ at_ nn = high + 1 := by unfold highR farB; rw [HY.out]; dsimp only; rw [df]; rfl
          have HH := Lib.hid hH; clear hH
          have wa : W64 at_ := by unfold W64; omega
          have wn : W64 nn := by unfold W64; omega
          have WA := Lib.hid wa; have WN := Lib.hid wn; clear wa wn
          have e4 := e3.alloc (.cells #[.int .i64 at_, .int .i64 nn] 38)
          have y4 := y3.alloc (.cells #[.int .i64 at_, .int .i64 nn] 38)
          have v4 := Bx.new w3 38 [.int .i64 at_, .int .i64 nn]
          have b4 := b3.alloc (Nat.le_of_lt e3.lt) (.cells #[.int .i64 at_, .int .i64 nn] 38)
          have hs4 := hs3.alloc (.cells #[.int .i64 at_, .int .i64 nn] 38)
          have y3s := y3.lt
          have hz := met_ok HMO.out (by rw [HH.out]; omega)
          have hx := HX.out
          rw [hz, HH.out] at hx; subst hx
          clear hz HX
          go_wp2_with fail
          clear x0 x1 x2
          obtain ⟨P, hP⟩ : ∃ P, w3.heap.size = P := ⟨_, rfl⟩
          rw [hP] at v4 y3s ⊢
          generalize w3.alloc (.cells #[.int .i64 at_, .int .i64 nn] 38) = w4 at e4 y4 v4 b4 hs4 ⊢
          obtain ⟨Z, hZ⟩ : ∃ Z, w4.heap.size = Z := ⟨_, rfl⟩
          have hPZ : P < Z := by rw [← hZ]; exact v4.lt
          have HZ := Lib.hid hZ
          clear e3 y3 b3 hs3 hP
          go_loopw [15, 16] (fun s i wr => ∃ k N : Nat, k ≤ n ∧ N ≤ k ∧ i = .int .i64 (k : Int) ∧ Gots wr Z 38 s N ((l.take k).filter (stay span at_ nn)) ∧ Below Z w4 wr) (fun _ i _ => n - (intOf i).toNat)
          case atStart => exact ⟨0, 0, Nat.zero_le _, Nat.le_refl _, rfl, Gots.none _ _ _, Below.refl _ _⟩
          case round =>
            obtain ⟨k, N, hkn, hNk, rfl, hg, br⟩ := hrel
            have HG := Lib.hid hg; clear hg
            have brw : Below w4.heap.size w4 wr := by rw [HZ.out]; exact br
            have er := e4.kept brw; have yr := y4.kept brw; have vr := v4.kept brw; have hsr := hs4.keep brw
            have hsz : Z ≤ wr.heap.size := by have := brw.size; rw [HZ.out] at this; exact this
            by_cases hlt : k < n
            · obtain ⟨b, o, hA, hbl, hc⟩ := hsr.rd.at_ (by omega)
              cases hA
              obtain ⟨z1, z2⟩ := hc k hlt
              have hw1 := sp_wide hsr.rd.wide k
              have hp := HOK.out.pts k (by dsimp only; rw [HL.out]; exact hlt)
              have p0 := hp.a0; have p1 := hp.a1
              have hsn := left_snoc (l := l) (f := (stay span at_ nn)) (k := k) (by rw [HL.out]; exact hlt)
              obtain ⟨⟨p, m⟩, hpm⟩ : ∃ p, sp l k = p := ⟨_, rfl⟩
              dsimp only at p0 p1
              rw [hpm] at z1 z2 p0 p1 hw1 hsn
              simp only at z1 z2 p0 p1
              have HW := Lib.hid hw1
              have HSN := Lib.hid hsn
              clear hpm hc hp hw1 hsn
              have x0 := er.cell 0 rfl; have x1 := er.cell 1 rfl
              go_upto_region 18 with fail
              have s1 : IntKind.i64.wrap (at_ - p) = at_ - p := IntWalk.i64_in _ (by omega)
              by_cases ca : at_ - p ≤ span
              · have da : decide (at_ - p ≤ span) = true := decide_eq_true ca
                by_cases cb : m < nn
                · have db : decide (m < nn) = true := decide_eq_true cb
                  have hst : stay span at_ nn (p, m) = true := by unfold stay cnt; rw [da, db]; rfl
                  have HST := Lib.hid hst; clear hst
                  go_quiet (fail)
                  clear s1
                  have brd := below_drewN br nq
                  have hgd : Gots (wr.drewN nq) Z 38 u15 N ((l.take k).filter (stay span at_ nn)) := ⟨HG.out.row, HG.out.wide⟩
                  have HGD := Lib.hid hgd; clear hgd
                  go_wp2_with (at_builtin; go_loud (refine wpList_apps _ rfl (.tmp 107) (.tmp 113) 22 rfl Z 38 Try.underlying22 info_pt _ _ _ rfl ⟨HGD.out.row.alloc (.cells #[.int .i64 p, .int .i64 m] 38), HGD.out.wide⟩ rfl (fun h => by cases h) (sn_one (wr.drewN nq) HW.out.1 HW.out.2 38).rd (by omega) (by simp; omega) ?_; intro v' w' hg' hgrow' _; have br2 : Below Z w4 w' := (brd.alloc (by exact hsz) _).grown hgrow' (by simp; omega) (fun k hk => (HGD.out.row.lt k hk).1)))
                  have hg2 : Gots w' Z 38 v' (N + 1) ((l.take (k + 1)).filter (stay span at_ nn)) := by rw [HSN.out, HST.out]; exact hg'
                  have HG2 := Lib.hid hg2; clear hg2 hg'
                  go_roundw
                  case rel => exact ⟨k + 1, N + 1, by omega, by omega, by go_num, HG2.out, br2⟩
                  case measure => simp [intOf]; omega
                · have db : decide (m < nn) = false := decide_eq_false cb
                  have hst : stay span at_ nn (p, m) = false := by unfold stay cnt; rw [da, db]; rfl
                  have hg2 : (l.take (k + 1)).filter (stay span at_ nn) = (l.take k).filter (stay span at_ nn) := by rw [HSN.out, hst]; simp
                  have HG2 := Lib.hid hg2; clear hst hg2
                  go_quiet (fail)
                  clear s1
                  go_wp2_with fail
                  go_roundw
                  case rel => exact ⟨k + 1, N, by omega, by omega, by go_num, by rw [HG2.out]; exact ⟨HG.out.row, HG.out.wide⟩, below_drewN br _⟩
                  case measure => simp [intOf]; omega
              · have da : decide (at_ - p ≤ span) = false := decide_eq_false ca
                have hst : stay span at_ nn (p, m) = false := by unfold stay cnt; rw [da]; rfl
                have hg2 : (l.take (k + 1)).filter (stay span at_ nn) = (l.take k).filter (stay span at_ nn) := by rw [HSN.out, hst]; simp
                have HG2 := Lib.hid hg2; clear hst hg2
                go_quiet (fail)
                clear s1
                go_wp2_with fail
                go_roundw
                case rel => exact ⟨k + 1, N, by omega, by omega, by go_num, by rw [HG2.out]; exact ⟨HG.out.row, HG.out.wide⟩, below_drewN br _⟩
                case measure => simp [intOf]; omega
            · obtain rfl : k = n := by omega
              have hfl : (l.take k).filter (stay span at_ nn) = leftR ⟨span, l, high⟩ at_ nn := by rw [← HL.out, List.take_length]; rfl
              have hg3 : Gots wr Z 38 u15 N (leftR ⟨span, l, high⟩ at_ nn) := by rw [← hfl]; exact HG.out
              have HG3 := Lib.hid hg3
              have hNl := hg3.len
              obtain ⟨R, d, rfl, hsn⟩ := hg3.sn
              have hbz := b4.trans (br.mono (by omega : B ≤ Z))
              clear hfl hg3
              have q0 := vr.cell 0 rfl; have q1 := vr.cell 1 rfl
              have x0 := er.cell 0 rfl
              by_cases cN : N < 100
              · have dN : decide (N < 100) = true := decide_eq_true cN
                have how : ownR (leftR ⟨span, l, high⟩ at_ nn) at_ nn = leftR ⟨span, l, high⟩ at_ nn ++ [(at_, nn)] := by unfold ownR; rw [hNl, if_pos cN]
                have HOW := Lib.hid how; clear how hNl
                have HSN := Lib.hid hsn; clear hsn
                go_wp2_with (first
                  | (at_builtin; go_loud (refine wpList_apps _ rfl (.tmp 118) (.tmp 120) 22 rfl Z 38 Try.underlying22 info_pt _ _ _ rfl ⟨HG3.out.row.alloc (.cells #[.int .i64 at_, .int .i64 nn] 38), HG3.out.wide⟩ rfl (fun h => by cases h) (sn_one wr WA.out WN.out 38).rd (by omega) (by simp; omega) ?_; intro v' w' hg' hgrow' _; have br2 : Below Z w4 w' := (br.alloc hsz _).grown hgrow' (by simp; omega) (fun k hk => (HG3.out.row.lt k hk).1); have br3 : Below w4.heap.size w4 w' := (by rw [HZ.out]; exact br2); have ef := e4.kept br3; have yf := y4.kept br3; have xf := ef.cell 0 rfl; obtain ⟨R2, d2, rfl, hsn2⟩ := hg'.sn; have HS2 := Lib.hid hsn2; clear hsn2 hg'))
                  | (refine le_store rfl (.tmp 6) (.tmp 126) rfl rfl [.int .i64 span, .slice R2 (N + 1) d2, .int .i64 (high + 1)] rfl yf rfl rfl rfl ?_))
                refine le_end (by rfl) (by rfl) (by rfl) (by rfl) (le_put yf [.int .i64 span, .slice R2 (N + 1) d2, .int .i64 (high + 1)]) rfl rfl ?_
                refine ⟨R2, N + 1, d2, rfl, ?_, ?_⟩
                · try dsimp only
                  rw [HOW.out]
                  exact (HS2.out.grown (le_grown w' (B + 1) _) (by omega)).mono (by omega)
                · exact (b4.trans (br2.mono (by omega : B ≤ Z))).grown (le_grown w' (B + 1) _) (Nat.le_of_lt ef.lt) (fun k hk => by cases hk; omega)
              · have dN : decide (N < 100) = false := decide_eq_false cN
                have how : ownR (leftR ⟨span, l, high⟩ at_ nn) at_ nn = leftR ⟨span, l, high⟩ at_ nn := by unfold ownR; rw [hNl, if_neg cN]
                have HOW := Lib.hid how; clear how hNl
                have HSN := Lib.hid hsn; clear hsn
                go_wp2_with (refine le_store rfl (.tmp 6) (.tmp 126) rfl rfl [.int .i64 span, .slice R N d, .int .i64 (high + 1)] rfl yr rfl rfl rfl ?_)
                refine le_end (by rfl) (by rfl) (by rfl) (by rfl) (le_put yr [.int .i64 span, .slice R N d, .int .i64 (high + 1)]) rfl rfl ?_
                refine ⟨R, N, d, rfl, ?_, ?_⟩
                · try dsimp only
                  rw [HOW.out]
                  exact (HSN.out.grown (le_grown wr (B + 1) _) (by omega)).mono (by omega)
                · exact hbz.grown (le_grown wr (B + 1) _) (Nat.le_of_lt er.lt) (fun k hk => by cases hk; omega)
      · have df : decide (2 * om < nn) = false := decide_eq_false cf
        go_wp2_with (refine le_load rfl (.tmp 3) rfl rfl e2 rfl ?_)
        refine (HOF.out _ hs2).mono ?_
        rintro e w3 ⟨rfl, hb3⟩
        have e3 := e2.kept hb3; have y3 := y2.kept hb3; have b3 := b2.trans (hb3.mono hBs2); have hs3 := hs2.keep hb3
        clear x0 x1 x2
        have x0 := e3.cell 0 rfl; have x1 := e3.cell 1 rfl; have x2 := e3.cell 2 rfl
        clear e2 y2 b2 hs2 hb3

        have hH : highR ⟨span, l, high⟩ at_ nn = 0 := by unfold highR farB; rw [HY.out]; dsimp only; rw [df]; rfl
        have HH := Lib.hid hH; clear hH
        have wa : W64 at_ := by unfold W64; omega
        have wn : W64 nn := by unfold W64; omega
        have WA := Lib.hid wa; have WN := Lib.hid wn; clear wa wn
        have e4 := e3.alloc (.cells #[.int .i64 at_, .int .i64 nn] 38)
        have y4 := y3.alloc (.cells #[.int .i64 at_, .int .i64 nn] 38)
        have v4 := Bx.new w3 38 [.int .i64 at_, .int .i64 nn]
        have b4 := b3.alloc (Nat.le_of_lt e3.lt) (.cells #[.int .i64 at_, .int .i64 nn] 38)
        have hs4 := hs3.alloc (.cells #[.int .i64 at_, .int .i64 nn] 38)
        have y3s := y3.lt
        have hz := met_ok HMO.out (by rw [HH.out]; decide)
        have hx := HX.out
        rw [hz, HH.out] at hx; subst hx
        clear hz HX
        go_wp2_with fail
        clear x0 x1 x2
        obtain ⟨P, hP⟩ : ∃ P, w3.heap.size = P := ⟨_, rfl⟩
        rw [hP] at v4 y3s ⊢
        generalize w3.alloc (.cells #[.int .i64 at_, .int .i64 nn] 38) = w4 at e4 y4 v4 b4 hs4 ⊢
        obtain ⟨Z, hZ⟩ : ∃ Z, w4.heap.size = Z := ⟨_, rfl⟩
        have hPZ : P < Z := by rw [← hZ]; exact v4.lt
        have HZ := Lib.hid hZ
        clear e3 y3 b3 hs3 hP
        go_loopw [15, 16] (fun s i wr => ∃ k N : Nat, k ≤ n ∧ N ≤ k ∧ i = .int .i64 (k : Int) ∧ Gots wr Z 38 s N ((l.take k).filter (stay span at_ nn)) ∧ Below Z w4 wr) (fun _ i _ => n - (intOf i).toNat)
        case atStart => exact ⟨0, 0, Nat.zero_le _, Nat.le_refl _, rfl, Gots.none _ _ _, Below.refl _ _⟩
        case round =>
          obtain ⟨k, N, hkn, hNk, rfl, hg, br⟩ := hrel
          have HG := Lib.hid hg; clear hg
          have brw : Below w4.heap.size w4 wr := by rw [HZ.out]; exact br
          have er := e4.kept brw; have yr := y4.kept brw; have vr := v4.kept brw; have hsr := hs4.keep brw
          have hsz : Z ≤ wr.heap.size := by have := brw.size; rw [HZ.out] at this; exact this
          by_cases hlt : k < n
          · obtain ⟨b, o, hA, hbl, hc⟩ := hsr.rd.at_ (by omega)
            cases hA
            obtain ⟨z1, z2⟩ := hc k hlt
            have hw1 := sp_wide hsr.rd.wide k
            have hp := HOK.out.pts k (by dsimp only; rw [HL.out]; exact hlt)
            have p0 := hp.a0; have p1 := hp.a1
            have hsn := left_snoc (l := l) (f := (stay span at_ nn)) (k := k) (by rw [HL.out]; exact hlt)
            obtain ⟨⟨p, m⟩, hpm⟩ : ∃ p, sp l k = p := ⟨_, rfl⟩
            dsimp only at p0 p1
            rw [hpm] at z1 z2 p0 p1 hw1 hsn
            simp only at z1 z2 p0 p1
            have HW := Lib.hid hw1
            have HSN := Lib.hid hsn
            clear hpm hc hp hw1 hsn
            have x0 := er.cell 0 rfl; have x1 := er.cell 1 rfl
            go_upto_region 18 with fail
            have s1 : IntKind.i64.wrap (at_ - p) = at_ - p := IntWalk.i64_in _ (by omega)
            by_cases ca : at_ - p ≤ span
            · have da : decide (at_ - p ≤ span) = true := decide_eq_true ca
              by_cases cb : m < nn
              · have db : decide (m < nn) = true := decide_eq_true cb
                have hst : stay span at_ nn (p, m) = true := by unfold stay cnt; rw [da, db]; rfl
                have HST := Lib.hid hst; clear hst
                go_quiet (fail)
                clear s1
                have brd := below_drewN br nq
                have hgd : Gots (wr.drewN nq) Z 38 u15 N ((l.take k).filter (stay span at_ nn)) := ⟨HG.out.row, HG.out.wide⟩
                have HGD := Lib.hid hgd; clear hgd
                go_wp2_with (at_builtin; go_loud (refine wpList_apps _ rfl (.tmp 107) (.tmp 113) 22 rfl Z 38 Try.underlying22 info_pt _ _ _ rfl ⟨HGD.out.row.alloc (.cells #[.int .i64 p, .int .i64 m] 38), HGD.out.wide⟩ rfl (fun h => by cases h) (sn_one (wr.drewN nq) HW.out.1 HW.out.2 38).rd (by omega) (by simp; omega) ?_; intro v' w' hg' hgrow' _; have br2 : Below Z w4 w' := (brd.alloc (by exact hsz) _).grown hgrow' (by simp; omega) (fun k hk => (HGD.out.row.lt k hk).1)))
                have hg2 : Gots w' Z 38 v' (N + 1) ((l.take (k + 1)).filter (stay span at_ nn)) := by rw [HSN.out, HST.out]; exact hg'
                have HG2 := Lib.hid hg2; clear hg2 hg'
                go_roundw
                case rel => exact ⟨k + 1, N + 1, by omega, by omega, by go_num, HG2.out, br2⟩
                case measure => simp [intOf]; omega
              · have db : decide (m < nn) = false := decide_eq_false cb
                have hst : stay span at_ nn (p, m) = false := by unfold stay cnt; rw [da, db]; rfl
                have hg2 : (l.take (k + 1)).filter (stay span at_ nn) = (l.take k).filter (stay span at_ nn) := by rw [HSN.out, hst]; simp
                have HG2 := Lib.hid hg2; clear hst hg2
                go_quiet (fail)
                clear s1
                go_wp2_with fail
                go_roundw
                case rel => exact ⟨k + 1, N, by omega, by omega, by go_num, by rw [HG2.out]; exact ⟨HG.out.row, HG.out.wide⟩, below_drewN br _⟩
                case measure => simp [intOf]; omega
            · have da : decide (at_ - p ≤ span) = false := decide_eq_false ca
              have hst : stay span at_ nn (p, m) = false := by unfold stay cnt; rw [da]; rfl
              have hg2 : (l.take (k + 1)).filter (stay span at_ nn) = (l.take k).filter (stay span at_ nn) := by rw [HSN.out, hst]; simp
              have HG2 := Lib.hid hg2; clear hst hg2
              go_quiet (fail)
              clear s1
              go_wp2_with fail
              go_roundw
              case rel => exact ⟨k + 1, N, by omega, by omega, by go_num, by rw [HG2.out]; exact ⟨HG.out.row, HG.out.wide⟩, below_drewN br _⟩
              case measure => simp [intOf]; omega
          · obtain rfl : k = n := by omega
            have hfl : (l.take k).filter (stay span at_ nn) = leftR ⟨span, l, high⟩ at_ nn := by rw [← HL.out, List.take_length]; rfl
            have hg3 : Gots wr Z 38 u15 N (leftR ⟨span, l, high⟩ at_ nn) := by rw [← hfl]; exact HG.out
            have HG3 := Lib.hid hg3
            have hNl := hg3.len
            obtain ⟨R, d, rfl, hsn⟩ := hg3.sn
            have hbz := b4.trans (br.mono (by omega : B ≤ Z))
            clear hfl hg3
            have q0 := vr.cell 0 rfl; have q1 := vr.cell 1 rfl
            have x0 := er.cell 0 rfl
            by_cases cN : N < 100
            · have dN : decide (N < 100) = true := decide_eq_true cN
              have how : ownR (leftR ⟨span, l, high⟩ at_ nn) at_ nn = leftR ⟨span, l, high⟩ at_ nn ++ [(at_, nn)] := by unfold ownR; rw [hNl, if_pos cN]
              have HOW := Lib.hid how; clear how hNl
              have HSN := Lib.hid hsn; clear hsn
              go_wp2_with (first
                | (at_builtin; go_loud (refine wpList_apps _ rfl (.tmp 118) (.tmp 120) 22 rfl Z 38 Try.underlying22 info_pt _ _ _ rfl ⟨HG3.out.row.alloc (.cells #[.int .i64 at_, .int .i64 nn] 38), HG3.out.wide⟩ rfl (fun h => by cases h) (sn_one wr WA.out WN.out 38).rd (by omega) (by simp; omega) ?_; intro v' w' hg' hgrow' _; have br2 : Below Z w4 w' := (br.alloc hsz _).grown hgrow' (by simp; omega) (fun k hk => (HG3.out.row.lt k hk).1); have br3 : Below w4.heap.size w4 w' := (by rw [HZ.out]; exact br2); have ef := e4.kept br3; have yf := y4.kept br3; have xf := ef.cell 0 rfl; obtain ⟨R2, d2, rfl, hsn2⟩ := hg'.sn; have HS2 := Lib.hid hsn2; clear hsn2 hg'))
                | (refine le_store rfl (.tmp 6) (.tmp 126) rfl rfl [.int .i64 span, .slice R2 (N + 1) d2, .int .i64 (0)] rfl yf rfl rfl rfl ?_))
              refine le_end (by rfl) (by rfl) (by rfl) (by rfl) (le_put yf [.int .i64 span, .slice R2 (N + 1) d2, .int .i64 (0)]) rfl rfl ?_
              refine ⟨R2, N + 1, d2, rfl, ?_, ?_⟩
              · try dsimp only
                rw [HOW.out]
                exact (HS2.out.grown (le_grown w' (B + 1) _) (by omega)).mono (by omega)
              · exact (b4.trans (br2.mono (by omega : B ≤ Z))).grown (le_grown w' (B + 1) _) (Nat.le_of_lt ef.lt) (fun k hk => by cases hk; omega)
            · have dN : decide (N < 100) = false := decide_eq_false cN
              have how : ownR (leftR ⟨span, l, high⟩ at_ nn) at_ nn = leftR ⟨span, l, high⟩ at_ nn := by unfold ownR; rw [hNl, if_neg cN]
              have HOW := Lib.hid how; clear how hNl
              have HSN := Lib.hid hsn; clear hsn
              go_wp2_with (refine le_store rfl (.tmp 6) (.tmp 126) rfl rfl [.int .i64 span, .slice R N d, .int .i64 (0)] rfl yr rfl rfl rfl ?_)
              refine le_end (by rfl) (by rfl) (by rfl) (by rfl) (le_put yr [.int .i64 span, .slice R N d, .int .i64 (0)]) rfl rfl ?_
              refine ⟨R, N, d, rfl, ?_, ?_⟩
              · try dsimp only
                rw [HOW.out]
                exact (HSN.out.grown (le_grown wr (B + 1) _) (by omega)).mono (by omega)
              · exact hbz.grown (le_grown wr (B + 1) _) (Nat.le_of_lt er.lt) (fun k hk => by cases hk; omega)
end Go.Proofs.Ytihheanjlabioaa
