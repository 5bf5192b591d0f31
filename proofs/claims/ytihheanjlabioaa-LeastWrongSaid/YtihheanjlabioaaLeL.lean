/- Package least as it landed: Met as a contract of the call. -/
import Derived.Test.YtihheanjlabioaaLeL4
import Derived.Test.YtihheanjlabioaaLeL5
import Derived.Test.YtihheanjlabioaaLeRef4
namespace Go.Proofs.Ytihheanjlabioaa
open Go.RowKit
set_option linter.unusedVariables false
set_option linter.unusedSimpArgs false

theorem grown_setC (W : World) (b o : Nat) (v : Value) : W.grownBy (W.setCell ⟨b, o, none⟩ v) (some b) :=
  ⟨rfl, rfl, rfl, (KeepsWalks.setCell W _ v).size, fun k _ hk => Below.heap_setCell _ _ _ k (fun e => hk (by rw [e]))⟩

set_option maxRecDepth 100000 in
set_option maxHeartbeats 8000000 in
theorem lemet_any (span : Int) (A : Option Addr) (n c : Nat) (high : Int) (l : List Sp) (at_ nn : Int) (w : World) (hs : Ss w A n c l) :
    Calls Try.prog 10 #[.agg #[.int .i64 span, .slice A n c, .int .i64 high], .int .i64 at_, .int .i64 nn] w fun e w' => TellM w w' e (metR ⟨span, l, high⟩ at_ nn) := by
  unfold TellM
  obtain ⟨B, hB⟩ : ∃ B, w.heap.size = B := ⟨_, rfl⟩
  rw [hB]
  have hl := hs.rd.len
  have e0 := Bx.new w 24 [.int .i64 span, .slice A n c, .int .i64 high]
  have e1 := e0.alloc (.cells #[.int .i64 0, .slice none 0 0, .int .i64 0] 24)
  have y1 := Bx.new (w.alloc (.cells #[.int .i64 span, .slice A n c, .int .i64 high] 24)) 24 [.int .i64 0, .slice none 0 0, .int .i64 0]
  rw [World.size_alloc] at y1
  rw [hB] at e1 y1
  have b1 : Below B w ((w.alloc (.cells #[.int .i64 span, .slice A n c, .int .i64 high] 24)).alloc (.cells #[.int .i64 0, .slice none 0 0, .int .i64 0] 24)) := by rw [← hB]; exact ((Below.refl _ _).alloc (Nat.le_refl _) _).alloc (by simp) _
  have hs1 : Ss ((w.alloc (.cells #[.int .i64 span, .slice A n c, .int .i64 high] 24)).alloc (.cells #[.int .i64 0, .slice none 0 0, .int .i64 0] 24)) A n c l := (hs.alloc _).alloc _
  obtain ⟨x, hx⟩ : ∃ x, metR ⟨span, l, high⟩ at_ nn = x := ⟨_, rfl⟩
  rw [hx]
  have HX := Lib.hid hx
  have HL := Lib.hid hl
  clear e0 hx
  have HSO := Lib.hid hs; have HBs := Lib.hid hB
  go_enter Try.func10, Try.ntmps10
  go_upto_region 1 with fail
  generalize (w.alloc (.cells #[.int .i64 span, .slice A n c, .int .i64 high] 24)).alloc (.cells #[.int .i64 0, .slice none 0 0, .int .i64 0] 24) = w1 at e1 y1 b1 hs1 ⊢
  go_wp2_with (refine le_load rfl (.tmp 3) rfl rfl e1 rfl ?_)
  refine (lemay_any span A n c high l _ hs1).mono ?_
  rintro e w2 ⟨rfl, hb2⟩
  have e2 := e1.kept hb2; have y2 := y1.kept hb2; have b2 := b1.trans (hb2.mono (Nat.le_of_lt e1.lt)); have hs2 := hs1.keep hb2
  have hBs : B ≤ w2.heap.size := Nat.le_of_lt e2.lt
  clear hs hs1 e1 y1 b1 hb2 hl
  have x0 := e2.cell 0 rfl; have x1 := e2.cell 1 rfl; have x2 := e2.cell 2 rfl
  cases hk : lmay ⟨span, l, high⟩ with
  | false =>
    have hz := met_no (v := ⟨span, l, high⟩) (a := at_) (n := nn) (fun h => by have := h.1; rw [hk] at this; exact absurd this (by simp))
    have hx := HX.out
    rw [hz] at hx; subst hx
    clear hz HX hk
    go_wp2_with (refine le_store rfl (.tmp 6) (.tmp 28) rfl rfl [.int .i64 0, .slice none 0 0, .int .i64 0] rfl y2 rfl rfl rfl ?_)
    refine le_end (by rfl) (by rfl) (by rfl) (by rfl) (le_put y2 [.int .i64 0, .slice none 0 0, .int .i64 0]) rfl rfl ?_
    exact ⟨none, 0, 0, rfl, Sn.none _ _, b2.grown (le_grown _ (B + 1) #[.int .i64 0, .slice none 0 0, .int .i64 0]) hBs (fun k hk => by cases hk; omega)⟩
  | true =>
  cases ta : tmB at_ with
  | false =>
    have hz := met_no (v := ⟨span, l, high⟩) (a := at_) (n := nn) (fun h => by have := (tmB_iff at_).2 ⟨h.2.1, h.2.2.1⟩; rw [ta] at this; cases this)
    have hx := HX.out
    rw [hz] at hx; subst hx
    clear hz HX hk
    go_wp2_with (first | (go_at_call 17; refine (rec_any _ _).mono ?_; rintro e wx ⟨rfl, rfl⟩) | (refine le_store rfl (.tmp 6) (.tmp 28) rfl rfl [.int .i64 0, .slice none 0 0, .int .i64 0] rfl y2 rfl rfl rfl ?_))
    refine le_end (by rfl) (by rfl) (by rfl) (by rfl) (le_put y2 [.int .i64 0, .slice none 0 0, .int .i64 0]) rfl rfl ?_
    exact ⟨none, 0, 0, rfl, Sn.none _ _, b2.grown (le_grown _ (B + 1) #[.int .i64 0, .slice none 0 0, .int .i64 0]) hBs (fun k hk => by cases hk; omega)⟩
  | true =>
  cases tb : tmB nn with
  | false =>
    have hz := met_no (v := ⟨span, l, high⟩) (a := at_) (n := nn) (fun h => by have := (tmB_iff nn).2 ⟨h.2.2.2.1, h.2.2.2.2.1⟩; rw [tb] at this; cases this)
    have hx := HX.out
    rw [hz] at hx; subst hx
    clear hz HX hk
    go_wp2_with (first | (go_at_call 17; refine (rec_any _ _).mono ?_; rintro e wx ⟨rfl, rfl⟩) | (refine le_store rfl (.tmp 6) (.tmp 28) rfl rfl [.int .i64 0, .slice none 0 0, .int .i64 0] rfl y2 rfl rfl rfl ?_))
    refine le_end (by rfl) (by rfl) (by rfl) (by rfl) (le_put y2 [.int .i64 0, .slice none 0 0, .int .i64 0]) rfl rfl ?_
    exact ⟨none, 0, 0, rfl, Sn.none _ _, b2.grown (le_grown _ (B + 1) #[.int .i64 0, .slice none 0 0, .int .i64 0]) hBs (fun k hk => by cases hk; omega)⟩
  | true =>
  have hok := (lmay_iff _).1 hk
  obtain ⟨c0, c1⟩ := (tmB_iff at_).1 ta
  obtain ⟨c2, c3⟩ := (tmB_iff nn).1 tb
  have hlast : at_ < lastR l ↔ ¬ (0 < l.length → (sp l (l.length - 1)).1 ≤ at_) := by
    unfold lastR
    split
    · constructor
      · intro h; omega
      · intro h; exact absurd (fun h0 => by omega) h
    · constructor
      · intro h k; have := k (by omega); omega
      · intro h
        rcases Int.lt_or_le at_ (sp l (l.length - 1)).1 with h2 | h2
        · exact h2
        · exact absurd (fun _ => h2) h
  have hbg := begin_any span A n c high l w2 hs2
  obtain ⟨la, hla⟩ : ∃ la, lastR l = la := ⟨_, rfl⟩
  rw [hla] at hlast hbg
  have HLA := Lib.hid hlast
  have HOK := Lib.hid hok; have HK := Lib.hid hk
  clear hok hk hlast hla
  by_cases c5 : at_ < la
  · have d5 : decide (at_ < la) = true := decide_eq_true c5
    have hz := met_no (v := ⟨span, l, high⟩) (a := at_) (n := nn) (fun h => (HLA.out.1 c5) h.2.2.2.2.2)
    have hx := HX.out
    rw [hz] at hx; subst hx
    clear hz HX c0 c1 c2 c3 c5
    go_wp2_with (first | (go_at_call 17; refine (rec_any _ _).mono ?_; rintro e wx ⟨rfl, rfl⟩) | (go_at_call 18; refine hbg.mono ?_; rintro e w3 ⟨rfl, hb3⟩; have y3 := y2.kept hb3; have b3 := b2.trans (hb3.mono hBs)) | (refine le_store rfl (.tmp 6) (.tmp 28) rfl rfl [.int .i64 0, .slice none 0 0, .int .i64 0] rfl y3 rfl rfl rfl ?_))
    refine le_end (by rfl) (by rfl) (by rfl) (by rfl) (le_put y3 [.int .i64 0, .slice none 0 0, .int .i64 0]) rfl rfl ?_
    exact ⟨none, 0, 0, rfl, Sn.none _ _, b3.grown (le_grown _ (B + 1) #[.int .i64 0, .slice none 0 0, .int .i64 0]) (by have := y3.lt; omega) (fun k hk => by cases hk; omega)⟩
  have d5 : decide (at_ < la) = false := decide_eq_false c5
  have hmok : MetOk ⟨span, l, high⟩ at_ nn := ⟨HK.out, c0, c1, c2, c3, by
    by_cases h : (0 < l.length → (sp l (l.length - 1)).1 ≤ at_)
    · exact h
    · exact absurd (HLA.out.2 h) c5⟩
  have HMO := Lib.hid hmok; clear hmok
  have HC0 := Lib.hid c0; have HC1 := Lib.hid c1; have HC2 := Lib.hid c2; have HC3 := Lib.hid c3
  clear c0 c1 c2 c3 c5
  go_upto_region 3 with (first | (go_at_call 17; refine (rec_any _ _).mono ?_; rintro e wx ⟨rfl, rfl⟩) | (go_at_call 18; refine hbg.mono ?_; rintro e w3 ⟨rfl, hb3⟩; have y3 := y2.kept hb3; have e3 := e2.kept hb3; have hs3 := hs2.keep hb3; have b3 := b2.trans (hb3.mono hBs)))
  clear x0 x1 x2 hbg
  obtain ⟨hh, hhe⟩ : ∃ hh, highR ⟨span, l, high⟩ at_ nn = hh := ⟨_, rfl⟩
  have hhg := highs_any span A n c high l at_ nn w3 hs3 HOK.out
  have hhb := high_bd HOK.out at_ nn
  rw [hhe] at hhg hhb
  have HHE := Lib.hid hhe; clear hhe
  obtain ⟨hh0, hh1⟩ := hhb
  go_upto_region 4 with (first
    | (refine le_load rfl (.tmp 3) rfl rfl e3 rfl ?_)
    | (go_at_call 19; refine hhg.mono ?_; rintro e w4 ⟨rfl, hb4⟩; have y4 := y3.kept hb4; have e4 := e3.kept hb4; have hs4 := hs3.keep hb4; have b4 := b3.trans (hb4.mono (Nat.le_of_lt e3.lt)); have x2 := e4.cell 2 rfl; have f2 := e4.free 2))
  clear x2 f2 hhg
  have hs5 : Ss (w4.setCell ⟨B, 2, none⟩ (.int .i64 hh)) A n c l := HSO.out.keep (by rw [HBs.out]; exact b4.setCell (p := ⟨B, 2, none⟩) (Nat.le_refl _) _)
  have e5 : Bx (w4.setCell ⟨B, 2, none⟩ (.int .i64 hh)) B 24 [.int .i64 span, .slice A n c, .int .i64 hh] := e4.set 2 (.int .i64 hh)
  have y5 := y4.far (p := ⟨B, 2, none⟩) (by simp) (.int .i64 hh)
  have b5 := b4.setCell (p := ⟨B, 2, none⟩) (Nat.le_refl _) (.int .i64 hh)
  generalize w4.setCell ⟨B, 2, none⟩ (.int .i64 hh) = w5 at e5 y5 b5 hs5 ⊢
  clear e2 y2 b2 hs2 e3 y3 b3 hs3 e4 y4 b4 hs4 hb3 hb4
  have x0 := e5.cell 0 rfl; have x1 := e5.cell 1 rfl; have x2 := e5.cell 2 rfl
  by_cases h8 : hh = 8
  · have hz := met_turn HMO.out (by rw [HHE.out]; exact h8)
    have hx := HX.out
    rw [hz] at hx; subst hx
    clear hz HX
    subst h8
    have hwa : W64 at_ := by have := HC0.out; have := HC1.out; unfold W64; omega
    have hwn : W64 nn := by have := HC2.out; have := HC3.out; unfold W64; omega
    have hsn := sn_one w5 hwa hwn 38
    have y6 := y5.alloc (.cells #[.int .i64 at_, .int .i64 nn] 38)
    have b6 := b5.alloc (Nat.le_of_lt e5.lt) (.cells #[.int .i64 at_, .int .i64 nn] 38)
    have hBs5 : B + 1 < w5.heap.size := y5.lt
    clear hwa hwn
    go_wp2_with (refine le_store rfl (.tmp 6) (.tmp 43) rfl rfl [.int .i64 span, .slice (some ⟨w5.heap.size, 0, none⟩) 1 1, .int .i64 0] rfl y6 rfl rfl rfl ?_)
    refine le_end (by rfl) (by rfl) (by rfl) (by rfl) (le_put y6 [.int .i64 span, .slice (some ⟨w5.heap.size, 0, none⟩) 1 1, .int .i64 0]) rfl rfl ?_
    refine ⟨_, 1, 1, rfl, ?_, b6.grown (le_grown _ (B + 1) _) (Nat.le_of_lt (by have := y6.lt; omega)) (fun k hk => by cases hk; omega)⟩
    exact ((⟨hsn, fun b o s e => by cases e; exact Nat.le_refl _⟩ : Sn _ w5.heap.size (some ⟨w5.heap.size, 0, none⟩) 1 1 [(at_, nn)]).grown (le_grown _ (B + 1) _) hBs5).mono (by omega)
  · have d8 : (hh == 8) = false := by simpa using h8
    have hz := met_ok HMO.out (by rw [HHE.out]; exact h8)
    have hx := HX.out
    rw [hz, HHE.out] at hx; subst hx
    clear hz HX
    have hok5 : Lok ⟨span, l, hh⟩ := ⟨HOK.out.s0, HOK.out.s1, HOK.out.len, hh0, by dsimp only; omega, HOK.out.pts⟩
    have hj := joined_any span A n c hh l at_ nn w5 hs5 hok5 HC0.out HC1.out HC2.out HC3.out
    have hlf : leftR ⟨span, l, hh⟩ at_ nn = leftR ⟨span, l, high⟩ at_ nn := rfl
    rw [hlf] at hj
    have HJ := Lib.hid hj
    clear hok5 hj hlf h8 hh0 hh1
    go_upto_region 7 with (first
      | (refine le_load rfl (.tmp 3) rfl rfl e5 rfl ?_)
      | (go_at_call 20; refine HJ.out.mono ?_; rintro e w6 ⟨R, m, d, rfl, hsn6, hb6⟩; have y6 := y5.kept hb6; have e6 := e5.kept hb6; have b6 := b5.trans (hb6.mono (Nat.le_of_lt e5.lt)); have z1 := e6.cell 1 rfl; have f1 := e6.free 1))
    have e7 : Bx (w6.setCell ⟨B, 1, none⟩ (.slice R m d)) B 24 [.int .i64 span, .slice R m d, .int .i64 hh] := e6.set 1 (.slice R m d)
    have y7 := y6.far (p := ⟨B, 1, none⟩) (by simp) (.slice R m d)
    have b7 := b6.setCell (p := ⟨B, 1, none⟩) (Nat.le_refl _) (.slice R m d)
    have hsn7 := hsn6.grown (grown_setC w6 B 1 (.slice R m d)) e5.lt
    have hBs5 : B + 1 < w5.heap.size := y5.lt
    have HS7 := Lib.hid hsn7
    clear x0 x1 x2 e5 y5 b5 hs5 hsn6 hsn7 HJ z1 f1
    generalize w6.setCell ⟨B, 1, none⟩ (.slice R m d) = w7 at e7 y7 b7 HS7 ⊢
    clear e6 y6 b6
    go_wp2_with (first
      | (refine le_load rfl (.tmp 3) rfl rfl e7 rfl ?_)
      | (refine le_store rfl (.tmp 6) (.tmp 49) rfl rfl [.int .i64 span, .slice R m d, .int .i64 hh] rfl y7 rfl rfl rfl ?_))
    refine le_end (by rfl) (by rfl) (by rfl) (by rfl) (le_put y7 [.int .i64 span, .slice R m d, .int .i64 hh]) rfl rfl ?_
    exact ⟨R, m, d, rfl, (HS7.out.grown (le_grown w7 (B + 1) _) hBs5).mono (by omega), b7.grown (le_grown w7 (B + 1) _) (Nat.le_of_lt e7.lt) (fun k hk => by cases hk; omega)⟩
end Go.Proofs.Ytihheanjlabioaa
