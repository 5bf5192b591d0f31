/- The walk of the law WirePuts. -/
import Derived.Test.YtfglagkpknpgdaaProg
import Derived.Test.YtfglagkpknpgdaaWiAwake
import Derived.Test.YtfglagkpknpgdaaSgIn
import Derived.Test.YtfglagkpknpgdaaSgRef2
import Derived.Test.YtfglagkpknpgdaaCkLaw
import Derived.Test.YtfglagkpknpgdaaTail
import Derived.OrdersHeld
import Derived.WalkKit
import Derived.WalkSpells
import Derived.WalkSmall
import Derived.Lib.Hide
import Derived.Below
import Derived.Outline
import Derived.Deep.QuietTactic
import Derived.BigQuiet
namespace Go.Proofs.Ytfglagkpknpgdaa.wirePuts
open Go.RowKit
set_option linter.unusedVariables false
set_option linter.unusedSimpArgs false

set_option maxRecDepth 100000 in
set_option maxHeartbeats 4000000 in
theorem walk (kind sub : Int) (fin ecn : Bool) (seq dsn got dgot win ace ce sent echo : Int) (G : Option Addr) (m d : Nat) (A : Option Addr) (n c : Nat) (pl : List (Int × Int)) (bl : List Int) (w : World) (h : SegIn w ⟨kind, sub, fin, ecn, seq, dsn, got, dgot, win, ace, ce, sent, echo, pl, bl⟩ G m d A n c) :
    Calls Try.prog 3 #[.agg #[.int .i64 kind, .int .i64 sub, .bool fin, .bool ecn, .int .u32 seq, .int .u32 dsn, .int .u32 got, .int .u32 dgot, .int .i64 win, .int .i64 ace, .int .u32 ce, .int .u32 sent, .int .u32 echo, .slice G m d, .slice A n c]] w fun e w' => e = .returned (.bool true) ∧ Below w.heap.size w w' := by
  have hlm := h.sr.rd.len; have hln := h.sl.rd.len
  dsimp only at hlm hln
  have hmx : m ≤ 9223372036854775807 := by have := h.sr.le; have := h.sr.max; unfold maxLen at this; omega
  have hnx : n ≤ 9223372036854775807 := by have := h.sl.le; have := h.sl.big; unfold maxLen at this; omega
  obtain ⟨B, hB⟩ : ∃ B, w.heap.size = B := ⟨_, rfl⟩
  rw [hB]
  obtain ⟨w0, hw0⟩ : ∃ w0, w.alloc (.cells #[.int .i64 kind, .int .i64 sub, .bool fin, .bool ecn, .int .u32 seq, .int .u32 dsn, .int .u32 got, .int .u32 dgot, .int .i64 win, .int .i64 ace, .int .u32 ce, .int .u32 sent, .int .u32 echo, .slice G m d, .slice A n c] 26) = w0 := ⟨_, rfl⟩
  have e0 : Bx w0 B 26 [.int .i64 kind, .int .i64 sub, .bool fin, .bool ecn, .int .u32 seq, .int .u32 dsn, .int .u32 got, .int .u32 dgot, .int .i64 win, .int .i64 ace, .int .u32 ce, .int .u32 sent, .int .u32 echo, .slice G m d, .slice A n c] := by rw [← hw0, ← hB]; exact Bx.new w 26 [.int .i64 kind, .int .i64 sub, .bool fin, .bool ecn, .int .u32 seq, .int .u32 dsn, .int .u32 got, .int .u32 dgot, .int .i64 win, .int .i64 ace, .int .u32 ce, .int .u32 sent, .int .u32 echo, .slice G m d, .slice A n c]
  have b0 : Below B w w0 := by rw [← hw0]; exact (Below.refl _ _).alloc (by omega) _
  have HH := Lib.hid h; have HLM := Lib.hid hlm; have HLN := Lib.hid hln; clear hlm hln
  go_enter Try.func3, Try.ntmps3
  go_wp2_with fail
  clear hw0
  refine (awake_any _).mono ?_
  rintro e w1 ⟨rfl, hb1⟩
  have e1 := e0.kept hb1; have b1 := b0.trans (hb1.mono (Nat.le_of_lt e0.lt))
  go_wp2_with (refine Bx.stepLoad rfl (.tmp 1) rfl rfl e1 rfl ?_)
  refine (light_any kind sub fin ecn seq dsn got dgot win ace ce sent echo G m d A n c _).mono ?_
  rintro e w2 ⟨rfl, hb2⟩
  have e2 := e1.kept hb2; have b2 := b1.trans (hb2.mono (Nat.le_of_lt e1.lt))
  cases hli : lightB n m with
  | false =>
    go_wp2_with fail
    go_ret
    exact ⟨rfl, b2⟩
  | true =>
    clear hli
    obtain ⟨x, hx⟩ : ∃ x, putS ⟨kind, sub, fin, ecn, seq, dsn, got, dgot, win, ace, ce, sent, echo, pl, bl⟩ = x := ⟨_, rfl⟩
    obtain ⟨L, er⟩ := x
    have HX := Lib.hid hx; clear hx
    go_wp2_with (refine Bx.stepLoad rfl (.tmp 1) rfl rfl e2 rfl ?_)
    refine (lput_any kind sub fin ecn seq dsn got dgot win ace ce sent echo G m d A n c pl bl _ (HH.out.sr.keep (by rw [hB]; exact b2)) (HH.out.sl.keep (by rw [hB]; exact b2)) hmx hnx HH.out.w.seq HH.out.w.dsn HH.out.w.got HH.out.w.dgot HH.out.w.ce HH.out.w.sent HH.out.w.echo).mono ?_
    rintro e w3 h3
    rw [HX.out] at h3
    obtain ⟨R1, m1, d1, rfl, s3, hb3⟩ := h3
    dsimp only at s3 ⊢
    have e3 := e2.kept hb3; have b3 := b2.trans (hb3.mono (Nat.le_of_lt e2.lt))
    go_wp2_with (refine Bx.stepLoad rfl (.tmp 1) rfl rfl e3 rfl ?_)
    refine (rsput_any kind sub fin ecn seq dsn got dgot win ace ce sent echo G m d A n c pl bl _ (HH.out.sr.keep (by rw [hB]; exact b3)) (HH.out.sl.keep (by rw [hB]; exact b3)) hmx hnx HH.out.w.seq HH.out.w.dsn HH.out.w.got HH.out.w.dgot HH.out.w.ce HH.out.w.sent HH.out.w.echo).mono ?_
    rintro e w4 h4
    rw [HX.out] at h4
    obtain ⟨R2, m2, d2, rfl, s4, hb4⟩ := h4
    dsimp only at s4 ⊢
    have e4 := e3.kept hb4; have b4 := b3.trans (hb4.mono (Nat.le_of_lt e3.lt))
    have s3' := s3.keep hb4
    obtain rfl : m1 = m2 := by rw [← s3.rd.len, ← s4.rd.len]
    have hm1 : m1 ≤ 9223372036854775807 := by have := s3.le; have := s3.big; unfold maxLen at this; omega
    go_wp2_with fail
    refine (same_yes R1 R2 m1 d1 d2 L _ s3'.rd s4.rd hm1).mono ?_
    rintro e w5 ⟨rfl, hb5⟩
    have e5 := e4.kept hb5; have b5 := b4.trans (hb5.mono (Nat.le_of_lt e4.lt))
    clear e0 e1 e2 e3 e4 s3 s4 s3' hb1 hb2 hb3 hb4 hb5
    go_upto_region 8 with fail
    refine wp_region_tail 13 14 (fun (W : World) => Bx W B 26 [.int .i64 kind, .int .i64 sub, .bool fin, .bool ecn, .int .u32 seq, .int .u32 dsn, .int .u32 got, .int .u32 dgot, .int .i64 win, .int .i64 ace, .int .u32 ce, .int .u32 sent, .int .u32 echo, .slice G m d, .slice A n c]) (by kernel_rfl) (by rfl) (by decide) ?_
    have HS : ((fun (W : World) => Bx W B 26 [.int .i64 kind, .int .i64 sub, .bool fin, .bool ecn, .int .u32 seq, .int .u32 dsn, .int .u32 got, .int .u32 dgot, .int .i64 win, .int .i64 ace, .int .u32 ce, .int .u32 sent, .int .u32 echo, .slice G m d, .slice A n c])) _ := e5.drew
    refine wpAnyT_take (i := 0) (v := ?vv1) rfl (by kernel_rfl) (fun _ _ _ h => h) (Or.inl ⟨by rfl, fun w hSw => ?yy1⟩) HS ?rr1
    case yy1 =>
      (try dsimp only at hSw); go_simp
      try with_reducible rfl
    try simp only [Act.put, List.setIfInBounds_toArray, List.set_cons_zero, List.set_cons_succ]
    refine wpAnyT_take (i := 1) (v := ?vv2) rfl (by kernel_rfl) (fun _ _ _ h => h) (Or.inl ⟨by rfl, fun w hSw => ?yy2⟩) HS ?rr2
    case yy2 =>
      (try dsimp only at hSw); go_simp
      try with_reducible rfl
    try simp only [Act.put, List.setIfInBounds_toArray, List.set_cons_zero, List.set_cons_succ]
    refine wpAnyT_take (i := 2) (v := ?vv3) rfl (by kernel_rfl) (fun _ _ _ h => h) (Or.inl ⟨by rfl, fun w hSw => ?yy3⟩) HS ?rr3
    case yy3 =>
      (try dsimp only at hSw); go_simp
      try with_reducible rfl
    try simp only [Act.put, List.setIfInBounds_toArray, List.set_cons_zero, List.set_cons_succ]
    refine wpAnyT_take (i := 3) (v := ?vv4) rfl (by kernel_rfl) (fun _ _ _ h => h) (Or.inl ⟨by rfl, fun w hSw => ?yy4⟩) HS ?rr4
    case yy4 =>
      (try dsimp only at hSw); go_simp
      try with_reducible rfl
    try simp only [Act.put, List.setIfInBounds_toArray, List.set_cons_zero, List.set_cons_succ]
    refine wpAnyT_take (i := 4) (v := .bool true) rfl (by kernel_rfl) (fun _ _ _ h => h) (Or.inl ⟨by rfl, fun w hSw => ?_⟩) HS ?_
    · (try dsimp only at hSw); go_simp
    try simp only [Act.put, List.setIfInBounds_toArray, List.set_cons_zero, List.set_cons_succ]
    refine wpAnyT_take (i := 5) (v := .bool true) rfl (by kernel_rfl) (fun _ _ _ h => h) (Or.inl ⟨by rfl, fun w hSw => ?_⟩) HS ?_
    · (try dsimp only at hSw); go_simp
    try simp only [Act.put, List.setIfInBounds_toArray, List.set_cons_zero, List.set_cons_succ]
    refine wpAnyT_take (i := 6) (v := .bool true) rfl (by kernel_rfl) (fun _ _ _ h => h) (Or.inl ⟨by rfl, fun w hSw => ?_⟩) HS ?_
    · (try dsimp only at hSw); go_simp
    try simp only [Act.put, List.setIfInBounds_toArray, List.set_cons_zero, List.set_cons_succ]
    refine wpAnyT_take (i := 7) (v := .agg #[.int .i64 kind, .int .i64 sub, .bool fin, .bool ecn, .int .u32 seq, .int .u32 dsn, .int .u32 got, .int .u32 dgot, .int .i64 win, .int .i64 ace, .int .u32 ce, .int .u32 sent, .int .u32 echo, .slice G m d, .slice A n c]) rfl (by kernel_rfl) (fun _ _ _ h => h) (Bx.yields (by rfl) (.tmp 1) rfl rfl [.int .i64 kind, .int .i64 sub, .bool fin, .bool ecn, .int .u32 seq, .int .u32 dsn, .int .u32 got, .int .u32 dgot, .int .i64 win, .int .i64 ace, .int .u32 ce, .int .u32 sent, .int .u32 echo, .slice G m d, .slice A n c] rfl 26 (fun W hW => hW)) HS ?_
    try simp only [Act.put, List.setIfInBounds_toArray, List.set_cons_zero, List.set_cons_succ]
    refine wpAnyT_take (i := 9) (v := .agg #[.int .i64 kind, .int .i64 sub, .bool fin, .bool ecn, .int .u32 seq, .int .u32 dsn, .int .u32 got, .int .u32 dgot, .int .i64 win, .int .i64 ace, .int .u32 ce, .int .u32 sent, .int .u32 echo, .slice G m d, .slice A n c]) rfl (by kernel_rfl) (fun _ _ _ h => h) (Bx.yields (by rfl) (.tmp 1) rfl rfl [.int .i64 kind, .int .i64 sub, .bool fin, .bool ecn, .int .u32 seq, .int .u32 dsn, .int .u32 got, .int .u32 dgot, .int .i64 win, .int .i64 ace, .int .u32 ce, .int .u32 sent, .int .u32 echo, .slice G m d, .slice A n c] rfl 26 (fun W hW => hW)) HS ?_
    try simp only [Act.put, List.setIfInBounds_toArray, List.set_cons_zero, List.set_cons_succ]
    refine wpAnyT_one (k := 8) rfl (by kernel_rfl) (by decide) (fun K hK => ?_)
    go_simp
    refine (lmay_any kind sub fin ecn seq dsn got dgot win ace ce sent echo G m d A n c pl bl _ HLM.out HLN.out hmx hnx).mono ?_; rintro e w6 ⟨rfl, hb6⟩; have e6 := e5.drew.kept hb6; have b6 := b5.drew.trans (hb6.mono (Nat.le_of_lt e5.lt))
    have HS : ((fun (W : World) => Bx W B 26 [.int .i64 kind, .int .i64 sub, .bool fin, .bool ecn, .int .u32 seq, .int .u32 dsn, .int .u32 got, .int .u32 dgot, .int .i64 win, .int .i64 ace, .int .u32 ce, .int .u32 sent, .int .u32 echo, .slice G m d, .slice A n c])) _ := e6
    refine hK _ _ HS ?_
    clear hK K
    try simp only [Act.put, List.setIfInBounds_toArray, List.set_cons_zero, List.set_cons_succ]
    refine wpAnyT_one (k := 10) rfl (by kernel_rfl) (by decide) (fun K hK => ?_)
    go_simp
    refine (rsmay_any kind sub fin ecn seq dsn got dgot win ace ce sent echo G m d A n c pl bl _ HLM.out HLN.out hmx hnx).mono ?_; rintro e w7 ⟨rfl, hb7⟩; have e7 := e6.kept hb7; have b7 := b6.trans (hb7.mono (Nat.le_of_lt e6.lt))
    have HS : ((fun (W : World) => Bx W B 26 [.int .i64 kind, .int .i64 sub, .bool fin, .bool ecn, .int .u32 seq, .int .u32 dsn, .int .u32 got, .int .u32 dgot, .int .i64 win, .int .i64 ace, .int .u32 ce, .int .u32 sent, .int .u32 echo, .slice G m d, .slice A n c])) _ := e7
    refine hK _ _ HS ?_
    clear hK K
    try simp only [Act.put, List.setIfInBounds_toArray, List.set_cons_zero, List.set_cons_succ]
    refine wpAnyT_take (i := 11) (v := .bool true) rfl (by kernel_rfl) (fun _ _ _ h => h) (Or.inl ⟨by rfl, fun w hSw => ?_⟩) HS ?_
    · (try dsimp only at hSw); go_simp
    try simp only [Act.put, List.setIfInBounds_toArray, List.set_cons_zero, List.set_cons_succ]
    refine wpAnyT_take (i := 12) (v := .bool true) rfl (by kernel_rfl) (fun _ _ _ h => h) (Or.inl ⟨by rfl, fun w hSw => ?_⟩) HS ?_
    · (try dsimp only at hSw); go_simp
    try simp only [Act.put, List.setIfInBounds_toArray, List.set_cons_zero, List.set_cons_succ]
    refine ⟨by kernel_rfl, ?_⟩
    simp only [List.drop_succ_cons, List.drop_zero]

    go_wp2_with fail
    go_ret
    exact ⟨rfl, b7⟩
end Go.Proofs.Ytfglagkpknpgdaa.wirePuts
