/- The walk of the law WireLong. -/
import Derived.Test.YtfglagkpknpgdaaProg
import Derived.Test.YtfglagkpknpgdaaWiAwake
import Derived.Test.YtfglagkpknpgdaaSgIn
import Derived.Test.YtfglagkpknpgdaaTail
import Derived.OrdersHeld
import Derived.WalkKit
import Derived.WalkSpells
import Derived.WalkSmall
import Derived.Lib.Hide
import Derived.Below
import Derived.Outline
import Derived.Deep.QuietTactic
import Derived.BigQuiet
namespace Go.Proofs.Ytfglagkpknpgdaa.wireLong
open Go.RowKit
set_option linter.unusedVariables false
set_option linter.unusedSimpArgs false

set_option maxRecDepth 100000 in
set_option maxHeartbeats 4000000 in
theorem walk (kind sub : Int) (fin ecn : Bool) (seq dsn got dgot win ace ce sent echo : Int) (G : Option Addr) (m d : Nat) (A : Option Addr) (n c : Nat) (pl : List (Int × Int)) (bl : List Int) (w : World) (h : SegIn w ⟨kind, sub, fin, ecn, seq, dsn, got, dgot, win, ace, ce, sent, echo, pl, bl⟩ G m d A n c) :
    Calls Try.prog 7 #[.agg #[.int .i64 kind, .int .i64 sub, .bool fin, .bool ecn, .int .u32 seq, .int .u32 dsn, .int .u32 got, .int .u32 dgot, .int .i64 win, .int .i64 ace, .int .u32 ce, .int .u32 sent, .int .u32 echo, .slice G m d, .slice A n c]] w fun e w' => e = .returned (.bool true) ∧ Below w.heap.size w w' := by
  have hlm := h.sr.rd.len; have hln := h.sl.rd.len
  dsimp only at hlm hln
  have hmx : m ≤ 9223372036854775807 := by have := h.sr.le; have := h.sr.max; unfold maxLen at this; omega
  have hnx : n ≤ 9223372036854775807 := by have := h.sl.le; have := h.sl.big; unfold maxLen at this; omega
  obtain ⟨B, hB⟩ : ∃ B, w.heap.size = B := ⟨_, rfl⟩
  rw [hB]
  obtain ⟨w0, hw0⟩ : ∃ w0, w.alloc (.cells #[.int .i64 kind, .int .i64 sub, .bool fin, .bool ecn, .int .u32 seq, .int .u32 dsn, .int .u32 got, .int .u32 dgot, .int .i64 win, .int .i64 ace, .int .u32 ce, .int .u32 sent, .int .u32 echo, .slice G m d, .slice A n c] 26) = w0 := ⟨_, rfl⟩
  have e0 : Bx w0 B 26 [.int .i64 kind, .int .i64 sub, .bool fin, .bool ecn, .int .u32 seq, .int .u32 dsn, .int .u32 got, .int .u32 dgot, .int .i64 win, .int .i64 ace, .int .u32 ce, .int .u32 sent, .int .u32 echo, .slice G m d, .slice A n c] := by rw [← hw0, ← hB]; exact Bx.new w 26 [.int .i64 kind, .int .i64 sub, .bool fin, .bool ecn, .int .u32 seq, .int .u32 dsn, .int .u32 got, .int .u32 dgot, .int .i64 win, .int .i64 ace, .int .u32 ce, .int .u32 sent, .int .u32 echo, .slice G m d, .slice A n c]
  have b0 : Below B w w0 := by rw [← hw0]; exact (Below.refl _ _).alloc (by omega) _
  have HH := Lib.hid h; have HLM := Lib.hid hlm; have HLN := Lib.hid hln; clear hlm hln
  go_enter Try.func7, Try.ntmps7
  go_wp2_with fail
  clear hw0
  refine (awake_any _).mono ?_
  rintro e w1 ⟨rfl, hb1⟩
  have e1 := e0.kept hb1; have b1 := b0.trans (hb1.mono (Nat.le_of_lt e0.lt))
  go_wp2_with (refine Bx.stepLoad rfl (.tmp 1) rfl rfl e1 rfl ?_)
  refine (light_any kind sub fin ecn seq dsn got dgot win ace ce sent echo G m d A n c _).mono ?_
  rintro e w2 ⟨rfl, hb2⟩
  have e2 := e1.kept hb2; have b2 := b1.trans (hb2.mono (Nat.le_of_lt e1.lt))
  go_wp2_with (refine Bx.stepLoad rfl (.tmp 1) rfl rfl e2 rfl ?_)
  refine (lput_any kind sub fin ecn seq dsn got dgot win ace ce sent echo G m d A n c pl bl _ (HH.out.sr.keep (by rw [hB]; exact b2)) (HH.out.sl.keep (by rw [hB]; exact b2)) hmx hnx HH.out.w.seq HH.out.w.dsn HH.out.w.got HH.out.w.dgot HH.out.w.ce HH.out.w.sent HH.out.w.echo).mono ?_
  rintro e w3 h3
  cases hli : lightB n m with
  | false =>
    obtain ⟨R, mB, dB, rfl, s3, hb3⟩ := h3
    have b3 := b2.trans (hb3.mono (Nat.le_of_lt e2.lt))
    go_wp2_with fail
    go_ret
    exact ⟨rfl, b3⟩
  | true =>
    cases hk : smay ⟨kind, sub, fin, ecn, seq, dsn, got, dgot, win, ace, ce, sent, echo, pl, bl⟩ with
    | false =>
      have hx : putS ⟨kind, sub, fin, ecn, seq, dsn, got, dgot, win, ace, ce, sent, echo, pl, bl⟩ = ([], 1) := by unfold putS; rw [if_neg (by rw [hk]; simp)]
      rw [hx] at h3
      obtain ⟨R, mB, dB, rfl, s3, hb3⟩ := h3
      have b3 := b2.trans (hb3.mono (Nat.le_of_lt e2.lt))
      go_wp2_with fail
      go_ret
      exact ⟨rfl, b3⟩
    | true =>
      have hv := (smay_iff _).1 hk
      have hx := put_ok hv
      rw [hx] at h3
      have hsl := seal_len ⟨kind, sub, fin, ecn, seq, dsn, got, dgot, win, ace, ce, sent, echo, pl, bl⟩
      have hsh := seal_head ⟨kind, sub, fin, ecn, seq, dsn, got, dgot, win, ace, ce, sent, echo, pl, bl⟩
      have h35 : byt (seal4 (encS ⟨kind, sub, fin, ecn, seq, dsn, got, dgot, win, ace, ce, sent, echo, pl, bl⟩)) 35 = (pl.length : Int) := rfl
      have htl : (seal4 (encS ⟨kind, sub, fin, ecn, seq, dsn, got, dgot, win, ace, ce, sent, echo, pl, bl⟩)).drop (36 + 8 * m) = bl := by
        unfold seal4 encS
        rw [← List.append_assoc, ← List.append_assoc, List.drop_append_of_le_length (by simp [four_len, head_len, sackB_len]; have := HLM.out; omega), List.drop_eq_nil_of_le (by simp [four_len, head_len, sackB_len]; have := HLM.out; omega)]
        rfl
      have k0 : 0 ≤ kind := hv.kind0; have k1 : kind ≤ 4 := hv.kind1; have k2 : 0 ≤ sub := hv.sub0; have k3 : sub ≤ 3 := hv.sub1
      have hms : m ≤ 3 := by have := hv.sacks; rw [← HLM.out]; exact this
      have hns : n ≤ 1460 := by have := hv.bl; rw [← HLN.out]; exact this
      dsimp only at hsl hsh
      rw [HLM.out, HLN.out] at hsl
      rw [HLM.out] at h35
      obtain ⟨L, hL⟩ : ∃ L, seal4 (encS ⟨kind, sub, fin, ecn, seq, dsn, got, dgot, win, ace, ce, sent, echo, pl, bl⟩) = L := ⟨_, rfl⟩
      rw [hL] at h3 hsl hsh h35 htl
      clear hL hx hv hk hli
      obtain ⟨R, mB, dB, rfl, s3, hb3⟩ := h3
      have e3 := e2.kept hb3; have b3 := b2.trans (hb3.mono (Nat.le_of_lt e2.lt))
      have b3' : B ≤ w3.heap.size := Nat.le_of_lt e3.lt
      obtain ⟨zk, hzk⟩ : ∃ zk, 36 + 8 * m = zk := ⟨_, rfl⟩
      obtain rfl : mB = n + zk := by have := s3.rd.len; dsimp only at this; omega
      obtain ⟨D, rfl⟩ : ∃ D, dB = D + zk := ⟨dB - zk, by have := s3.le; omega⟩
      rw [hzk] at htl
      have hzi : (36 : Int) + 8 * (m : Int) = (zk : Int) := by omega
      have hle : n ≤ D := by have := s3.le; omega
      have a1 : IntKind.i64.wrap ((n : Int) + (zk : Int) - (n : Int)) = (zk : Int) := by rw [IntKind.wrap_i64]; omega
      obtain ⟨br, orr, rfl, hbl, hc⟩ := s3.rd.spot (by omega)
      have hcut := fun w => run_cutK Try.prog 24 5 Try.underlying24 info_u8 (some ⟨br, orr, none⟩) zk n D w hle
      have c4 := hc.out 4 (by omega)
      have c35 := hc.out 35 (by omega)
      dsimp only at c4 c35
      rw [hsh] at c4
      rw [h35] at c35
      obtain ⟨X0, hX0⟩ : ∃ X0, 16 * kind + sub = X0 := ⟨_, rfl⟩
      rw [hX0] at c4
      have x0a : 0 ≤ X0 := by omega
      have x0b : X0 < 256 := by omega
      have sc8 := s3.cutK
      dsimp only at sc8
      rw [htl] at sc8
      have sb8 := HH.out.sl.keep (by rw [hB]; exact b3)
      dsimp only at sb8
      have y0 := e3.cell 0 rfl; have y1 := e3.cell 1 rfl; have y13 := e3.cell 13 rfl; have y14 := e3.cell 14 rfl
      clear hc hsh h35 htl hsl hb3 e0 e1 e2
      go_upto_region 8 with fail
      clear y0 y1 y13 y14
      refine wp_region_tail 11 12 (fun (W : World) => W.cell? ⟨B, 14, none⟩ = some (Value.slice A n c)) (by kernel_rfl) (by rfl) (by decide) ?_
      have HS : ((fun (W : World) => W.cell? ⟨B, 14, none⟩ = some (Value.slice A n c))) _ := e3.drew.cell 14 rfl
      refine wpAnyT_take (i := 0) (v := ?vv1) rfl (by kernel_rfl) (fun _ _ _ h => h) (Or.inl ⟨by rfl, fun w hSw => ?yy1⟩) HS ?rr1
      case yy1 =>
        (try dsimp only at hSw); go_simp
        try with_reducible rfl
      try simp only [Act.put, List.setIfInBounds_toArray, List.set_cons_zero, List.set_cons_succ]
      refine wpAnyT_take (i := 1) (v := ?vv2) rfl (by kernel_rfl) (fun _ _ _ h => h) (Or.inl ⟨by rfl, fun w hSw => ?yy2⟩) HS ?rr2
      case yy2 =>
        (try dsimp only at hSw); go_simp
        try with_reducible rfl
      try simp only [Act.put, List.setIfInBounds_toArray, List.set_cons_zero, List.set_cons_succ]
      refine wpAnyT_take (i := 2) (v := ?vv3) rfl (by kernel_rfl) (fun _ _ _ h => h) (Or.inl ⟨by rfl, fun w hSw => ?yy3⟩) HS ?rr3
      case yy3 =>
        (try dsimp only at hSw); go_simp
        try with_reducible rfl
      try simp only [Act.put, List.setIfInBounds_toArray, List.set_cons_zero, List.set_cons_succ]
      refine wpAnyT_take (i := 3) (v := ?vv4) rfl (by kernel_rfl) (fun _ _ _ h => h) (Or.inl ⟨by rfl, fun w hSw => ?yy4⟩) HS ?rr4
      case yy4 =>
        (try dsimp only at hSw); go_simp
        try with_reducible rfl
      try simp only [Act.put, List.setIfInBounds_toArray, List.set_cons_zero, List.set_cons_succ]
      refine wpAnyT_take (i := 4) (v := ?vv5) rfl (by kernel_rfl) (fun _ _ _ h => h) (Or.inl ⟨by rfl, fun w hSw => ?yy5⟩) HS ?rr5
      case yy5 =>
        (try dsimp only at hSw); go_simp
        try with_reducible rfl
      try simp only [Act.put, List.setIfInBounds_toArray, List.set_cons_zero, List.set_cons_succ]
      refine wpAnyT_take (i := 5) (v := ?vv6) rfl (by kernel_rfl) (fun _ _ _ h => h) (Or.inl ⟨by rfl, fun w hSw => ?yy6⟩) HS ?rr6
      case yy6 =>
        (try dsimp only at hSw); go_simp
        try with_reducible rfl
      try simp only [Act.put, List.setIfInBounds_toArray, List.set_cons_zero, List.set_cons_succ]
      refine wpAnyT_take (i := 6) (v := .int .i64 (zk : Int)) rfl (by kernel_rfl) (fun _ _ _ h => h) (Or.inl ⟨by rfl, fun w hSw => ?_⟩) HS ?_
      · (try dsimp only at hSw); go_simp
        try simp only [a1, hcut]
      try simp only [Act.put, List.setIfInBounds_toArray, List.set_cons_zero, List.set_cons_succ]
      refine wpAnyT_take (i := 7) (v := .slice (cutA (some ⟨br, orr, none⟩) zk (D + zk)) n D) rfl (by kernel_rfl) (fun _ _ _ h => h) (Or.inl ⟨by rfl, fun w hSw => ?_⟩) HS ?_
      · (try dsimp only at hSw); go_simp
        try simp only [a1, hcut]
      try simp only [Act.put, List.setIfInBounds_toArray, List.set_cons_zero, List.set_cons_succ]
      refine wpAnyT_take (i := 8) (v := ?vv9) rfl (by kernel_rfl) (fun _ _ _ h => h) (Or.inl ⟨by rfl, fun w hSw => ?yy9⟩) HS ?rr9
      case yy9 =>
        (try dsimp only at hSw); go_simp
        try with_reducible rfl
      try simp only [Act.put, List.setIfInBounds_toArray, List.set_cons_zero, List.set_cons_succ]
      refine wpAnyT_take (i := 9) (v := ?vv10) rfl (by kernel_rfl) (fun _ _ _ h => h) (Or.inl ⟨by rfl, fun w hSw => ?yy10⟩) HS ?rr10
      case yy10 =>
        (try dsimp only at hSw); go_simp
        try with_reducible rfl
      try simp only [Act.put, List.setIfInBounds_toArray, List.set_cons_zero, List.set_cons_succ]
      refine wpAnyT_one (k := 10) rfl (by kernel_rfl) (by decide) (fun K hK => ?_)
      go_simp
      refine (same_any (cutA (some ⟨br, orr, none⟩) zk (D + zk)) A n D n c bl bl _ (sc8.keep (Below.refl _ _).drew).rd ((sb8.keep (Below.refl _ _).drew)).rd (by omega)).mono ?_; rintro e w9 ⟨rfl, kq, hw9⟩; have b9 : Below w3.heap.size w3 w9 := (by rw [hw9]; exact below_drewN (Below.refl _ _).drew kq); have e9 := e3.kept b9; clear hw9
      have HS : ((fun (W : World) => W.cell? ⟨B, 14, none⟩ = some (Value.slice A n c))) _ := e9.cell 14 rfl
      refine hK _ _ HS ?_
      clear hK K
      try simp only [Act.put, List.setIfInBounds_toArray, List.set_cons_zero, List.set_cons_succ]
      refine ⟨by kernel_rfl, ?_⟩
      simp only [List.drop_succ_cons, List.drop_zero]

      have e9 := e3.kept b9
      have y0 := e9.cell 0 rfl; have y1 := e9.cell 1 rfl; have y13 := e9.cell 13 rfl; have y14 := e9.cell 14 rfl
      have c4' := (b9.cell (p := ⟨br, orr + 4, none⟩) hbl).trans c4
      have c35' := (b9.cell (p := ⟨br, orr + 35, none⟩) hbl).trans c35
      have hsb : sameB bl bl = true := by unfold sameB; simp
      have M4 : (4 : Int) < ((n + zk : Nat) : Int) := by omega
      have M35 : (35 : Int) < ((n + zk : Nat) : Int) := by omega
      have M4' : (4 : Int) < (n : Int) + (zk : Int) := by omega
      have M35' : (35 : Int) < (n : Int) + (zk : Int) := by omega
      have q0 : (X0 == X0) = true := by simp
      have q1 : ((m : Int) == (m : Int)) = true := by simp
      have hsz : w3.heap.size ≤ w9.heap.size := b9.size
      have b10 : Below B w w9 := b3.trans (b9.mono b3')
      have HB := Lib.hid b10; clear b10
      clear c4 c35
      go_wp2_with fail
      go_quiet (fail)
      go_wp2_with fail
      go_ret
      exact ⟨rfl, below_drewN HB.out _⟩
end Go.Proofs.Ytfglagkpknpgdaa.wireLong
