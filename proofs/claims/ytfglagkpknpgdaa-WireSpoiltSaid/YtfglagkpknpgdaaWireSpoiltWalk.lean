/- The walk of the law WireSpoilt. -/
import Derived.Test.YtfglagkpknpgdaaProg
import Derived.Test.YtfglagkpknpgdaaWiAwake
import Derived.Test.YtfglagkpknpgdaaSgIn
import Derived.Test.YtfglagkpknpgdaaCkDiff
import Derived.Deep.AppendLies
import Derived.WalkKit
import Derived.WalkSpells
import Derived.WalkSmall
import Derived.Lib.Hide
import Derived.Below
import Derived.Outline
import Derived.Deep.QuietTactic
import Derived.BigQuiet
namespace Go.Proofs.Ytfglagkpknpgdaa.wireSpoilt
open Go.RowKit
set_option linter.unusedVariables false
set_option linter.unusedSimpArgs false


set_option maxRecDepth 100000 in
set_option maxHeartbeats 8000000 in
theorem walk (kind sub : Int) (fin ecn : Bool) (seq dsn got dgot win ace ce sent echo : Int) (G : Option Addr) (m d : Nat) (A : Option Addr) (n c : Nat) (pl : List (Int × Int)) (bl : List Int) (z1 y : Int) (w : World) (h : SegIn w ⟨kind, sub, fin, ecn, seq, dsn, got, dgot, win, ace, ce, sent, echo, pl, bl⟩ G m d A n c) (hz1 : W64 z1) (hy : 0 ≤ y ∧ y < 256) :
    Calls Try.prog 6 #[.agg #[.int .i64 kind, .int .i64 sub, .bool fin, .bool ecn, .int .u32 seq, .int .u32 dsn, .int .u32 got, .int .u32 dgot, .int .i64 win, .int .i64 ace, .int .u32 ce, .int .u32 sent, .int .u32 echo, .slice G m d, .slice A n c], .int .i64 z1, .int .u8 y] w fun e w' => e = .returned (.bool true) ∧ Below w.heap.size w w' := by
  have hlm := h.sr.rd.len; have hln := h.sl.rd.len
  dsimp only at hlm hln
  have hmx : m ≤ 9223372036854775807 := by have := h.sr.le; have := h.sr.max; unfold maxLen at this; omega
  have hnx : n ≤ 9223372036854775807 := by have := h.sl.le; have := h.sl.big; unfold maxLen at this; omega
  obtain ⟨B, hB⟩ : ∃ B, w.heap.size = B := ⟨_, rfl⟩
  rw [hB]
  obtain ⟨w0, hw0⟩ : ∃ w0, w.alloc (.cells #[.int .i64 kind, .int .i64 sub, .bool fin, .bool ecn, .int .u32 seq, .int .u32 dsn, .int .u32 got, .int .u32 dgot, .int .i64 win, .int .i64 ace, .int .u32 ce, .int .u32 sent, .int .u32 echo, .slice G m d, .slice A n c] 26) = w0 := ⟨_, rfl⟩
  have e0 : Bx w0 B 26 [.int .i64 kind, .int .i64 sub, .bool fin, .bool ecn, .int .u32 seq, .int .u32 dsn, .int .u32 got, .int .u32 dgot, .int .i64 win, .int .i64 ace, .int .u32 ce, .int .u32 sent, .int .u32 echo, .slice G m d, .slice A n c] := by rw [← hw0, ← hB]; exact Bx.new w 26 [.int .i64 kind, .int .i64 sub, .bool fin, .bool ecn, .int .u32 seq, .int .u32 dsn, .int .u32 got, .int .u32 dgot, .int .i64 win, .int .i64 ace, .int .u32 ce, .int .u32 sent, .int .u32 echo, .slice G m d, .slice A n c]
  have b0 : Below B w w0 := by rw [← hw0]; exact (Below.refl _ _).alloc (by omega) _
  have HH := Lib.hid h; have HLM := Lib.hid hlm; have HLN := Lib.hid hln; clear hlm hln
  unfold W64 at hz1
  obtain ⟨y0, y1⟩ := hy
  go_enter Try.func6, Try.ntmps6
  go_wp2_with fail
  clear hw0
  refine (awake_any _).mono ?_
  rintro e w1 ⟨rfl, hb1⟩
  have e1 := e0.kept hb1; have b1 := b0.trans (hb1.mono (Nat.le_of_lt e0.lt))
  go_wp2_with (refine Bx.stepLoad rfl (.tmp 3) rfl rfl e1 rfl ?_)
  refine (light_any kind sub fin ecn seq dsn got dgot win ace ce sent echo G m d A n c _).mono ?_
  rintro e w2 ⟨rfl, hb2⟩
  have e2 := e1.kept hb2; have b2 := b1.trans (hb2.mono (Nat.le_of_lt e1.lt))
  go_wp2_with (refine Bx.stepLoad rfl (.tmp 3) rfl rfl e2 rfl ?_)
  refine (lput_any kind sub fin ecn seq dsn got dgot win ace ce sent echo G m d A n c pl bl _ (HH.out.sr.keep (by rw [hB]; exact b2)) (HH.out.sl.keep (by rw [hB]; exact b2)) hmx hnx HH.out.w.seq HH.out.w.dsn HH.out.w.got HH.out.w.dgot HH.out.w.ce HH.out.w.sent HH.out.w.echo).mono ?_
  rintro e w3 h3
  cases hli : lightB n m with
  | false =>
    obtain ⟨R, mB, dB, rfl, s3, hb3⟩ := h3
    have b3 := b2.trans (hb3.mono (Nat.le_of_lt e2.lt))
    go_wp2_with fail
    go_ret
    exact ⟨rfl, b3⟩
  | true =>
  cases hk : smay ⟨kind, sub, fin, ecn, seq, dsn, got, dgot, win, ace, ce, sent, echo, pl, bl⟩ with
  | false =>
    have hx : putS ⟨kind, sub, fin, ecn, seq, dsn, got, dgot, win, ace, ce, sent, echo, pl, bl⟩ = ([], 1) := by unfold putS; rw [if_neg (by rw [hk]; simp)]
    rw [hx] at h3
    obtain ⟨R, mB, dB, rfl, s3, hb3⟩ := h3
    have b3 := b2.trans (hb3.mono (Nat.le_of_lt e2.lt))
    go_wp2_with fail
    go_ret
    exact ⟨rfl, b3⟩
  | true =>
    have hv := (smay_iff _).1 hk
    have hx := put_ok hv
    rw [hx] at h3
    have hsl := seal_len ⟨kind, sub, fin, ecn, seq, dsn, got, dgot, win, ace, ce, sent, echo, pl, bl⟩
    have hes := enc_small hv HH.out.w
    have hms : m ≤ 3 := by have := hv.sacks; rw [← HLM.out]; exact this
    have hns : n ≤ 1460 := by have := hv.bl; rw [← HLN.out]; exact this
    dsimp only at hsl
    rw [HLM.out, HLN.out] at hsl
    obtain ⟨E, hE⟩ : ∃ E, encS ⟨kind, sub, fin, ecn, seq, dsn, got, dgot, win, ace, ce, sent, echo, pl, bl⟩ = E := ⟨_, rfl⟩
    rw [hE] at h3 hsl hes
    clear hE hx hv hk hli
    obtain ⟨R, mB, dB, rfl, s3, hb3⟩ := h3
    dsimp only at s3
    have b3 := b2.trans (hb3.mono (Nat.le_of_lt e2.lt))
    have b3' : B ≤ w3.heap.size := by have := b3.size; omega
    obtain ⟨M, hM⟩ : ∃ M, E.length = M := ⟨_, rfl⟩
    have hMl : 32 ≤ M := by rw [seal4_len] at hsl; omega
    have hMh : M ≤ 2000 := by rw [seal4_len] at hsl; omega
    obtain rfl : mB = M + 4 := by have := s3.rd.len; rw [seal4_len, hM] at this; exact this.symm
    clear e0 e1 e2 hb1 hb2 hb3 hsl
    by_cases q1 : z1 < 0
    · go_wp2_with fail
      go_ret
      exact ⟨rfl, b3⟩
    obtain ⟨k, rfl⟩ : ∃ k : Nat, z1 = (k : Int) := ⟨z1.toNat, by omega⟩
    by_cases q2 : k < M + 4
    case neg =>
      have q2' : ¬ ((k : Int) < (M : Int) + 4) := by omega
      have q2'' : (M : Int) + 4 ≤ (k : Int) := by omega
      go_wp2_with fail
      go_ret
      exact ⟨rfl, b3⟩
    have q2' : (k : Int) < (M : Int) + 4 := by omega
    have q2'' : ¬ ((M : Int) + 4 ≤ (k : Int)) := by omega
    by_cases q3 : y = 0
    · subst q3
      go_wp2_with fail
      go_ret
      exact ⟨rfl, b3⟩
    have q3' : (y == 0) = false := by simpa using q3
    have M36 : ¬ ((M : Int) + 4 < 36) := by omega
    obtain ⟨z, hz⟩ : ∃ z, byt (seal4 E) k = z := ⟨_, rfl⟩
    have hzb := byt_bd s3.rd.small k
    rw [hz] at hzb
    obtain ⟨z0, z1⟩ := hzb
    obtain ⟨f0, f1, f2⟩ := xor_facts z0 z1 y0 y1 q3
    obtain ⟨x, hxx⟩ : ∃ x, bits BinOp.xor IntKind.u8 z y = x := ⟨_, rfl⟩
    rw [hxx] at f0 f1 f2
    have hch := changed hes (i := k) (z := x) (by rw [hM]; omega) f0 f1 (by rw [hz]; exact f2)
    have hgx : getR ((seal4 E).set k x) = (zs, 8) := getR_bad (m := M) (by rw [List.length_set, seal4_len, hM]) hch
    have hg3 : getR ((seal4 E).take 3) = (zs, 7) := getR_short (by rw [List.length_take]; omega)
    have HGX := Lib.hid hgx; have HG3 := Lib.hid hg3; clear hch hgx hg3
    have HZ := Lib.hid hz; clear hz
    have hf2 := Lib.hid f2; clear f2
    have hq3 := Lib.hid q3; clear q3
    have k1 : k < M + 4 := q2
    go_wp2_with (at_builtin; refine wpList_app _ rfl (.const (.slice none 0 0)) (.tmp 52) 24 rfl w3.heap.size 5 Try.underlying24 info_u8 (.slice none 0 0) 0 [] rfl (World.ownsRow_nil _ _ _ _) rfl s3.nil s3.rd (by omega) (Nat.le_refl _) ?_; intro v5 w5 hown5 hgrow5 hat5; simp only [Nat.zero_add, List.nil_append] at hown5; obtain ⟨g, cp, rfl, hg5, hlt5⟩ := hown5.form (by omega); have got5 : Got w5 w3.heap.size (.slice (some ⟨g, 0, none⟩) (M + 4) cp) (M + 4) (seal4 E) := ⟨hown5, s3.rd.small⟩; obtain ⟨b', o', hbo, _, hcl⟩ := got5.sl_at.rd.at_ (by omega); cases hbo; have hce := hcl k k1; rw [HZ.out, Nat.zero_add] at hce; have hfr := hown5.frozenAt k; clear hcl; have b5 : Below w3.heap.size w3 w5 := (Below.refl _ _).grown hgrow5 (Nat.le_refl _) (fun k hk => by cases hk))
    have s6 := (got_set (i := k) got5 f0 f1).sl_at
    have b6 : Below w3.heap.size w3 (w5.setCell ⟨g, k, none⟩ (.int .u8 x)) := b5.setCell (by exact hg5) _
    have s3k := s3.keep b6
    refine (lget_any _ (M + 4) cp ((seal4 E).set k x) _ s6 (by omega)).mono ?_
    rintro e w7 h7
    rw [HGX.out] at h7
    obtain ⟨G1, m1, d1, R1, k2, q5, rfl, sg7, sl7, hb7⟩ := h7
    dsimp only at sg7 sl7 ⊢
    obtain rfl : k2 = 0 := by have := sl7.rd.len; simpa [zs] using this.symm
    have b7 := b6.trans (hb7.mono b6.size)
    have v8 := Bx.new w7 26 [.int .i64 zs.kind, .int .i64 zs.sub, .bool zs.fin, .bool zs.ecn, .int .u32 zs.seq, .int .u32 zs.dsn, .int .u32 zs.got, .int .u32 zs.dgot, .int .i64 zs.win, .int .i64 zs.ace, .int .u32 zs.ce, .int .u32 zs.sent, .int .u32 zs.echo, .slice G1 m1 d1, .slice R1 0 q5]
    have b8 := b7.alloc b7.size (.cells #[.int .i64 zs.kind, .int .i64 zs.sub, .bool zs.fin, .bool zs.ecn, .int .u32 zs.seq, .int .u32 zs.dsn, .int .u32 zs.got, .int .u32 zs.dgot, .int .i64 zs.win, .int .i64 zs.ace, .int .u32 zs.ce, .int .u32 zs.sent, .int .u32 zs.echo, .slice G1 m1 d1, .slice R1 0 q5] 26)
    have s8 := (s3k.keep hb7).alloc (.cells #[.int .i64 zs.kind, .int .i64 zs.sub, .bool zs.fin, .bool zs.ecn, .int .u32 zs.seq, .int .u32 zs.dsn, .int .u32 zs.got, .int .u32 zs.dgot, .int .i64 zs.win, .int .i64 zs.ace, .int .u32 zs.ce, .int .u32 zs.sent, .int .u32 zs.echo, .slice G1 m1 d1, .slice R1 0 q5] 26)
    have hle3 : M + 4 ≤ dB := s3.le
    have hhead := fun w => run_headK Try.prog 24 5 Try.underlying24 info_u8 R 3 (M + 4) dB w (by omega)
    have hhead3 : ∀ w, (Instr.slice 24 (.slice R (M + 4) dB) none (some (.int .i64 3)) none).run Try.prog w = .ok (.slice R 3 dB) w := hhead
    clear hhead
    go_wp2_with fail
    refine (lget_any R 3 dB ((seal4 E).take 3) _ (s8.headK (by omega)) (by omega)).mono ?_
    rintro e w9 h9
    rw [HG3.out] at h9
    obtain ⟨G2, m2, d2, R2, k3, q6, rfl, sg9, sl9, hb9⟩ := h9
    dsimp only at sg9 sl9 ⊢
    have v9 := v8.kept hb9
    have b9 := b8.trans (hb9.mono b8.size)
    have x0 := v9.cell 0 rfl; have x14 := v9.cell 14 rfl
    have hk0 : zs.kind = 0 := rfl
    rw [hk0] at x0
    have v10 := v9.alloc (.cells #[.int .i64 0, .int .i64 zs.sub, .bool zs.fin, .bool zs.ecn, .int .u32 zs.seq, .int .u32 zs.dsn, .int .u32 zs.got, .int .u32 zs.dgot, .int .i64 zs.win, .int .i64 zs.ace, .int .u32 zs.ce, .int .u32 zs.sent, .int .u32 zs.echo, .slice G2 m2 d2, .slice R2 k3 q6] 26)
    have b10 := b9.alloc b9.size (.cells #[.int .i64 0, .int .i64 zs.sub, .bool zs.fin, .bool zs.ecn, .int .u32 zs.seq, .int .u32 zs.dsn, .int .u32 zs.got, .int .u32 zs.dgot, .int .i64 zs.win, .int .i64 zs.ace, .int .u32 zs.ce, .int .u32 zs.sent, .int .u32 zs.echo, .slice G2 m2 d2, .slice R2 k3 q6] 26)
    have x0' := v10.cell 0 rfl; have x14' := v10.cell 14 rfl
    rw [hk0] at x0'
    go_wp2_with fail
    go_ret
    exact ⟨by simp, b3.trans (b10.mono b3')⟩
end Go.Proofs.Ytfglagkpknpgdaa.wireSpoilt
