/- The walk of the law WireBack. -/
import Derived.Test.YtfglagkpknpgdaaProg
import Derived.Test.YtfglagkpknpgdaaWiAwake
import Derived.Test.YtfglagkpknpgdaaSgIn
import Derived.Test.YtfglagkpknpgdaaWireGetsWalk
import Derived.Test.YtfglagkpknpgdaaCkLaw
import Derived.WalkKit
import Derived.WalkSpells
import Derived.WalkSmall
import Derived.Lib.Hide
import Derived.Below
import Derived.Outline
import Derived.Deep.QuietTactic
import Derived.BigQuiet
namespace Go.Proofs.Ytfglagkpknpgdaa.wireBack
open Go.RowKit
set_option linter.unusedVariables false
set_option linter.unusedSimpArgs false


theorem getR_seal {l : List Int} (hs : Small l) : getR (seal4 l) = getS l := by
  rw [getR_ok (m := l.length) (by rw [seal4_len]) (seal4_small hs) (by rw [drop4_seal]; exact num4_seal l), drop4_seal]

set_option maxRecDepth 100000 in
set_option maxHeartbeats 8000000 in
theorem walk (kind sub : Int) (fin ecn : Bool) (seq dsn got dgot win ace ce sent echo : Int) (G : Option Addr) (m d : Nat) (A : Option Addr) (n c : Nat) (pl : List (Int × Int)) (bl : List Int) (R0 : Option Addr) (n0 c0 : Nat) (l : List Int) (w : World) (h : SegIn w ⟨kind, sub, fin, ecn, seq, dsn, got, dgot, win, ace, ce, sent, echo, pl, bl⟩ G m d A n c) (h0 : Sl w R0 n0 c0 l) :
    Calls Try.prog 5 #[.agg #[.int .i64 kind, .int .i64 sub, .bool fin, .bool ecn, .int .u32 seq, .int .u32 dsn, .int .u32 got, .int .u32 dgot, .int .i64 win, .int .i64 ace, .int .u32 ce, .int .u32 sent, .int .u32 echo, .slice G m d, .slice A n c], .slice R0 n0 c0] w fun e w' => e = .returned (.bool true) ∧ Below w.heap.size w w' := by
  have hlm := h.sr.rd.len; have hln := h.sl.rd.len
  dsimp only at hlm hln
  have hmx : m ≤ 9223372036854775807 := by have := h.sr.le; have := h.sr.max; unfold maxLen at this; omega
  have hnx : n ≤ 9223372036854775807 := by have := h.sl.le; have := h.sl.big; unfold maxLen at this; omega
  obtain ⟨B, hB⟩ : ∃ B, w.heap.size = B := ⟨_, rfl⟩
  rw [hB]
  obtain ⟨w0, hw0⟩ : ∃ w0, w.alloc (.cells #[.int .i64 kind, .int .i64 sub, .bool fin, .bool ecn, .int .u32 seq, .int .u32 dsn, .int .u32 got, .int .u32 dgot, .int .i64 win, .int .i64 ace, .int .u32 ce, .int .u32 sent, .int .u32 echo, .slice G m d, .slice A n c] 26) = w0 := ⟨_, rfl⟩
  have e0 : Bx w0 B 26 [.int .i64 kind, .int .i64 sub, .bool fin, .bool ecn, .int .u32 seq, .int .u32 dsn, .int .u32 got, .int .u32 dgot, .int .i64 win, .int .i64 ace, .int .u32 ce, .int .u32 sent, .int .u32 echo, .slice G m d, .slice A n c] := by rw [← hw0, ← hB]; exact Bx.new w 26 [.int .i64 kind, .int .i64 sub, .bool fin, .bool ecn, .int .u32 seq, .int .u32 dsn, .int .u32 got, .int .u32 dgot, .int .i64 win, .int .i64 ace, .int .u32 ce, .int .u32 sent, .int .u32 echo, .slice G m d, .slice A n c]
  have b0 : Below B w w0 := by rw [← hw0]; exact (Below.refl _ _).alloc (by omega) _
  have HH := Lib.hid h; have HLM := Lib.hid hlm; have HLN := Lib.hid hln; clear hlm hln
  have hl0 := h0.rd.len
  go_enter Try.func5, Try.ntmps5
  go_wp2_with fail
  clear hw0
  refine (awake_any _).mono ?_
  rintro e w1 ⟨rfl, hb1⟩
  have e1 := e0.kept hb1; have b1 := b0.trans (hb1.mono (Nat.le_of_lt e0.lt))
  go_wp2_with (refine Bx.stepLoad rfl (.tmp 2) rfl rfl e1 rfl ?_)
  refine (light_any kind sub fin ecn seq dsn got dgot win ace ce sent echo G m d A n c _).mono ?_
  rintro e w2 ⟨rfl, hb2⟩
  have e2 := e1.kept hb2; have b2 := b1.trans (hb2.mono (Nat.le_of_lt e1.lt))
  cases hli : lightB n m with
  | false =>
    go_wp2_with fail
    go_ret
    exact ⟨rfl, b2⟩
  | true =>
    have hlm2 : n ≤ 1600 ∧ m ≤ 50 := by unfold lightB at hli; simpa using hli
    obtain ⟨hn6, hm5⟩ := hlm2
    clear hli
    by_cases hn : n0 ≤ 2000
    case neg =>
      have hn' : ¬ ((n0 : Int) ≤ 2000) := by omega
      go_wp2_with fail
      go_ret
      exact ⟨rfl, b2⟩
    have hn' : (n0 : Int) ≤ 2000 := by omega
    have HL := Lib.hid hl0; clear hl0
    have hgs := getR_seal h0.rd.small
    have hgc := get_cases l h0.rd.small
    have HGS := Lib.hid hgs; have HGC := Lib.hid hgc; clear hgs hgc
    go_wp2_with (refine Bx.stepLoad rfl (.tmp 2) rfl rfl e2 rfl ?_)
    refine (lput_any kind sub fin ecn seq dsn got dgot win ace ce sent echo G m d A n c pl bl _ (HH.out.sr.keep (by rw [hB]; exact b2)) (HH.out.sl.keep (by rw [hB]; exact b2)) hmx hnx HH.out.w.seq HH.out.w.dsn HH.out.w.got HH.out.w.dgot HH.out.w.ce HH.out.w.sent HH.out.w.echo).mono ?_
    rintro e w3 h3
    have key : ∃ (p : List Int) (er : Int) (g : Sg) (f : Int), putS ⟨kind, sub, fin, ecn, seq, dsn, got, dgot, win, ace, ce, sent, echo, pl, bl⟩ = (p, er) ∧ getR p = (g, f) ∧ ((er = 0 ∧ f = 0 ∧ g = ⟨kind, sub, fin, ecn, seq, dsn, got, dgot, win, ace, ce, sent, echo, pl, bl⟩) ∨ (er = 1 ∧ p = [] ∧ f = 7)) ∧ p.length ≤ 100000 := by
      cases hk : smay ⟨kind, sub, fin, ecn, seq, dsn, got, dgot, win, ace, ce, sent, echo, pl, bl⟩ with
      | true =>
        have hv := (smay_iff _).1 hk
        refine ⟨_, _, _, _, put_ok hv, get_back hv HH.out.w, Or.inl ⟨rfl, rfl, rfl⟩, ?_⟩
        have h1 := seal_len ⟨kind, sub, fin, ecn, seq, dsn, got, dgot, win, ace, ce, sent, echo, pl, bl⟩
        have h2 := hv.sacks; have h3 := hv.bl
        omega
      | false => exact ⟨[], 1, zs, 7, (by unfold putS; rw [if_neg (by rw [hk]; simp)]), getR_short (by simp), Or.inr ⟨rfl, rfl, rfl⟩, by simp⟩
    obtain ⟨p, er, g, f, hp, hg, hcs, hpl2⟩ := key
    have hgb := wireGets.getR_small p
    rw [hp] at h3
    rw [hg] at hgb
    dsimp only at hgb
    have HG := Lib.hid hg; clear hg hp
    obtain ⟨R1, m1, d1, rfl, s3, hb3⟩ := h3
    dsimp only at s3 ⊢
    have hm1 : p.length = m1 := s3.rd.len
    have e3 := e2.kept hb3; have b3 := b2.trans (hb3.mono (Nat.le_of_lt e2.lt))
    go_wp2_with fail
    refine (lget_any R1 m1 d1 p _ s3 (by omega)).mono ?_
    rintro e w4 h4
    rw [HG.out] at h4
    obtain ⟨G1, mg, dg, R2, kg, qg, rfl, sg4, sl4, hb4⟩ := h4
    dsimp only at sg4 sl4 ⊢
    have e4 := e3.kept hb4; have b4 := b3.trans (hb4.mono (Nat.le_of_lt e3.lt))
    have e5 := e4.alloc (.cells #[.int .i64 g.kind, .int .i64 g.sub, .bool g.fin, .bool g.ecn, .int .u32 g.seq, .int .u32 g.dsn, .int .u32 g.got, .int .u32 g.dgot, .int .i64 g.win, .int .i64 g.ace, .int .u32 g.ce, .int .u32 g.sent, .int .u32 g.echo, .slice G1 mg dg, .slice R2 kg qg] 26)
    have v5 := Bx.new w4 26 [.int .i64 g.kind, .int .i64 g.sub, .bool g.fin, .bool g.ecn, .int .u32 g.seq, .int .u32 g.dsn, .int .u32 g.got, .int .u32 g.dgot, .int .i64 g.win, .int .i64 g.ace, .int .u32 g.ce, .int .u32 g.sent, .int .u32 g.echo, .slice G1 mg dg, .slice R2 kg qg]
    have b5 := b4.alloc (Nat.le_of_lt e4.lt) (.cells #[.int .i64 g.kind, .int .i64 g.sub, .bool g.fin, .bool g.ecn, .int .u32 g.seq, .int .u32 g.dsn, .int .u32 g.got, .int .u32 g.dgot, .int .i64 g.win, .int .i64 g.ace, .int .u32 g.ce, .int .u32 g.sent, .int .u32 g.echo, .slice G1 mg dg, .slice R2 kg qg] 26)
    have A1 := sg4.alloc (.cells #[.int .i64 g.kind, .int .i64 g.sub, .bool g.fin, .bool g.ecn, .int .u32 g.seq, .int .u32 g.dsn, .int .u32 g.got, .int .u32 g.dgot, .int .i64 g.win, .int .i64 g.ace, .int .u32 g.ce, .int .u32 g.sent, .int .u32 g.echo, .slice G1 mg dg, .slice R2 kg qg] 26)
    have A3 := sl4.alloc (.cells #[.int .i64 g.kind, .int .i64 g.sub, .bool g.fin, .bool g.ecn, .int .u32 g.seq, .int .u32 g.dsn, .int .u32 g.got, .int .u32 g.dgot, .int .i64 g.win, .int .i64 g.ace, .int .u32 g.ce, .int .u32 g.sent, .int .u32 g.echo, .slice G1 mg dg, .slice R2 kg qg] 26)
    have A2 := HH.out.sr.keep (by rw [hB]; exact b5)
    have A4 := HH.out.sl.keep (by rw [hB]; exact b5)
    clear e0 e1 e2 e3 sg4 sl4 s3 hb1 hb2 hb3 hb4
    go_wp2_with (first | (refine Bx.stepLoad rfl (.tmp 9) rfl rfl v5 rfl ?_) | (refine Bx.stepLoad rfl (.tmp 2) rfl rfl e5 rfl ?_))
    refine (sgsame_any g.kind g.sub g.fin g.ecn g.seq g.dsn g.got g.dgot g.win g.ace g.ce g.sent g.echo G1 mg dg R2 kg qg g.sacks g.b kind sub fin ecn seq dsn got dgot win ace ce sent echo G m d A n c pl bl _ A1 A2 A3 A4 (by rw [← A1.rd.len]; exact hgb.1) (by omega) (by rw [← A3.rd.len]; exact hgb.2)).mono ?_
    rintro e w6 ⟨bq, rfl, hbq, hb6⟩
    have b6 := b5.trans (hb6.mono (Nat.le_of_lt e5.lt))
    clear v5 e4 e5 A1 A2 A3 A4 hb6 b5
    have hszB : B ≤ w6.heap.size := by have := b6.size; omega
    rcases hcs with ⟨rfl, rfl, rfl⟩ | ⟨rfl, rfl, rfl⟩
    · obtain rfl := hbq rfl
      have s6 := h0.keep (by rw [hB]; exact b6)
      go_wp2_with fail
      refine (seal_any R0 n0 c0 l _ s6 (by omega)).mono ?_
      rintro e w7 ⟨R7, d7, rfl, s7, hb7⟩
      have b7 := b6.trans (hb7.mono hszB)
      have hsz7 : B ≤ w7.heap.size := by have := b7.size; omega
      go_wp2_with fail
      refine (lget_any R7 (n0 + 4) d7 (seal4 l) _ s7 (by omega)).mono ?_
      rintro e w8 h8
      rw [HGS.out] at h8
      rcases HGC.out with ⟨hg1, _⟩ | ⟨hg1, ⟨_, _, hv⟩, henc⟩
      · rw [hg1] at h8
        obtain ⟨G8, m8, d8, R8, k8, q8, rfl, sg8, sl8, hb8⟩ := h8
        dsimp only at sg8 sl8 ⊢
        have b8 := b7.trans (hb8.mono hsz7)
        have b9 := b8.alloc (by have := b8.size; omega) (.cells #[.int .i64 zs.kind, .int .i64 zs.sub, .bool zs.fin, .bool zs.ecn, .int .u32 zs.seq, .int .u32 zs.dsn, .int .u32 zs.got, .int .u32 zs.dgot, .int .i64 zs.win, .int .i64 zs.ace, .int .u32 zs.ce, .int .u32 zs.sent, .int .u32 zs.echo, .slice G8 m8 d8, .slice R8 k8 q8] 26)
        go_wp2_with fail
        go_ret
        exact ⟨by simp, b9⟩
      · rw [hg1] at h8
        obtain ⟨G8, m8, d8, R8, k8, q8, rfl, sg8, sl8, hb8⟩ := h8
        dsimp only at sg8 sl8 ⊢
        have b8 := b7.trans (hb8.mono hsz7)
        have hsz8 : B ≤ w8.heap.size := by have := b8.size; omega
        have v9 := Bx.new w8 26 [.int .i64 (parS l).kind, .int .i64 (parS l).sub, .bool (parS l).fin, .bool (parS l).ecn, .int .u32 (parS l).seq, .int .u32 (parS l).dsn, .int .u32 (parS l).got, .int .u32 (parS l).dgot, .int .i64 (parS l).win, .int .i64 (parS l).ace, .int .u32 (parS l).ce, .int .u32 (parS l).sent, .int .u32 (parS l).echo, .slice G8 m8 d8, .slice R8 k8 q8]
        have b9 := b8.alloc hsz8 (.cells #[.int .i64 (parS l).kind, .int .i64 (parS l).sub, .bool (parS l).fin, .bool (parS l).ecn, .int .u32 (parS l).seq, .int .u32 (parS l).dsn, .int .u32 (parS l).got, .int .u32 (parS l).dgot, .int .i64 (parS l).win, .int .i64 (parS l).ace, .int .u32 (parS l).ce, .int .u32 (parS l).sent, .int .u32 (parS l).echo, .slice G8 m8 d8, .slice R8 k8 q8] 26)
        have sg9 := sg8.alloc (.cells #[.int .i64 (parS l).kind, .int .i64 (parS l).sub, .bool (parS l).fin, .bool (parS l).ecn, .int .u32 (parS l).seq, .int .u32 (parS l).dsn, .int .u32 (parS l).got, .int .u32 (parS l).dgot, .int .i64 (parS l).win, .int .i64 (parS l).ace, .int .u32 (parS l).ce, .int .u32 (parS l).sent, .int .u32 (parS l).echo, .slice G8 m8 d8, .slice R8 k8 q8] 26)
        have sl9 := sl8.alloc (.cells #[.int .i64 (parS l).kind, .int .i64 (parS l).sub, .bool (parS l).fin, .bool (parS l).ecn, .int .u32 (parS l).seq, .int .u32 (parS l).dsn, .int .u32 (parS l).got, .int .u32 (parS l).dgot, .int .i64 (parS l).win, .int .i64 (parS l).ace, .int .u32 (parS l).ce, .int .u32 (parS l).sent, .int .u32 (parS l).echo, .slice G8 m8 d8, .slice R8 k8 q8] 26)
        have hput : putS (parS l) = (seal4 l, 0) := by rw [put_ok hv, henc]
        have hmay := (smay_iff _).2 hv
        have HPUT := Lib.hid hput; have HMAY := Lib.hid hmay; have HPW := Lib.hid (par_w h0.rd.small); have HV := Lib.hid hv
        clear hput hmay hg1 henc hv s7 hb7 hb8 sg8 sl8
        have hm8 : m8 ≤ 3 := by have := HV.out.sacks; rw [sg9.rd.len] at this; exact this
        have hk8 : k8 ≤ 1460 := by have := HV.out.bl; rw [sl9.rd.len] at this; exact this
        have hlq := sg9.rd.len; have hlb := sl9.rd.len
        have HLQ := Lib.hid hlq; have HLB := Lib.hid hlb; clear hlq hlb
        go_wp2_with (refine Bx.stepLoad rfl (.tmp 12) rfl rfl v9 rfl ?_)
        refine (lput_any (parS l).kind (parS l).sub (parS l).fin (parS l).ecn (parS l).seq (parS l).dsn (parS l).got (parS l).dgot (parS l).win (parS l).ace (parS l).ce (parS l).sent (parS l).echo G8 m8 d8 R8 k8 q8 (parS l).sacks (parS l).b _ sg9 sl9 (by omega) (by omega) HPW.out.seq HPW.out.dsn HPW.out.got HPW.out.dgot HPW.out.ce HPW.out.sent HPW.out.echo).mono ?_
        rintro e w10 h10
        have h10' : TellB _ w10 e (putS (parS l)) := h10
        rw [HPUT.out] at h10'
        clear h10
        obtain ⟨R10, m10, d10, rfl, s10, hb10⟩ := h10'
        dsimp only at s10 ⊢
        obtain rfl : m10 = n0 + 4 := by have := s10.rd.len; rw [seal4_len] at this; have := h0.rd.len; omega
        have v10 := v9.kept hb10
        have b10 := b9.trans (hb10.mono (by simp; omega))
        have hsz10 : B ≤ w10.heap.size := by have := b10.size; omega
        have t10 := h0.keep (by rw [hB]; exact b10)
        clear v9 b9 sg9 sl9 hb10
        go_wp2_with fail
        refine (seal_any R0 n0 c0 l _ t10 (by omega)).mono ?_
        rintro e w11 ⟨R11, d11, rfl, s11, hb11⟩
        have v11 := v10.kept hb11
        have b11 := b10.trans (hb11.mono hsz10)
        have hsz11 : B ≤ w11.heap.size := by have := b11.size; omega
        have s10' := s10.keep hb11
        go_wp2_with fail
        refine (same_yes R10 R11 (n0 + 4) d10 d11 (seal4 l) _ s10'.rd s11.rd (by omega)).mono ?_
        rintro e w12 ⟨rfl, hb12⟩
        have v12 := v11.kept hb12
        have b12 := b11.trans (hb12.mono hsz11)
        have hsz12 : B ≤ w12.heap.size := by have := b12.size; omega
        clear v10 v11 s10 s10' s11 t10 hb11 hb12
        have y0 := v12.cell 0 rfl; have y1 := v12.cell 1 rfl; have y2 := v12.cell 2 rfl; have y3 := v12.cell 3 rfl; have y4 := v12.cell 4 rfl; have y5 := v12.cell 5 rfl; have y6 := v12.cell 6 rfl; have y7 := v12.cell 7 rfl; have y8 := v12.cell 8 rfl; have y9 := v12.cell 9 rfl; have y10 := v12.cell 10 rfl; have y11 := v12.cell 11 rfl; have y12 := v12.cell 12 rfl; have y13 := v12.cell 13 rfl; have y14 := v12.cell 14 rfl
        go_wp2_with fail
        refine (lmay_any (parS l).kind (parS l).sub (parS l).fin (parS l).ecn (parS l).seq (parS l).dsn (parS l).got (parS l).dgot (parS l).win (parS l).ace (parS l).ce (parS l).sent (parS l).echo G8 m8 d8 R8 k8 q8 (parS l).sacks (parS l).b _ HLQ.out HLB.out (by omega) (by omega)).mono ?_
        rintro e w13 ⟨he, hb13⟩
        have he' : e = .returned (.bool (smay (parS l))) := he
        rw [HMAY.out] at he'
        subst he'
        go_wp2_with fail
        go_ret
        exact ⟨rfl, b12.trans (hb13.mono hsz12)⟩

    · have hm10 : m1 = 0 := by simpa using hm1.symm
      subst hm10
      have s6 := h0.keep (by rw [hB]; exact b6)
      go_wp2_with fail
      refine (seal_any R0 n0 c0 l _ s6 (by omega)).mono ?_
      rintro e w7 ⟨R7, d7, rfl, s7, hb7⟩
      have b7 := b6.trans (hb7.mono hszB)
      have hsz7 : B ≤ w7.heap.size := by have := b7.size; omega
      go_wp2_with fail
      refine (lget_any R7 (n0 + 4) d7 (seal4 l) _ s7 (by omega)).mono ?_
      rintro e w8 h8
      rw [HGS.out] at h8
      rcases HGC.out with ⟨hg1, _⟩ | ⟨hg1, ⟨_, _, hv⟩, henc⟩
      · rw [hg1] at h8
        obtain ⟨G8, m8, d8, R8, k8, q8, rfl, sg8, sl8, hb8⟩ := h8
        dsimp only at sg8 sl8 ⊢
        have b8 := b7.trans (hb8.mono hsz7)
        have b9 := b8.alloc (by have := b8.size; omega) (.cells #[.int .i64 zs.kind, .int .i64 zs.sub, .bool zs.fin, .bool zs.ecn, .int .u32 zs.seq, .int .u32 zs.dsn, .int .u32 zs.got, .int .u32 zs.dgot, .int .i64 zs.win, .int .i64 zs.ace, .int .u32 zs.ce, .int .u32 zs.sent, .int .u32 zs.echo, .slice G8 m8 d8, .slice R8 k8 q8] 26)
        go_wp2_with fail
        go_ret
        exact ⟨by simp, b9⟩
      · rw [hg1] at h8
        obtain ⟨G8, m8, d8, R8, k8, q8, rfl, sg8, sl8, hb8⟩ := h8
        dsimp only at sg8 sl8 ⊢
        have b8 := b7.trans (hb8.mono hsz7)
        have hsz8 : B ≤ w8.heap.size := by have := b8.size; omega
        have v9 := Bx.new w8 26 [.int .i64 (parS l).kind, .int .i64 (parS l).sub, .bool (parS l).fin, .bool (parS l).ecn, .int .u32 (parS l).seq, .int .u32 (parS l).dsn, .int .u32 (parS l).got, .int .u32 (parS l).dgot, .int .i64 (parS l).win, .int .i64 (parS l).ace, .int .u32 (parS l).ce, .int .u32 (parS l).sent, .int .u32 (parS l).echo, .slice G8 m8 d8, .slice R8 k8 q8]
        have b9 := b8.alloc hsz8 (.cells #[.int .i64 (parS l).kind, .int .i64 (parS l).sub, .bool (parS l).fin, .bool (parS l).ecn, .int .u32 (parS l).seq, .int .u32 (parS l).dsn, .int .u32 (parS l).got, .int .u32 (parS l).dgot, .int .i64 (parS l).win, .int .i64 (parS l).ace, .int .u32 (parS l).ce, .int .u32 (parS l).sent, .int .u32 (parS l).echo, .slice G8 m8 d8, .slice R8 k8 q8] 26)
        have sg9 := sg8.alloc (.cells #[.int .i64 (parS l).kind, .int .i64 (parS l).sub, .bool (parS l).fin, .bool (parS l).ecn, .int .u32 (parS l).seq, .int .u32 (parS l).dsn, .int .u32 (parS l).got, .int .u32 (parS l).dgot, .int .i64 (parS l).win, .int .i64 (parS l).ace, .int .u32 (parS l).ce, .int .u32 (parS l).sent, .int .u32 (parS l).echo, .slice G8 m8 d8, .slice R8 k8 q8] 26)
        have sl9 := sl8.alloc (.cells #[.int .i64 (parS l).kind, .int .i64 (parS l).sub, .bool (parS l).fin, .bool (parS l).ecn, .int .u32 (parS l).seq, .int .u32 (parS l).dsn, .int .u32 (parS l).got, .int .u32 (parS l).dgot, .int .i64 (parS l).win, .int .i64 (parS l).ace, .int .u32 (parS l).ce, .int .u32 (parS l).sent, .int .u32 (parS l).echo, .slice G8 m8 d8, .slice R8 k8 q8] 26)
        have hput : putS (parS l) = (seal4 l, 0) := by rw [put_ok hv, henc]
        have hmay := (smay_iff _).2 hv
        have HPUT := Lib.hid hput; have HMAY := Lib.hid hmay; have HPW := Lib.hid (par_w h0.rd.small); have HV := Lib.hid hv
        clear hput hmay hg1 henc hv s7 hb7 hb8 sg8 sl8
        have hm8 : m8 ≤ 3 := by have := HV.out.sacks; rw [sg9.rd.len] at this; exact this
        have hk8 : k8 ≤ 1460 := by have := HV.out.bl; rw [sl9.rd.len] at this; exact this
        have hlq := sg9.rd.len; have hlb := sl9.rd.len
        have HLQ := Lib.hid hlq; have HLB := Lib.hid hlb; clear hlq hlb
        go_wp2_with (refine Bx.stepLoad rfl (.tmp 12) rfl rfl v9 rfl ?_)
        refine (lput_any (parS l).kind (parS l).sub (parS l).fin (parS l).ecn (parS l).seq (parS l).dsn (parS l).got (parS l).dgot (parS l).win (parS l).ace (parS l).ce (parS l).sent (parS l).echo G8 m8 d8 R8 k8 q8 (parS l).sacks (parS l).b _ sg9 sl9 (by omega) (by omega) HPW.out.seq HPW.out.dsn HPW.out.got HPW.out.dgot HPW.out.ce HPW.out.sent HPW.out.echo).mono ?_
        rintro e w10 h10
        have h10' : TellB _ w10 e (putS (parS l)) := h10
        rw [HPUT.out] at h10'
        clear h10
        obtain ⟨R10, m10, d10, rfl, s10, hb10⟩ := h10'
        dsimp only at s10 ⊢
        obtain rfl : m10 = n0 + 4 := by have := s10.rd.len; rw [seal4_len] at this; have := h0.rd.len; omega
        have v10 := v9.kept hb10
        have b10 := b9.trans (hb10.mono (by simp; omega))
        have hsz10 : B ≤ w10.heap.size := by have := b10.size; omega
        have t10 := h0.keep (by rw [hB]; exact b10)
        clear v9 b9 sg9 sl9 hb10
        go_wp2_with fail
        refine (seal_any R0 n0 c0 l _ t10 (by omega)).mono ?_
        rintro e w11 ⟨R11, d11, rfl, s11, hb11⟩
        have v11 := v10.kept hb11
        have b11 := b10.trans (hb11.mono hsz10)
        have hsz11 : B ≤ w11.heap.size := by have := b11.size; omega
        have s10' := s10.keep hb11
        go_wp2_with fail
        refine (same_yes R10 R11 (n0 + 4) d10 d11 (seal4 l) _ s10'.rd s11.rd (by omega)).mono ?_
        rintro e w12 ⟨rfl, hb12⟩
        have v12 := v11.kept hb12
        have b12 := b11.trans (hb12.mono hsz11)
        have hsz12 : B ≤ w12.heap.size := by have := b12.size; omega
        clear v10 v11 s10 s10' s11 t10 hb11 hb12
        have y0 := v12.cell 0 rfl; have y1 := v12.cell 1 rfl; have y2 := v12.cell 2 rfl; have y3 := v12.cell 3 rfl; have y4 := v12.cell 4 rfl; have y5 := v12.cell 5 rfl; have y6 := v12.cell 6 rfl; have y7 := v12.cell 7 rfl; have y8 := v12.cell 8 rfl; have y9 := v12.cell 9 rfl; have y10 := v12.cell 10 rfl; have y11 := v12.cell 11 rfl; have y12 := v12.cell 12 rfl; have y13 := v12.cell 13 rfl; have y14 := v12.cell 14 rfl
        go_wp2_with fail
        refine (lmay_any (parS l).kind (parS l).sub (parS l).fin (parS l).ecn (parS l).seq (parS l).dsn (parS l).got (parS l).dgot (parS l).win (parS l).ace (parS l).ce (parS l).sent (parS l).echo G8 m8 d8 R8 k8 q8 (parS l).sacks (parS l).b _ HLQ.out HLB.out (by omega) (by omega)).mono ?_
        rintro e w13 ⟨he, hb13⟩
        have he' : e = .returned (.bool (smay (parS l))) := he
        rw [HMAY.out] at he'
        subst he'
        go_wp2_with fail
        go_ret
        exact ⟨rfl, b12.trans (hb13.mono hsz12)⟩

end Go.Proofs.Ytfglagkpknpgdaa.wireBack
