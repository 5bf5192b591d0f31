/- The reference of package wire: Same as a contract of the call. -/
import Derived.Test.YtfglagkpknpgdaaProg
import Derived.Test.YtfglagkpknpgdaaSgRef1
import Derived.Test.YtfglagkpknpgdaaPr
import Derived.WalkKit
import Derived.WalkSpells
import Derived.WalkSmall
import Derived.Lib.Hide
import Derived.Below
import Derived.Outline
import Derived.Deep.QuietTactic
import Derived.BigQuiet
namespace Go.Proofs.Ytfglagkpknpgdaa
open Go.RowKit
set_option linter.unusedVariables false
set_option linter.unusedSimpArgs false

/-- it tells: the same, where they are -/
def TellQ (w w' : World) (e : Ending) (x y : Sg) : Prop := ∃ b, e = .returned (.bool b) ∧ (x = y → b = true) ∧ Below w.heap.size w w'

set_option maxRecDepth 100000 in
set_option maxHeartbeats 8000000 in
theorem sgsame_any (kind1 sub1 : Int) (fin1 ecn1 : Bool) (seq1 dsn1 got1 dgot1 win1 ace1 ce1 sent1 echo1 : Int) (G1 : Option Addr) (m1 d1 : Nat) (A1 : Option Addr) (n1 c1 : Nat) (pl1 : List (Int × Int)) (bl1 : List Int) (kind2 sub2 : Int) (fin2 ecn2 : Bool) (seq2 dsn2 got2 dgot2 win2 ace2 ce2 sent2 echo2 : Int) (G2 : Option Addr) (m2 d2 : Nat) (A2 : Option Addr) (n2 c2 : Nat) (pl2 : List (Int × Int)) (bl2 : List Int) (w : World) (hp1 : Sr w G1 m1 d1 pl1) (hp2 : Sr w G2 m2 d2 pl2) (hb1 : Sl w A1 n1 c1 bl1) (hb2 : Sl w A2 n2 c2 bl2) (hm1 : m1 ≤ 1000000) (hm2 : m2 ≤ 1000000) (hn1 : n1 ≤ 1000000) :
    Calls Try.prog 17 #[.agg #[.int .i64 kind1, .int .i64 sub1, .bool fin1, .bool ecn1, .int .u32 seq1, .int .u32 dsn1, .int .u32 got1, .int .u32 dgot1, .int .i64 win1, .int .i64 ace1, .int .u32 ce1, .int .u32 sent1, .int .u32 echo1, .slice G1 m1 d1, .slice A1 n1 c1], .agg #[.int .i64 kind2, .int .i64 sub2, .bool fin2, .bool ecn2, .int .u32 seq2, .int .u32 dsn2, .int .u32 got2, .int .u32 dgot2, .int .i64 win2, .int .i64 ace2, .int .u32 ce2, .int .u32 sent2, .int .u32 echo2, .slice G2 m2 d2, .slice A2 n2 c2]] w fun e w' => TellQ w w' e ⟨kind1, sub1, fin1, ecn1, seq1, dsn1, got1, dgot1, win1, ace1, ce1, sent1, echo1, pl1, bl1⟩ ⟨kind2, sub2, fin2, ecn2, seq2, dsn2, got2, dgot2, win2, ace2, ce2, sent2, echo2, pl2, bl2⟩ := by
  unfold TellQ
  obtain ⟨B, hB⟩ : ∃ B, w.heap.size = B := ⟨_, rfl⟩
  rw [hB]
  obtain ⟨w0, hw0⟩ : ∃ w0, (w.alloc (.cells #[.int .i64 kind1, .int .i64 sub1, .bool fin1, .bool ecn1, .int .u32 seq1, .int .u32 dsn1, .int .u32 got1, .int .u32 dgot1, .int .i64 win1, .int .i64 ace1, .int .u32 ce1, .int .u32 sent1, .int .u32 echo1, .slice G1 m1 d1, .slice A1 n1 c1] 26)).alloc (.cells #[.int .i64 kind2, .int .i64 sub2, .bool fin2, .bool ecn2, .int .u32 seq2, .int .u32 dsn2, .int .u32 got2, .int .u32 dgot2, .int .i64 win2, .int .i64 ace2, .int .u32 ce2, .int .u32 sent2, .int .u32 echo2, .slice G2 m2 d2, .slice A2 n2 c2] 26) = w0 := ⟨_, rfl⟩
  have e1 : Bx w0 B 26 [.int .i64 kind1, .int .i64 sub1, .bool fin1, .bool ecn1, .int .u32 seq1, .int .u32 dsn1, .int .u32 got1, .int .u32 dgot1, .int .i64 win1, .int .i64 ace1, .int .u32 ce1, .int .u32 sent1, .int .u32 echo1, .slice G1 m1 d1, .slice A1 n1 c1] := by rw [← hw0, ← hB]; exact (Bx.new w 26 [.int .i64 kind1, .int .i64 sub1, .bool fin1, .bool ecn1, .int .u32 seq1, .int .u32 dsn1, .int .u32 got1, .int .u32 dgot1, .int .i64 win1, .int .i64 ace1, .int .u32 ce1, .int .u32 sent1, .int .u32 echo1, .slice G1 m1 d1, .slice A1 n1 c1]).alloc _
  have e2 : Bx w0 (B + 1) 26 [.int .i64 kind2, .int .i64 sub2, .bool fin2, .bool ecn2, .int .u32 seq2, .int .u32 dsn2, .int .u32 got2, .int .u32 dgot2, .int .i64 win2, .int .i64 ace2, .int .u32 ce2, .int .u32 sent2, .int .u32 echo2, .slice G2 m2 d2, .slice A2 n2 c2] := by
    rw [← hw0, ← hB]
    have := Bx.new (w.alloc (.cells #[.int .i64 kind1, .int .i64 sub1, .bool fin1, .bool ecn1, .int .u32 seq1, .int .u32 dsn1, .int .u32 got1, .int .u32 dgot1, .int .i64 win1, .int .i64 ace1, .int .u32 ce1, .int .u32 sent1, .int .u32 echo1, .slice G1 m1 d1, .slice A1 n1 c1] 26)) 26 [.int .i64 kind2, .int .i64 sub2, .bool fin2, .bool ecn2, .int .u32 seq2, .int .u32 dsn2, .int .u32 got2, .int .u32 dgot2, .int .i64 win2, .int .i64 ace2, .int .u32 ce2, .int .u32 sent2, .int .u32 echo2, .slice G2 m2 d2, .slice A2 n2 c2]
    have hsz : (w.alloc (.cells #[.int .i64 kind1, .int .i64 sub1, .bool fin1, .bool ecn1, .int .u32 seq1, .int .u32 dsn1, .int .u32 got1, .int .u32 dgot1, .int .i64 win1, .int .i64 ace1, .int .u32 ce1, .int .u32 sent1, .int .u32 echo1, .slice G1 m1 d1, .slice A1 n1 c1] 26)).heap.size = w.heap.size + 1 := by simp
    rw [hsz] at this; exact this
  have b0 : Below B w w0 := by rw [← hw0]; exact ((Below.refl _ _).alloc (by omega) _).alloc (by simp; omega) _
  have p1 : Sr w0 G1 m1 d1 pl1 := hp1.keep (by rw [hB]; exact b0)
  have p2 : Sr w0 G2 m2 d2 pl2 := hp2.keep (by rw [hB]; exact b0)
  have s1 : Sl w0 A1 n1 c1 bl1 := hb1.keep (by rw [hB]; exact b0)
  have s2 : Sl w0 A2 n2 c2 bl2 := hb2.keep (by rw [hB]; exact b0)
  have x0 := e1.cell 0 rfl; have z0 := e2.cell 0 rfl
  have x1 := e1.cell 1 rfl; have z1 := e2.cell 1 rfl
  have x2 := e1.cell 2 rfl; have z2 := e2.cell 2 rfl
  have x3 := e1.cell 3 rfl; have z3 := e2.cell 3 rfl
  have x4 := e1.cell 4 rfl; have z4 := e2.cell 4 rfl
  have x5 := e1.cell 5 rfl; have z5 := e2.cell 5 rfl
  have x6 := e1.cell 6 rfl; have z6 := e2.cell 6 rfl
  have x7 := e1.cell 7 rfl; have z7 := e2.cell 7 rfl
  have x8 := e1.cell 8 rfl; have z8 := e2.cell 8 rfl
  have x9 := e1.cell 9 rfl; have z9 := e2.cell 9 rfl
  have x10 := e1.cell 10 rfl; have z10 := e2.cell 10 rfl
  have x11 := e1.cell 11 rfl; have z11 := e2.cell 11 rfl
  have x12 := e1.cell 12 rfl; have z12 := e2.cell 12 rfl
  have x13 := e1.cell 13 rfl; have z13 := e2.cell 13 rfl
  have x14 := e1.cell 14 rfl; have z14 := e2.cell 14 rfl
  have P1 := Lib.hid p1; have P2 := Lib.hid p2; have S1 := Lib.hid s1; have S2 := Lib.hid s2; have E1 := Lib.hid e1; have E2 := Lib.hid e2
  clear e1 e2 hp1 hp2 hb1 hb2 p1 p2 s1 s2
  cases t0 : ((m1 : Int) != (m2 : Int)) with
  | true =>
    go_enter Try.func17, Try.ntmps17
    go_wp2
    go_ret
    exact ⟨false, rfl, fun h => (by have h9 : m1 = m2 := (by have h1 := P1.out.rd.len; have h2 := P2.out.rd.len; have h3 : pl1 = pl2 := congrArg Sg.sacks h; rw [h3] at h1; omega); rw [h9] at t0; simp at t0), b0⟩
  | false =>
  obtain rfl : m1 = m2 := by have h : (m1 : Int) = (m2 : Int) := by simpa using t0
                             omega
  cases t1 : (kind1 != kind2) with
  | true =>
    go_enter Try.func17, Try.ntmps17
    go_wp2
    go_ret
    exact ⟨false, rfl, fun h => (by have h3 : kind1 = kind2 := congrArg Sg.kind h; rw [h3] at t1; simp at t1), b0⟩
  | false =>
  obtain rfl : kind1 = kind2 := by simpa using t1
  cases t2 : (sub1 != sub2) with
  | true =>
    go_enter Try.func17, Try.ntmps17
    go_wp2
    go_ret
    exact ⟨false, rfl, fun h => (by have h3 : sub1 = sub2 := congrArg Sg.sub h; rw [h3] at t2; simp at t2), b0⟩
  | false =>
  obtain rfl : sub1 = sub2 := by simpa using t2
  by_cases t3 : fin1 = fin2
  case neg =>
    cases fin1 <;> cases fin2
    · exact absurd rfl t3
    · go_enter Try.func17, Try.ntmps17
      go_wp2
      go_ret
      exact ⟨false, rfl, fun h => (by have h3 : false = true := congrArg Sg.fin h; cases h3), b0⟩
    · go_enter Try.func17, Try.ntmps17
      go_wp2
      go_ret
      exact ⟨false, rfl, fun h => (by have h3 : true = false := congrArg Sg.fin h; cases h3), b0⟩
    · exact absurd rfl t3
  subst t3
  by_cases t4 : ecn1 = ecn2
  case neg =>
    cases ecn1 <;> cases ecn2
    · exact absurd rfl t4
    · go_enter Try.func17, Try.ntmps17
      go_wp2
      go_ret
      exact ⟨false, rfl, fun h => (by have h3 : false = true := congrArg Sg.ecn h; cases h3), b0⟩
    · go_enter Try.func17, Try.ntmps17
      go_wp2
      go_ret
      exact ⟨false, rfl, fun h => (by have h3 : true = false := congrArg Sg.ecn h; cases h3), b0⟩
    · exact absurd rfl t4
  subst t4
  cases t5 : (seq1 != seq2) with
  | true =>
    go_enter Try.func17, Try.ntmps17
    go_wp2
    go_ret
    exact ⟨false, rfl, fun h => (by have h3 : seq1 = seq2 := congrArg Sg.seq h; rw [h3] at t5; simp at t5), b0⟩
  | false =>
  obtain rfl : seq1 = seq2 := by simpa using t5
  cases t6 : (dsn1 != dsn2) with
  | true =>
    go_enter Try.func17, Try.ntmps17
    go_wp2
    go_ret
    exact ⟨false, rfl, fun h => (by have h3 : dsn1 = dsn2 := congrArg Sg.dsn h; rw [h3] at t6; simp at t6), b0⟩
  | false =>
  obtain rfl : dsn1 = dsn2 := by simpa using t6
  cases t7 : (got1 != got2) with
  | true =>
    go_enter Try.func17, Try.ntmps17
    go_wp2
    go_ret
    exact ⟨false, rfl, fun h => (by have h3 : got1 = got2 := congrArg Sg.got h; rw [h3] at t7; simp at t7), b0⟩
  | false =>
  obtain rfl : got1 = got2 := by simpa using t7
  cases t8 : (dgot1 != dgot2) with
  | true =>
    go_enter Try.func17, Try.ntmps17
    go_wp2
    go_ret
    exact ⟨false, rfl, fun h => (by have h3 : dgot1 = dgot2 := congrArg Sg.dgot h; rw [h3] at t8; simp at t8), b0⟩
  | false =>
  obtain rfl : dgot1 = dgot2 := by simpa using t8
  go_enter Try.func17, Try.ntmps17
  go_wp2_with fail
  clear x0 z0 x1 z1 x2 z2 x3 z3 x4 z4 x5 z5 x6 z6 x7 z7 x8 z8 x9 z9 x10 z10 x11 z11 x12 z12 x13 z13 x14 z14 hw0
  go_loopw [5] (fun i wr => ∃ q : Nat, q ≤ m1 ∧ i = .int .i64 (q : Int) ∧ (∀ j, j < q → pr pl1 j = pr pl2 j) ∧ Below w0.heap.size w0 wr) (fun i _ => m1 - (intOf i).toNat)
  case atStart => exact ⟨0, Nat.zero_le _, rfl, fun j hj => absurd hj (by omega), Below.refl _ _⟩
  case round =>
    obtain ⟨q, hq, rfl, hpre, hbr⟩ := hrel
    have b1 : Below B w wr := b0.trans (hbr.mono (by have := E1.out.lt; omega))
    have e1 := E1.out.kept hbr; have e2 := E2.out.kept hbr
    have HPRE := Lib.hid hpre; clear hpre
    have x13 := e1.cell 13 rfl; have z13 := e2.cell 13 rfl
    by_cases hlt : q < m1
    · have r1 := P1.out.rd.keep hbr
      have r2 := P2.out.rd.keep hbr
      obtain ⟨g1, o1, rfl, hl1, hc1⟩ := r1.at_ (by omega)
      obtain ⟨g2, o2, rfl, hl2, hc2⟩ := r2.at_ (by omega)
      have k1 := (hc1 q hlt).1; have k2 := (hc1 q hlt).2; have k3 := (hc2 q hlt).1; have k4 := (hc2 q hlt).2
      clear hc1 hc2 r1 r2
      have hno : ∀ (h : pl1 = pl2), pr pl1 q = pr pl2 q := fun h => by rw [h]
      obtain ⟨a1, ha1⟩ : ∃ a, (pr pl1 q).1 = a := ⟨_, rfl⟩
      obtain ⟨a2, ha2⟩ : ∃ a, (pr pl1 q).2 = a := ⟨_, rfl⟩
      obtain ⟨a3, ha3⟩ : ∃ a, (pr pl2 q).1 = a := ⟨_, rfl⟩
      obtain ⟨a4, ha4⟩ : ∃ a, (pr pl2 q).2 = a := ⟨_, rfl⟩
      rw [ha1] at k1; rw [ha2] at k2; rw [ha3] at k3; rw [ha4] at k4
      have hfin : pr pl1 q = (a1, a2) := Prod.ext ha1 ha2
      have hfin2 : pr pl2 q = (a3, a4) := Prod.ext ha3 ha4
      rw [hfin, hfin2] at hno
      have HNO := Lib.hid hno; have HF1 := Lib.hid hfin; have HF2 := Lib.hid hfin2; clear hno hfin hfin2 ha1 ha2 ha3 ha4
      by_cases h1 : a1 = a3
      · subst h1
        by_cases h2 : a2 = a4
        · subst h2
          go_wp2_with fail
          go_quiet (fail)
          go_wp2_with fail
          go_roundw
          case rel => exact ⟨q + 1, by omega, by go_num, fun j hj => (by
            by_cases hjq : j = q
            · subst hjq; rw [HF1.out, HF2.out]
            · exact HPRE.out j (by omega)), below_drewN hbr _⟩
          case measure => simp [intOf]; omega
        · have h2' : (a2 == a4) = false := by simpa using h2
          go_wp2_with fail
          go_quiet (fail)
          go_wp2_with fail
          go_ret
          exact ⟨false, rfl, fun h => (by have h3 := HNO.out (congrArg Sg.sacks h); simp at h3; exact absurd h3 h2), below_drewN b1 _⟩
      · have h1' : (a1 == a3) = false := by simpa using h1
        go_wp2_with fail
        go_quiet (fail)
        go_wp2_with fail
        go_ret
        exact ⟨false, rfl, fun h => (by have h3 := HNO.out (congrArg Sg.sacks h); simp at h3; exact absurd h3.1 h1), below_drewN b1 _⟩
    · obtain rfl : m1 = q := by omega
      have x14 := e1.cell 14 rfl; have z14 := e2.cell 14 rfl
      have sl1 := S1.out.keep hbr; have sl2 := S2.out.keep hbr
      go_wp2_with fail
      refine (same_any A1 A2 n1 c1 n2 c2 bl1 bl2 _ sl1.rd sl2.rd (by omega)).mono ?_
      rintro e w5 ⟨rfl, kk, hw5⟩
      have e3 : Bx w5 B 26 [.int .i64 kind1, .int .i64 sub1, .bool fin1, .bool ecn1, .int .u32 seq1, .int .u32 dsn1, .int .u32 got1, .int .u32 dgot1, .int .i64 win1, .int .i64 ace1, .int .u32 ce1, .int .u32 sent1, .int .u32 echo1, .slice G1 m1 d1, .slice A1 n1 c1] := by rw [hw5]; exact e1.kept (below_drewN (Below.refl _ _) kk)
      have e4 : Bx w5 (B + 1) 26 [.int .i64 kind1, .int .i64 sub1, .bool fin1, .bool ecn1, .int .u32 seq1, .int .u32 dsn1, .int .u32 got1, .int .u32 dgot1, .int .i64 win2, .int .i64 ace2, .int .u32 ce2, .int .u32 sent2, .int .u32 echo2, .slice G2 m1 d2, .slice A2 n2 c2] := by rw [hw5]; exact e2.kept (below_drewN (Below.refl _ _) kk)
      have b5 : Below B w w5 := by rw [hw5]; exact below_drewN b1 kk
      clear x13 z13 x14 z14 hw5
      have x8 := e3.cell 8 rfl; have z8 := e4.cell 8 rfl
      have x9 := e3.cell 9 rfl; have z9 := e4.cell 9 rfl
      have x10 := e3.cell 10 rfl; have z10 := e4.cell 10 rfl
      have x11 := e3.cell 11 rfl; have z11 := e4.cell 11 rfl
      have x12 := e3.cell 12 rfl; have z12 := e4.cell 12 rfl
      cases v0 : sameB bl1 bl2 with
      | false =>
        go_wp2_with fail
        go_ret
        exact ⟨false, rfl, fun h => (by have h3 : bl1 = bl2 := congrArg Sg.b h; rw [h3] at v0; unfold sameB at v0; simp at v0), b5⟩
      | true =>
      cases v1 : (win1 == win2) with
      | false =>
        go_wp2_with fail
        go_ret
        exact ⟨false, rfl, fun h => (by have h3 : win1 = win2 := congrArg Sg.win h; rw [h3] at v1; simp at v1), b5⟩
      | true =>
      cases v2 : (ace1 == ace2) with
      | false =>
        go_wp2_with fail
        go_ret
        exact ⟨false, rfl, fun h => (by have h3 : ace1 = ace2 := congrArg Sg.ace h; rw [h3] at v2; simp at v2), b5⟩
      | true =>
      cases v3 : (ce1 == ce2) with
      | false =>
        go_wp2_with fail
        go_ret
        exact ⟨false, rfl, fun h => (by have h3 : ce1 = ce2 := congrArg Sg.ce h; rw [h3] at v3; simp at v3), b5⟩
      | true =>
      cases v4 : (sent1 == sent2) with
      | false =>
        go_wp2_with fail
        go_ret
        exact ⟨false, rfl, fun h => (by have h3 : sent1 = sent2 := congrArg Sg.sent h; rw [h3] at v4; simp at v4), b5⟩
      | true =>
      cases v5 : (echo1 == echo2) with
      | false =>
        go_wp2_with fail
        go_ret
        exact ⟨false, rfl, fun h => (by have h3 : echo1 = echo2 := congrArg Sg.echo h; rw [h3] at v5; simp at v5), b5⟩
      | true =>
      go_wp2_with fail
      go_ret
      exact ⟨true, rfl, fun _ => rfl, b5⟩
end Go.Proofs.Ytfglagkpknpgdaa
