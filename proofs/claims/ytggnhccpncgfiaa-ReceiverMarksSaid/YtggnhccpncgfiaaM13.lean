/- The texts SgRef4, Wi1, Wi6, RcSg, RcL5, PrB, TailV. -/
import Derived.Below
import Derived.BigQuiet
import Derived.Deep.AppendLies
import Derived.Deep.DeepCutAuto
import Derived.Deep.QuietTactic
import Derived.IntWalk
import Derived.Laws.BitsAllLaws
import Derived.Laws.OwnMore
import Derived.Laws.Rows
import Derived.Laws.Tables
import Derived.Lib.AppendZeros
import Derived.Lib.Hide
import Derived.OrdersHeld
import Derived.Outline
import Derived.RegionTactic
import Derived.Test.YtggnhccpncgfiaaProg
import Derived.WalkKit
import Derived.WalkSmall
import Derived.WalkSpells
import Derived.Test.YtggnhccpncgfiaaM02
import Derived.Test.YtggnhccpncgfiaaM03
import Derived.Test.YtggnhccpncgfiaaM11
import Derived.Test.YtggnhccpncgfiaaM12
set_option linter.all false
namespace Go.Proofs.Ytggnhccpncgfiaa
open Go.RowKit
/-- it tells: the same, where they are -/
def TellQ (w w' : World) (e : Ending) (x y : Sg) : Prop := ∃ b, e = .returned (.bool b) ∧ (x = y → b = true) ∧ Below w.heap.size w w'
set_option maxRecDepth 100000 in
set_option maxHeartbeats 8000000 in
theorem sgsame_any (kind1 sub1 : Int) (fin1 ecn1 : Bool) (seq1 dsn1 got1 dgot1 win1 ace1 ce1 sent1 echo1 : Int) (G1 : Option Addr) (m1 d1 : Nat) (A1 : Option Addr) (n1 c1 : Nat) (pl1 : List (Int × Int)) (bl1 : List Int) (kind2 sub2 : Int) (fin2 ecn2 : Bool) (seq2 dsn2 got2 dgot2 win2 ace2 ce2 sent2 echo2 : Int) (G2 : Option Addr) (m2 d2 : Nat) (A2 : Option Addr) (n2 c2 : Nat) (pl2 : List (Int × Int)) (bl2 : List Int) (w : World) (hp1 : Sr w G1 m1 d1 pl1) (hp2 : Sr w G2 m2 d2 pl2) (hb1 : Sl w A1 n1 c1 bl1) (hb2 : Sl w A2 n2 c2 bl2) (hm1 : m1 ≤ 1000000) (hm2 : m2 ≤ 1000000) (hn1 : n1 ≤ 1000000) :
    Calls Try.prog 14 #[.agg #[.int .i64 kind1, .int .i64 sub1, .bool fin1, .bool ecn1, .int .u32 seq1, .int .u32 dsn1, .int .u32 got1, .int .u32 dgot1, .int .i64 win1, .int .i64 ace1, .int .u32 ce1, .int .u32 sent1, .int .u32 echo1, .slice G1 m1 d1, .slice A1 n1 c1], .agg #[.int .i64 kind2, .int .i64 sub2, .bool fin2, .bool ecn2, .int .u32 seq2, .int .u32 dsn2, .int .u32 got2, .int .u32 dgot2, .int .i64 win2, .int .i64 ace2, .int .u32 ce2, .int .u32 sent2, .int .u32 echo2, .slice G2 m2 d2, .slice A2 n2 c2]] w fun e w' => TellQ w w' e ⟨kind1, sub1, fin1, ecn1, seq1, dsn1, got1, dgot1, win1, ace1, ce1, sent1, echo1, pl1, bl1⟩ ⟨kind2, sub2, fin2, ecn2, seq2, dsn2, got2, dgot2, win2, ace2, ce2, sent2, echo2, pl2, bl2⟩ := by
  unfold TellQ
  obtain ⟨B, hB⟩ : ∃ B, w.heap.size = B := ⟨_, rfl⟩
  rw [hB]
  obtain ⟨w0, hw0⟩ : ∃ w0, (w.alloc (.cells #[.int .i64 kind1, .int .i64 sub1, .bool fin1, .bool ecn1, .int .u32 seq1, .int .u32 dsn1, .int .u32 got1, .int .u32 dgot1, .int .i64 win1, .int .i64 ace1, .int .u32 ce1, .int .u32 sent1, .int .u32 echo1, .slice G1 m1 d1, .slice A1 n1 c1] 36)).alloc (.cells #[.int .i64 kind2, .int .i64 sub2, .bool fin2, .bool ecn2, .int .u32 seq2, .int .u32 dsn2, .int .u32 got2, .int .u32 dgot2, .int .i64 win2, .int .i64 ace2, .int .u32 ce2, .int .u32 sent2, .int .u32 echo2, .slice G2 m2 d2, .slice A2 n2 c2] 36) = w0 := ⟨_, rfl⟩
  have e1 : Bx w0 B 36 [.int .i64 kind1, .int .i64 sub1, .bool fin1, .bool ecn1, .int .u32 seq1, .int .u32 dsn1, .int .u32 got1, .int .u32 dgot1, .int .i64 win1, .int .i64 ace1, .int .u32 ce1, .int .u32 sent1, .int .u32 echo1, .slice G1 m1 d1, .slice A1 n1 c1] := by rw [← hw0, ← hB]; exact (Bx.new w 36 [.int .i64 kind1, .int .i64 sub1, .bool fin1, .bool ecn1, .int .u32 seq1, .int .u32 dsn1, .int .u32 got1, .int .u32 dgot1, .int .i64 win1, .int .i64 ace1, .int .u32 ce1, .int .u32 sent1, .int .u32 echo1, .slice G1 m1 d1, .slice A1 n1 c1]).alloc _
  have e2 : Bx w0 (B + 1) 36 [.int .i64 kind2, .int .i64 sub2, .bool fin2, .bool ecn2, .int .u32 seq2, .int .u32 dsn2, .int .u32 got2, .int .u32 dgot2, .int .i64 win2, .int .i64 ace2, .int .u32 ce2, .int .u32 sent2, .int .u32 echo2, .slice G2 m2 d2, .slice A2 n2 c2] := by
    rw [← hw0, ← hB]
    have := Bx.new (w.alloc (.cells #[.int .i64 kind1, .int .i64 sub1, .bool fin1, .bool ecn1, .int .u32 seq1, .int .u32 dsn1, .int .u32 got1, .int .u32 dgot1, .int .i64 win1, .int .i64 ace1, .int .u32 ce1, .int .u32 sent1, .int .u32 echo1, .slice G1 m1 d1, .slice A1 n1 c1] 36)) 36 [.int .i64 kind2, .int .i64 sub2, .bool fin2, .bool ecn2, .int .u32 seq2, .int .u32 dsn2, .int .u32 got2, .int .u32 dgot2, .int .i64 win2, .int .i64 ace2, .int .u32 ce2, .int .u32 sent2, .int .u32 echo2, .slice G2 m2 d2, .slice A2 n2 c2]
    have hsz : (w.alloc (.cells #[.int .i64 kind1, .int .i64 sub1, .bool fin1, .bool ecn1, .int .u32 seq1, .int .u32 dsn1, .int .u32 got1, .int .u32 dgot1, .int .i64 win1, .int .i64 ace1, .int .u32 ce1, .int .u32 sent1, .int .u32 echo1, .slice G1 m1 d1, .slice A1 n1 c1] 36)).heap.size = w.heap.size + 1 := by simp
    rw [hsz] at this; exact this
  have b0 : Below B w w0 := by rw [← hw0]; exact ((Below.refl _ _).alloc (by omega) _).alloc (by simp; omega) _
  have p1 : Sr w0 G1 m1 d1 pl1 := hp1.keep (by rw [hB]; exact b0)
  have p2 : Sr w0 G2 m2 d2 pl2 := hp2.keep (by rw [hB]; exact b0)
  have s1 : Sl w0 A1 n1 c1 bl1 := hb1.keep (by rw [hB]; exact b0)
  have s2 : Sl w0 A2 n2 c2 bl2 := hb2.keep (by rw [hB]; exact b0)
  have x0 := e1.cell 0 rfl; have z0 := e2.cell 0 rfl
  have x1 := e1.cell 1 rfl; have z1 := e2.cell 1 rfl
  have x2 := e1.cell 2 rfl; have z2 := e2.cell 2 rfl
  have x3 := e1.cell 3 rfl; have z3 := e2.cell 3 rfl
  have x4 := e1.cell 4 rfl; have z4 := e2.cell 4 rfl
  have x5 := e1.cell 5 rfl; have z5 := e2.cell 5 rfl
  have x6 := e1.cell 6 rfl; have z6 := e2.cell 6 rfl
  have x7 := e1.cell 7 rfl; have z7 := e2.cell 7 rfl
  have x8 := e1.cell 8 rfl; have z8 := e2.cell 8 rfl
  have x9 := e1.cell 9 rfl; have z9 := e2.cell 9 rfl
  have x10 := e1.cell 10 rfl; have z10 := e2.cell 10 rfl
  have x11 := e1.cell 11 rfl; have z11 := e2.cell 11 rfl
  have x12 := e1.cell 12 rfl; have z12 := e2.cell 12 rfl
  have x13 := e1.cell 13 rfl; have z13 := e2.cell 13 rfl
  have x14 := e1.cell 14 rfl; have z14 := e2.cell 14 rfl
  have P1 := Lib.hid p1; have P2 := Lib.hid p2; have S1 := Lib.hid s1; have S2 := Lib.hid s2; have E1 := Lib.hid e1; have E2 := Lib.hid e2
  clear e1 e2 hp1 hp2 hb1 hb2 p1 p2 s1 s2
  cases t0 : ((m1 : Int) != (m2 : Int)) with
  | true =>
    go_enter Try.func14, Try.ntmps14
    go_wp2
    go_ret
    exact ⟨false, rfl, fun h => (by have h9 : m1 = m2 := (by have h1 := P1.out.rd.len; have h2 := P2.out.rd.len; have h3 : pl1 = pl2 := congrArg Sg.sacks h; rw [h3] at h1; omega); rw [h9] at t0; simp at t0), b0⟩
  | false =>
  obtain rfl : m1 = m2 := by have h : (m1 : Int) = (m2 : Int) := by simpa using t0
                             omega
  cases t1 : (kind1 != kind2) with
  | true =>
    go_enter Try.func14, Try.ntmps14
    go_wp2
    go_ret
    exact ⟨false, rfl, fun h => (by have h3 : kind1 = kind2 := congrArg Sg.kind h; rw [h3] at t1; simp at t1), b0⟩
  | false =>
  obtain rfl : kind1 = kind2 := by simpa using t1
  cases t2 : (sub1 != sub2) with
  | true =>
    go_enter Try.func14, Try.ntmps14
    go_wp2
    go_ret
    exact ⟨false, rfl, fun h => (by have h3 : sub1 = sub2 := congrArg Sg.sub h; rw [h3] at t2; simp at t2), b0⟩
  | false =>
  obtain rfl : sub1 = sub2 := by simpa using t2
  by_cases t3 : fin1 = fin2
  case neg =>
    cases fin1 <;> cases fin2
    · exact absurd rfl t3
    · go_enter Try.func14, Try.ntmps14
      go_wp2
      go_ret
      exact ⟨false, rfl, fun h => (by have h3 : false = true := congrArg Sg.fin h; cases h3), b0⟩
    · go_enter Try.func14, Try.ntmps14
      go_wp2
      go_ret
      exact ⟨false, rfl, fun h => (by have h3 : true = false := congrArg Sg.fin h; cases h3), b0⟩
    · exact absurd rfl t3
  subst t3
  by_cases t4 : ecn1 = ecn2
  case neg =>
    cases ecn1 <;> cases ecn2
    · exact absurd rfl t4
    · go_enter Try.func14, Try.ntmps14
      go_wp2
      go_ret
      exact ⟨false, rfl, fun h => (by have h3 : false = true := congrArg Sg.ecn h; cases h3), b0⟩
    · go_enter Try.func14, Try.ntmps14
      go_wp2
      go_ret
      exact ⟨false, rfl, fun h => (by have h3 : true = false := congrArg Sg.ecn h; cases h3), b0⟩
    · exact absurd rfl t4
  subst t4
  cases t5 : (seq1 != seq2) with
  | true =>
    go_enter Try.func14, Try.ntmps14
    go_wp2
    go_ret
    exact ⟨false, rfl, fun h => (by have h3 : seq1 = seq2 := congrArg Sg.seq h; rw [h3] at t5; simp at t5), b0⟩
  | false =>
  obtain rfl : seq1 = seq2 := by simpa using t5
  cases t6 : (dsn1 != dsn2) with
  | true =>
    go_enter Try.func14, Try.ntmps14
    go_wp2
    go_ret
    exact ⟨false, rfl, fun h => (by have h3 : dsn1 = dsn2 := congrArg Sg.dsn h; rw [h3] at t6; simp at t6), b0⟩
  | false =>
  obtain rfl : dsn1 = dsn2 := by simpa using t6
  cases t7 : (got1 != got2) with
  | true =>
    go_enter Try.func14, Try.ntmps14
    go_wp2
    go_ret
    exact ⟨false, rfl, fun h => (by have h3 : got1 = got2 := congrArg Sg.got h; rw [h3] at t7; simp at t7), b0⟩
  | false =>
  obtain rfl : got1 = got2 := by simpa using t7
  cases t8 : (dgot1 != dgot2) with
  | true =>
    go_enter Try.func14, Try.ntmps14
    go_wp2
    go_ret
    exact ⟨false, rfl, fun h => (by have h3 : dgot1 = dgot2 := congrArg Sg.dgot h; rw [h3] at t8; simp at t8), b0⟩
  | false =>
  obtain rfl : dgot1 = dgot2 := by simpa using t8
  go_enter Try.func14, Try.ntmps14
  go_wp2_with fail
  clear x0 z0 x1 z1 x2 z2 x3 z3 x4 z4 x5 z5 x6 z6 x7 z7 x8 z8 x9 z9 x10 z10 x11 z11 x12 z12 x13 z13 x14 z14 hw0
  go_loopw [5] (fun i wr => ∃ q : Nat, q ≤ m1 ∧ i = .int .i64 (q : Int) ∧ (∀ j, j < q → pr pl1 j = pr pl2 j) ∧ Below w0.heap.size w0 wr) (fun i _ => m1 - (intOf i).toNat)
  case atStart => exact ⟨0, Nat.zero_le _, rfl, fun j hj => absurd hj (by omega), Below.refl _ _⟩
  case round =>
    obtain ⟨q, hq, rfl, hpre, hbr⟩ := hrel
    have b1 : Below B w wr := b0.trans (hbr.mono (by have := E1.out.lt; omega))
    have e1 := E1.out.kept hbr; have e2 := E2.out.kept hbr
    have HPRE := Lib.hid hpre; clear hpre
    have x13 := e1.cell 13 rfl; have z13 := e2.cell 13 rfl
    by_cases hlt : q < m1
    · have r1 := P1.out.rd.keep hbr
      have r2 := P2.out.rd.keep hbr
      obtain ⟨g1, o1, rfl, hl1, hc1⟩ := r1.at_ (by omega)
      obtain ⟨g2, o2, rfl, hl2, hc2⟩ := r2.at_ (by omega)
      have k1 := (hc1 q hlt).1; have k2 := (hc1 q hlt).2; have k3 := (hc2 q hlt).1; have k4 := (hc2 q hlt).2
      clear hc1 hc2 r1 r2
      have hno : ∀ (h : pl1 = pl2), pr pl1 q = pr pl2 q := fun h => by rw [h]
      obtain ⟨a1, ha1⟩ : ∃ a, (pr pl1 q).1 = a := ⟨_, rfl⟩
      obtain ⟨a2, ha2⟩ : ∃ a, (pr pl1 q).2 = a := ⟨_, rfl⟩
      obtain ⟨a3, ha3⟩ : ∃ a, (pr pl2 q).1 = a := ⟨_, rfl⟩
      obtain ⟨a4, ha4⟩ : ∃ a, (pr pl2 q).2 = a := ⟨_, rfl⟩
      rw [ha1] at k1; rw [ha2] at k2; rw [ha3] at k3; rw [ha4] at k4
      have hfin : pr pl1 q = (a1, a2) := Prod.ext ha1 ha2
      have hfin2 : pr pl2 q = (a3, a4) := Prod.ext ha3 ha4
      rw [hfin, hfin2] at hno
      have HNO := Lib.hid hno; have HF1 := Lib.hid hfin; have HF2 := Lib.hid hfin2; clear hno hfin hfin2 ha1 ha2 ha3 ha4
      by_cases h1 : a1 = a3
      · subst h1
        by_cases h2 : a2 = a4
        · subst h2
          go_wp2_with fail
          go_quiet (fail)
          go_wp2_with fail
          go_roundw
          case rel => exact ⟨q + 1, by omega, by go_num, fun j hj => (by
            by_cases hjq : j = q
            · subst hjq; rw [HF1.out, HF2.out]
            · exact HPRE.out j (by omega)), below_drewN hbr _⟩
          case measure => simp [intOf]; omega
        · have h2' : (a2 == a4) = false := by simpa using h2
          go_wp2_with fail
          go_quiet (fail)
          go_wp2_with fail
          go_ret
          exact ⟨false, rfl, fun h => (by have h3 := HNO.out (congrArg Sg.sacks h); simp at h3; exact absurd h3 h2), below_drewN b1 _⟩
      · have h1' : (a1 == a3) = false := by simpa using h1
        go_wp2_with fail
        go_quiet (fail)
        go_wp2_with fail
        go_ret
        exact ⟨false, rfl, fun h => (by have h3 := HNO.out (congrArg Sg.sacks h); simp at h3; exact absurd h3.1 h1), below_drewN b1 _⟩
    · obtain rfl : m1 = q := by omega
      have x14 := e1.cell 14 rfl; have z14 := e2.cell 14 rfl
      have sl1 := S1.out.keep hbr; have sl2 := S2.out.keep hbr
      go_wp2_with fail
      refine (bsame_any A1 A2 n1 c1 n2 c2 bl1 bl2 _ sl1.rd sl2.rd (by omega)).mono ?_
      rintro e w5 ⟨rfl, kk, hw5⟩
      have e3 : Bx w5 B 36 [.int .i64 kind1, .int .i64 sub1, .bool fin1, .bool ecn1, .int .u32 seq1, .int .u32 dsn1, .int .u32 got1, .int .u32 dgot1, .int .i64 win1, .int .i64 ace1, .int .u32 ce1, .int .u32 sent1, .int .u32 echo1, .slice G1 m1 d1, .slice A1 n1 c1] := by rw [hw5]; exact e1.kept (below_drewN (Below.refl _ _) kk)
      have e4 : Bx w5 (B + 1) 36 [.int .i64 kind1, .int .i64 sub1, .bool fin1, .bool ecn1, .int .u32 seq1, .int .u32 dsn1, .int .u32 got1, .int .u32 dgot1, .int .i64 win2, .int .i64 ace2, .int .u32 ce2, .int .u32 sent2, .int .u32 echo2, .slice G2 m1 d2, .slice A2 n2 c2] := by rw [hw5]; exact e2.kept (below_drewN (Below.refl _ _) kk)
      have b5 : Below B w w5 := by rw [hw5]; exact below_drewN b1 kk
      clear x13 z13 x14 z14 hw5
      have x8 := e3.cell 8 rfl; have z8 := e4.cell 8 rfl
      have x9 := e3.cell 9 rfl; have z9 := e4.cell 9 rfl
      have x10 := e3.cell 10 rfl; have z10 := e4.cell 10 rfl
      have x11 := e3.cell 11 rfl; have z11 := e4.cell 11 rfl
      have x12 := e3.cell 12 rfl; have z12 := e4.cell 12 rfl
      cases v0 : sameB bl1 bl2 with
      | false =>
        go_wp2_with fail
        go_ret
        exact ⟨false, rfl, fun h => (by have h3 : bl1 = bl2 := congrArg Sg.b h; rw [h3] at v0; unfold sameB at v0; simp at v0), b5⟩
      | true =>
      cases v1 : (win1 == win2) with
      | false =>
        go_wp2_with fail
        go_ret
        exact ⟨false, rfl, fun h => (by have h3 : win1 = win2 := congrArg Sg.win h; rw [h3] at v1; simp at v1), b5⟩
      | true =>
      cases v2 : (ace1 == ace2) with
      | false =>
        go_wp2_with fail
        go_ret
        exact ⟨false, rfl, fun h => (by have h3 : ace1 = ace2 := congrArg Sg.ace h; rw [h3] at v2; simp at v2), b5⟩
      | true =>
      cases v3 : (ce1 == ce2) with
      | false =>
        go_wp2_with fail
        go_ret
        exact ⟨false, rfl, fun h => (by have h3 : ce1 = ce2 := congrArg Sg.ce h; rw [h3] at v3; simp at v3), b5⟩
      | true =>
      cases v4 : (sent1 == sent2) with
      | false =>
        go_wp2_with fail
        go_ret
        exact ⟨false, rfl, fun h => (by have h3 : sent1 = sent2 := congrArg Sg.sent h; rw [h3] at v4; simp at v4), b5⟩
      | true =>
      cases v5 : (echo1 == echo2) with
      | false =>
        go_wp2_with fail
        go_ret
        exact ⟨false, rfl, fun h => (by have h3 : echo1 = echo2 := congrArg Sg.echo h; rw [h3] at v5; simp at v5), b5⟩
      | true =>
      go_wp2_with fail
      go_ret
      exact ⟨true, rfl, fun _ => rfl, b5⟩
end Go.Proofs.Ytggnhccpncgfiaa
namespace Go.Proofs.Ytggnhccpncgfiaa
open Go.RowKit
def inBw (n lim : Int) : Bool := decide (0 ≤ n ∧ n < lim)
theorem inBw_any (n lim : Int) (w : World) :
    Calls Try.prog 55 #[.int .i64 n, .int .i64 lim] w fun e w' => e = .returned (.bool (inBw n lim)) ∧ w = w' := by
  by_cases h : 0 ≤ n
  · have h' : decide (0 ≤ n) = true := decide_eq_true h
    have hx : inBw n lim = decide (n < lim) := by unfold inBw; simp [h]
    rw [hx]; clear hx
    go_enter Try.func55, Try.ntmps55
    go_wp2
    go_ret
    exact ⟨rfl, rfl⟩
  · have h' : decide (0 ≤ n) = false := decide_eq_false h
    have hx : inBw n lim = false := by unfold inBw; simp [h]
    rw [hx]; clear hx
    go_enter Try.func55, Try.ntmps55
    go_wp2
    go_ret
    exact ⟨rfl, rfl⟩
end Go.Proofs.Ytggnhccpncgfiaa
namespace Go.Proofs.Ytggnhccpncgfiaa
open Go.RowKit
theorem smay_parts (kind sub : Int) (fin ecn : Bool) (seq dsn got dgot win ace ce sent echo : Int) (m n : Nat) (pl : List (Int × Int)) (bl : List Int) (hpl : pl.length = m) (hbl : bl.length = n) :
    smay ⟨kind, sub, fin, ecn, seq, dsn, got, dgot, win, ace, ce, sent, echo, pl, bl⟩ = (inBw kind 5 && (inBw sub 4 && (inBw win 65536 && (inBw ace 8 && (decide (ce < 16777216) && (decide ((m : Int) ≤ 3) && decide ((n : Int) ≤ 1460))))))) := by
  unfold smay inBw
  subst hpl hbl
  simp only [← Bool.decide_and]
  exact decide_eq_decide.2 ⟨fun ⟨a, b, c, d, e, f, g, h, i, j, k⟩ => ⟨⟨a, by omega⟩, ⟨c, by omega⟩, ⟨e, by omega⟩, ⟨g, by omega⟩, i, by omega, by omega⟩, fun ⟨⟨a, b⟩, ⟨c, d⟩, ⟨e, f⟩, ⟨g, h⟩, i, j, k⟩ => ⟨a, by omega, c, by omega, e, by omega, g, by omega, i, by omega, by omega⟩⟩
set_option maxRecDepth 100000 in
set_option maxHeartbeats 4000000 in
theorem lmay_any (kind sub : Int) (fin ecn : Bool) (seq dsn got dgot win ace ce sent echo : Int) (G : Option Addr) (m d : Nat) (A : Option Addr) (n c : Nat) (pl : List (Int × Int)) (bl : List Int) (w : World) (hpl : pl.length = m) (hbl : bl.length = n) (hm : m ≤ 9223372036854775807) (hn : n ≤ 9223372036854775807) :
    Calls Try.prog 25 #[.agg #[.int .i64 kind, .int .i64 sub, .bool fin, .bool ecn, .int .u32 seq, .int .u32 dsn, .int .u32 got, .int .u32 dgot, .int .i64 win, .int .i64 ace, .int .u32 ce, .int .u32 sent, .int .u32 echo, .slice G m d, .slice A n c]] w fun e w' => e = .returned (.bool (smay ⟨kind, sub, fin, ecn, seq, dsn, got, dgot, win, ace, ce, sent, echo, pl, bl⟩)) ∧ Below w.heap.size w w' := by
  have e0 := Bx.new w 36 [.int .i64 kind, .int .i64 sub, .bool fin, .bool ecn, .int .u32 seq, .int .u32 dsn, .int .u32 got, .int .u32 dgot, .int .i64 win, .int .i64 ace, .int .u32 ce, .int .u32 sent, .int .u32 echo, .slice G m d, .slice A n c]
  have hb0 : Below w.heap.size w (w.alloc (.cells #[.int .i64 kind, .int .i64 sub, .bool fin, .bool ecn, .int .u32 seq, .int .u32 dsn, .int .u32 got, .int .u32 dgot, .int .i64 win, .int .i64 ace, .int .u32 ce, .int .u32 sent, .int .u32 echo, .slice G m d, .slice A n c] 36)) := (Below.refl _ _).alloc (Nat.le_refl _) _
  have x0 := e0.cell 0 rfl
  have x1 := e0.cell 1 rfl
  have x8 := e0.cell 8 rfl
  have x9 := e0.cell 9 rfl
  have x10 := e0.cell 10 rfl
  have x13 := e0.cell 13 rfl
  have x14 := e0.cell 14 rfl
  rw [smay_parts kind sub fin ecn seq dsn got dgot win ace ce sent echo m n pl bl hpl hbl]
  clear e0 hpl hbl
  cases h0 : inBw kind 5 with
  | false =>
    simp only [Bool.false_and, Bool.true_and]
    go_enter Try.func25, Try.ntmps25
    go_wp2_with (go_at_call 55; refine (inBw_any _ _ _).mono ?_; rintro e w1 ⟨rfl, rfl⟩)
    go_ret
    exact ⟨rfl, hb0⟩
  | true =>
    cases h1 : inBw sub 4 with
    | false =>
      simp only [Bool.false_and, Bool.true_and]
      go_enter Try.func25, Try.ntmps25
      go_wp2_with (go_at_call 55; refine (inBw_any _ _ _).mono ?_; rintro e w1 ⟨rfl, rfl⟩)
      go_ret
      exact ⟨rfl, hb0⟩
    | true =>
      cases h2 : inBw win 65536 with
      | false =>
        simp only [Bool.false_and, Bool.true_and]
        go_enter Try.func25, Try.ntmps25
        go_wp2_with (go_at_call 55; refine (inBw_any _ _ _).mono ?_; rintro e w1 ⟨rfl, rfl⟩)
        go_ret
        exact ⟨rfl, hb0⟩
      | true =>
        cases h3 : inBw ace 8 with
        | false =>
          simp only [Bool.false_and, Bool.true_and]
          go_enter Try.func25, Try.ntmps25
          go_wp2_with (go_at_call 55; refine (inBw_any _ _ _).mono ?_; rintro e w1 ⟨rfl, rfl⟩)
          go_ret
          exact ⟨rfl, hb0⟩
        | true =>
          cases h4 : decide (ce < 16777216) with
          | false =>
            have h4' := of_decide_eq_false h4
            simp only [Bool.false_and, Bool.true_and]
            go_enter Try.func25, Try.ntmps25
            go_wp2_with (go_at_call 55; refine (inBw_any _ _ _).mono ?_; rintro e w1 ⟨rfl, rfl⟩)
            go_ret
            exact ⟨rfl, hb0⟩
          | true =>
            have h4' := of_decide_eq_true h4
            cases h5 : decide ((m : Int) ≤ 3) with
            | false =>
              have h5' := of_decide_eq_false h5
              simp only [Bool.false_and, Bool.true_and]
              go_enter Try.func25, Try.ntmps25
              go_wp2_with (go_at_call 55; refine (inBw_any _ _ _).mono ?_; rintro e w1 ⟨rfl, rfl⟩)
              go_ret
              exact ⟨rfl, hb0⟩
            | true =>
              have h5' := of_decide_eq_true h5
              simp only [Bool.false_and, Bool.true_and]
              go_enter Try.func25, Try.ntmps25
              go_wp2_with (go_at_call 55; refine (inBw_any _ _ _).mono ?_; rintro e w1 ⟨rfl, rfl⟩)
              go_ret
              exact ⟨rfl, hb0⟩
end Go.Proofs.Ytggnhccpncgfiaa
namespace Go.Proofs.Ytggnhccpncgfiaa
open Go.RowKit
theorem wrmay_any (G : Option Addr) (m d : Nat) (A : Option Addr) (n c : Nat) (x : Sg) (w : World) (hsr : Sr w G m d x.sacks) (hsl : Sl w A n c x.b) :
    Calls Try.prog 25 #[.agg (sgs G m d A n c x).toArray] w fun e w' => e = .returned (.bool (smay x)) ∧ Below w.heap.size w w' := by
  have h1 := hsr.le; have h2 := hsr.max; have h3 := hsl.le; have h4 := hsl.big
  unfold maxLen at h2 h4
  exact lmay_any x.kind x.sub x.fin x.ecn x.seq x.dsn x.got x.dgot x.win x.ace x.ce x.sent x.echo G m d A n c x.sacks x.b w hsr.rd.len hsl.rd.len (by omega) (by omega)
theorem sgsame7_yes (G G' : Option Addr) (m d m' d' : Nat) (A A' : Option Addr) (n c n' c' : Nat) (x : Sg) (w : World) (hsr : Sr w G m d x.sacks) (hsl : Sl w A n c x.b) (hsr' : Sr w G' m' d' x.sacks) (hsl' : Sl w A' n' c' x.b) (hm : x.sacks.length ≤ 1000000) (hn : x.b.length ≤ 1000000) :
    Calls Try.prog 14 #[.agg (sgs G m d A n c x).toArray, .agg (sgs G' m' d' A' n' c' x).toArray] w fun e w' => e = .returned (.bool true) ∧ Below w.heap.size w w' := by
  have l1 := hsr.rd.len; have l2 := hsr'.rd.len; have l3 := hsl.rd.len
  refine (sgsame_any x.kind x.sub x.fin x.ecn x.seq x.dsn x.got x.dgot x.win x.ace x.ce x.sent x.echo G m d A n c x.sacks x.b x.kind x.sub x.fin x.ecn x.seq x.dsn x.got x.dgot x.win x.ace x.ce x.sent x.echo G' m' d' A' n' c' x.sacks x.b w hsr hsr' hsl hsl' (by omega) (by omega) (by omega)).mono ?_
  rintro e w' ⟨b, rfl, hb, hbel⟩
  exact ⟨by rw [hb rfl], hbel⟩
end Go.Proofs.Ytggnhccpncgfiaa
namespace Go.Proofs.Ytggnhccpncgfiaa
open Go.RowKit
theorem gb_trans {w w1 w2 : World} {r : Option Nat} (h : w.grownBy w1 r) (k : w1.grownBy w2 r) : w.grownBy w2 r := ⟨k.os.trans h.os, k.tape.trans h.tape, k.output.trans h.output, Nat.le_trans h.size k.size, fun i hi hne => (k.block i (Nat.lt_of_lt_of_le hi h.size) hne).trans (h.block i hi hne)⟩
theorem gb_below {w w1 : World} (r : Option Nat) (h : Below w.heap.size w w1) : w.grownBy w1 r := ⟨h.os, h.tape, h.output, h.size, fun i hi _ => h.block i hi⟩
theorem gb_drew {w w1 : World} {r : Option Nat} (h : w.grownBy w1 r) : w.grownBy w1.drew r := ⟨h.os, h.tape, h.output, h.size, h.block⟩
theorem gb_refl (w : World) (r : Option Nat) : w.grownBy w r := ⟨rfl, rfl, rfl, Nat.le_refl _, fun _ _ _ => rfl⟩
theorem gb_set (w : World) (X o : Nat) (u : Value) : w.grownBy (w.setCell ⟨X, o, none⟩ u) (some X) := sg_gset w ⟨X, o, none⟩ u
set_option maxRecDepth 100000 in
set_option maxHeartbeats 16000000 in
theorem rlcnt_any (X Q : Nat) (G : Option Addr) (m d : Nat) (A : Option Addr) (n c : Nat) (x : Sg) (k : Ms) (w : World) (hX : Bx w X 36 (sgs G m d A n c x)) (hQ : Bx w Q 27 (mcs k)) (hm : mmay k = true) :
    Calls Try.prog 97 #[.pointer (some ⟨X, 0, none⟩), .pointer (some ⟨Q, 0, none⟩)] w fun e w' => e = .returned (.tuple #[]) ∧ Bx w' X 36 (sgs G m d A n c (⟨x.kind, x.sub, x.fin, x.ecn, x.seq, x.dsn, x.got, x.dgot, x.win, k.pk % 8, k.bt % 16777216, x.sent, x.echo, x.sacks, x.b⟩ : Sg)) ∧ w.grownBy w' (some X) := by
  have ht : toldR k = (k.pk % 8, k.bt % 16777216) := by unfold toldR; rw [if_pos hm]
  have HT := Lib.hid ht
  clear ht hm
  go_enter Try.func97, Try.ntmps97
  go_wp2_with (refine rmk_load rfl (.tmp 1) rfl rfl hQ rfl ?_)
  refine (mktold_any k.pk k.bt k.ca k.md k.pt w).mono ?_
  rintro e w1 ⟨rfl, hb⟩
  rw [show toldR ⟨k.pk, k.bt, k.ca, k.md, k.pt⟩ = _ from HT.out]
  have x1 := hX.kept hb
  clear hX hQ
  have c9 := x1.cell 9 rfl
  have f9 := x1.free 9
  have c10 := x1.cell 10 rfl
  have f10 := x1.free 10
  go_wp2_with fail
  go_end0
  exact ⟨rfl, (x1.set 9 _).set 10 _, gb_trans (gb_trans (gb_below _ hb) (gb_set _ _ _ _)) (gb_set _ _ _ _)⟩
set_option maxRecDepth 100000 in
set_option maxHeartbeats 16000000 in
theorem rlspc_any (X P Q : Nat) (G' : Option Addr) (m' d' : Nat) (A' : Option Addr) (n' c' : Nat) (x : Sg) (fr : Int) (base : Int) (A : Option Addr) (n c : Nat) (G : Option Addr) (m d : Nat) (cap en : Int) (bl : List Int) (gl : List Sp) (w : World)
    (hX : Bx w X 36 (sgs G' m' d' A' n' c' x)) (hP : Bx w P 3 [.int .i64 fr]) (hQ : Bx w Q 25 [.int .i64 base, .slice A n c, .slice G m d, .int .i64 cap, .int .i64 en]) (hPX : P ≠ X) (hQX : Q ≠ X) (hb : Sl w A n c bl) (hg : Ss w G m d gl) (hbX : InP (fun b => b ≠ X) A n) (hgX : InP (fun b => b ≠ X) G m) (hv : Va ⟨base, bl, gl, cap, en⟩) (hfr : fr = farR ⟨base, bl, gl, cap, en⟩) :
    Calls Try.prog 96 #[.pointer (some ⟨X, 0, none⟩), .pointer (some ⟨P, 0, none⟩), .pointer (some ⟨Q, 0, none⟩)] w fun e w' => e = .returned (.tuple #[]) ∧ Bx w' X 36 (sgs G' m' d' A' n' c' (⟨x.kind, x.sub, x.fin, x.ecn, x.seq, x.dsn, x.got, l32 fr, winR ⟨base, bl, gl, cap, en⟩, x.ace, x.ce, x.sent, x.echo, x.sacks, x.b⟩ : Sg)) ∧ w.grownBy w' (some X) := by
  have HN := Lib.hid (va_n hv hb.rd.len)
  have htop := far_top hv
  rw [← hfr] at htop
  have hed : edgeR ⟨base, bl, gl, cap, en⟩ = edW ⟨base, bl, gl, cap, en⟩ := by unfold edgeR; rw [if_pos ((wmay_iff _).2 hv)]
  have HE := Lib.hid hed; have HV := Lib.hid hv; have HT := Lib.hid htop; have HF := Lib.hid hfr
  clear hed hv hfr htop
  go_enter Try.func96, Try.ntmps96
  have cp := hP.cell 0 rfl
  have c7 := hX.cell 7 rfl
  have f7 := hX.free 7
  go_wp2_with fail
  refine (low_any fr w).mono ?_
  rintro e w1 ⟨rfl, rfl⟩
  go_wp2_with fail
  obtain ⟨E, hE⟩ : ∃ E, edW ⟨base, bl, gl, cap, en⟩ = E := ⟨_, rfl⟩
  obtain ⟨M, hM⟩ : ∃ M, (if E - fr < 0 then 0 else E - fr) = M := ⟨_, rfl⟩
  obtain ⟨W, hW⟩ : ∃ W, (if 65535 < M then 65535 else M) = W := ⟨_, rfl⟩
  have HE := Lib.hid (HE.out.trans hE)
  have HW := Lib.hid (show W = winR ⟨base, bl, gl, cap, en⟩ by unfold winR; rw [← HF.out, hE]; rw [← hW]; split at hM <;> split <;> omega)
  have hbd : 0 ≤ E ∧ E ≤ 2305843009213693952 ∧ 0 ≤ fr ∧ fr ≤ 2305843009213693953 := by
    have h1 := HT.out; have h2 := HV.out.cap0; have h3 := HV.out.base0; dsimp only at h2 h3
    have h4 : edW ⟨base, bl, gl, cap, en⟩ = min (base + cap) 2305843009213693952 := rfl
    rw [hE] at h4
    omega
  have i1 : IntKind.i64.wrap (E - fr) = E - fr := IntWalk.i64_in _ (by omega)
  clear hE cp c7 f7
  have x1 := hX.set 7 (.int .u32 (fr % 4294967296))
  have x1 : Bx (w.setCell ⟨X, 7, none⟩ (.int .u32 (fr % 4294967296))) X 36 (sgs G' m' d' A' n' c' (⟨x.kind, x.sub, x.fin, x.ecn, x.seq, x.dsn, x.got, l32 fr, x.win, x.ace, x.ce, x.sent, x.echo, x.sacks, x.b⟩ : Sg)) := x1
  have r1 := gb_set w X 7 (.int .u32 (fr % 4294967296))
  have p1 := hP.grown r1 (fun e => hPX (Option.some.inj e)); have q1 := hQ.grown r1 (fun e => hQX (Option.some.inj e))
  have s1 := slp_grown hb hbX r1 (fun b hb e => hb (Option.some.inj e).symm)
  have g1 := ssp_grown hg hgX r1 (fun b hb e => hb (Option.some.inj e).symm)
  generalize w.setCell ⟨X, 7, none⟩ (.int .u32 (fr % 4294967296)) = w1 at x1 r1 p1 q1 s1 g1 ⊢
  clear hX hP hQ hPX hQX hb hg hbX hgX
  refine wp_region_tail 7 10 (fun (W : World) => Bx W X 36 (sgs G' m' d' A' n' c' (⟨x.kind, x.sub, x.fin, x.ecn, x.seq, x.dsn, x.got, l32 fr, x.win, x.ace, x.ce, x.sent, x.echo, x.sacks, x.b⟩ : Sg)) ∧ Bx W P 3 [.int .i64 fr] ∧ Bx W Q 25 [.int .i64 base, .slice A n c, .slice G m d, .int .i64 cap, .int .i64 en] ∧ Sl W A n c bl ∧ Ss W G m d gl ∧ w.grownBy W (some X)) (by kernel_rfl) (by rfl) (by decide) ?_
  have HS : ((fun (W : World) => Bx W X 36 (sgs G' m' d' A' n' c' (⟨x.kind, x.sub, x.fin, x.ecn, x.seq, x.dsn, x.got, l32 fr, x.win, x.ace, x.ce, x.sent, x.echo, x.sacks, x.b⟩ : Sg)) ∧ Bx W P 3 [.int .i64 fr] ∧ Bx W Q 25 [.int .i64 base, .slice A n c, .slice G m d, .int .i64 cap, .int .i64 en] ∧ Sl W A n c bl ∧ Ss W G m d gl ∧ w.grownBy W (some X))) _ := ⟨x1.drew, p1.drew, q1.drew, s1.keep (Below.refl _ _).drew, g1.keep (Below.refl _ _).drew, gb_drew r1⟩
  refine wpAnyT_take (i := 0) (v := .pointer (some ⟨X, 0, none⟩)) rfl (by kernel_rfl) (fun _ _ _ h => h) (Or.inl ⟨by rfl, fun w hSw => ?_⟩) HS ?_
  · clear hSw HS
    go_simp
  try simp only [Act.put, List.setIfInBounds_toArray, List.set_cons_zero, List.set_cons_succ]
  refine wpAnyT_take (i := 1) (v := .agg #[.int .i64 base, .slice A n c, .slice G m d, .int .i64 cap, .int .i64 en]) rfl (by kernel_rfl) (fun _ _ _ h => h) (rsub_y (cs := [.int .i64 base, .slice A n c, .slice G m d, .int .i64 cap, .int .i64 en]) (vs := [.int .i64 base, .slice A n c, .slice G m d, .int .i64 cap, .int .i64 en]) ir_weave (by rfl) (.tmp 2) rfl rfl (fun w hSw => hSw.2.2.1) rfl rfl) HS ?_
  try simp only [Act.put, List.setIfInBounds_toArray, List.set_cons_zero, List.set_cons_succ]
  refine wpAnyT_take (i := 3) (v := .int .i64 fr) rfl (by kernel_rfl) (fun _ _ _ h => h) (Or.inl ⟨by rfl, fun w hSw => ?_⟩) HS ?_
  · have cc := Bx.cell (hSw.2.1) 0 (v := .int .i64 fr) rfl
    clear hSw HS
    go_simp
  try simp only [Act.put, List.setIfInBounds_toArray, List.set_cons_zero, List.set_cons_succ]
  refine wpAnyT_one (k := 2) rfl (by kernel_rfl) (by decide) (fun K hK => ?_)
  go_simp
  refine (wedge_any base A n c G m d cap en bl gl _ HS.2.2.2.1 HS.2.2.2.2.1 HN.out).mono ?_
  rintro e w2 ⟨rfl, hb⟩
  rw [HE.out]
  have HS : ((fun (W : World) => Bx W X 36 (sgs G' m' d' A' n' c' (⟨x.kind, x.sub, x.fin, x.ecn, x.seq, x.dsn, x.got, l32 fr, x.win, x.ace, x.ce, x.sent, x.echo, x.sacks, x.b⟩ : Sg)) ∧ Bx W P 3 [.int .i64 fr] ∧ Bx W Q 25 [.int .i64 base, .slice A n c, .slice G m d, .int .i64 cap, .int .i64 en] ∧ Sl W A n c bl ∧ Ss W G m d gl ∧ w.grownBy W (some X))) _ := ⟨HS.1.kept hb, HS.2.1.kept hb, HS.2.2.1.kept hb, HS.2.2.2.1.keep hb, HS.2.2.2.2.1.keep hb, gb_trans HS.2.2.2.2.2 (gb_below _ hb)⟩
  refine hK _ _ HS ?_
  clear hK K
  try simp only [Act.put, List.setIfInBounds_toArray, List.set_cons_zero, List.set_cons_succ]
  refine wpAnyT_take (i := 4) (v := .int .i64 (E - fr)) rfl (by kernel_rfl) (fun _ _ _ h => h) (Or.inl ⟨by rfl, fun w hSw => ?_⟩) HS ?_
  · clear hSw HS
    go_simp
  try simp only [Act.put, List.setIfInBounds_toArray, List.set_cons_zero, List.set_cons_succ]
  refine wpAnyT_take (i := 5) (v := .int .i64 M) rfl (by kernel_rfl) (fun _ _ _ h => h) (Or.inl ⟨by rfl, fun w hSw => ?_⟩) HS ?_
  · clear hSw HS
    go_simp
  try simp only [Act.put, List.setIfInBounds_toArray, List.set_cons_zero, List.set_cons_succ]
  refine wpAnyT_take (i := 6) (v := .int .i64 W) rfl (by kernel_rfl) (fun _ _ _ h => h) (Or.inl ⟨by rfl, fun w hSw => ?_⟩) HS ?_
  · clear hSw HS
    go_simp
  try simp only [Act.put, List.setIfInBounds_toArray, List.set_cons_zero, List.set_cons_succ]
  refine ⟨by kernel_rfl, ?_⟩
  simp only [List.drop_succ_cons, List.drop_zero]
  obtain ⟨x2, _, _, _, _, r2⟩ := HS
  have c8 := x2.cell 8 rfl
  have f8 := x2.free 8
  clear x1 p1 q1 s1 g1 r1 hM hW i1
  go_wp2_with fail
  go_end0
  rw [← HW.out]
  exact ⟨rfl, x2.set 8 _, gb_trans r2 (gb_set _ _ _ _)⟩
end Go.Proofs.Ytggnhccpncgfiaa
namespace Go.Proofs.Ytggnhccpncgfiaa
open Go.RowKit
theorem info_pr : (Try.prog.info? 81).map (fun i => (i.zero, i.size, i.bytes)) = some (some (.agg #[.int .u32 0, .int .u32 0]), 2, 8) := by kernel_rfl
/-- a block of one pair of the call's own -/
theorem sr_one (w : World) {p q : Int} (hp : U32 p) (hq : U32 q) (t : TypeId) : Sr (w.alloc (.cells #[.int .u32 p, .int .u32 q] t)) (some ⟨w.heap.size, 0, none⟩) 1 1 [(p, q)] :=
  ⟨Nat.le_refl _, by unfold maxLen; omega, (fun e => by cases e), rfl, wideP_one hp hq, fun _ => ⟨w.heap.size, 0, rfl, by simp, fun i hi => by
    obtain rfl : i = 0 := by omega
    have h := Bx.new w t [.int .u32 p, .int .u32 q]
    exact ⟨h.cell 0 rfl, h.cell 1 rfl⟩⟩⟩
theorem Gotp.far {w w' : World} {base e : Nat} {v : Value} {n B : Nat} {l : List Pr} (h : Gotp w base e v n l) (hf : w.grownBy w' (some B)) (hB : B < base) : Gotp w' base e v n l :=
  ⟨h.row.kept hf (by
    rcases hv : v.ownBlock with _ | k
    · exact Or.inl rfl
    · right; intro hk; cases hk
      have := (h.row.lt B hv).1; omega), h.wide⟩
theorem Gotp.none (w : World) (base e : Nat) : Gotp w base e (.slice none 0 0) 0 [] := ⟨World.ownsRow_nil w base e 2, fun _ hx => by simp at hx⟩
/-- a slice of pairs of the call's own, at or beyond base -/
structure Sc (w : World) (base : Nat) (R : Option Addr) (m d : Nat) (l : List Pr) : Prop where
  sr : Sr w R m d l
  hi : ∀ b o, R = some ⟨b, o, none⟩ → base ≤ b
theorem Gotp.sc {w : World} {base e : Nat} {v : Value} {n : Nat} {l : List Pr} (h : Gotp w base e v n l) : ∃ A c, v = .slice A n c ∧ Sc w base A n c l := by
  obtain ⟨A, c, rfl, hs⟩ := h.ss
  exact ⟨A, c, rfl, hs, fun b o e => by subst e; exact (h.row.lt b rfl).1⟩
theorem run_appp {P : Program} (w : World) {A : Option Addr} {m c : Nat} {l : List Pr} (t ty : TypeId) (base : Nat) (e : TypeId) (ht : P.underlying t = some (.slice e)) (hinfo : (P.info? e).map (fun i => (i.zero, i.size, i.bytes)) = some (some (.agg #[.int .u32 0, .int .u32 0]), 2, 8))
    (v : Value) (n : Nat) (xs : List Pr) (hown : Gotp w base e v n xs) (hA : A = none → c = 0) (hr : Rp w A m l) (hsum : (n + m) * 8 ≤ 140737488355328) (hbase : base ≤ w.heap.size) :
    ∃ v' w', (Builtin.append_ #[t, t] ty #[v, .slice A m c]).run P w = .ok v' w' ∧ Gotp w' base e v' (n + m) (xs ++ l) ∧ w.grownBy w' v.ownBlock := by
  obtain ⟨i0, hi, hz0, hz1, hz2⟩ := info_parts hinfo
  cases A with
  | none =>
    have hc0 := hA rfl
    have hm0 : m = 0 := by
      rcases Nat.eq_zero_or_pos m with h0 | h0
      · exact h0
      · obtain ⟨b, o', e', _⟩ := hr.at_ h0; cases e'
    subst hm0 hc0
    have hl0 : l = [] := List.eq_nil_of_length_eq_zero hr.len
    subst hl0
    exact ⟨v, w, run_append_owned_none (P := P) (w := w) base t ty e i0 2 ht hi v n _ hown.row, by simpa using hown, World.grownBy.refl w _⟩
  | some ad =>
    have hnews : ∀ j u, (valsP l)[j]? = some u → w.cell? (ad.add j) = some u := by
      rcases Nat.eq_zero_or_pos m with h0 | h0
      · subst h0
        have hl0 : l = [] := List.eq_nil_of_length_eq_zero hr.len
        subst hl0
        intro j u hj; simp [valsP] at hj
      · obtain ⟨b, o', e', _, hc⟩ := hr.at_ h0
        cases e'
        exact news_of_rp hr.len hc
    obtain ⟨v', w', h1, h2, h3, _⟩ := run_append_own_at (P := P) w base t ty e i0 (.agg #[.int .u32 0, .int .u32 0]) 2 8 ht hi hz0 hz1 hz2 rfl (by omega) v n _ hown.row ad m c (valsP l) (by rw [valsP_length, hr.len]) hnews (valsP_cell l) (by unfold maxLen; omega) (by omega) hbase
    exact ⟨v', w', h1, ⟨by rw [valsP_app]; exact h2, wideP_app hown.wide hr.wide⟩, h3⟩
/-- append as a step of a region that draws its order -/
theorem step_appp {P : Program} (w : World) {A : Option Addr} {m c : Nat} {l : List Pr} {ops : Array Oper} {o : Oper} {a : Act} {K : Act → World → Prop} {Q : Exit → Act → World → Prop} {E : Prop} (hgd : o.guard = .none) (s x : Operand) (t : TypeId)
    (ho : o.op = .call { callee := .builtin .append, args := #[s, x], argTypes := #[t, t] })
    (base : Nat) (e : TypeId) (ht : P.underlying t = some (.slice e)) (hinfo : (P.info? e).map (fun i => (i.zero, i.size, i.bytes)) = some (some (.agg #[.int .u32 0, .int .u32 0]), 2, 8))
    (v : Value) (n : Nat) (xs : List Pr) (hs : a.eval s = v) (hx : a.eval x = .slice A m c) (hown : Gotp w base e v n xs) (hA : A = .none → c = 0) (hr : Rp w A m l) (hsum : (n + m) * 8 ≤ 140737488355328) (hbase : base ≤ w.heap.size)
    (h : ∀ v' w', Gotp w' base e v' (n + m) (xs ++ l) → w.grownBy w' v.ownBlock → K (a.put o.dst v') w') :
    if Region.wanted o (yielded ops a.tmps) = true then Oper.wp P o a w K Q else E := by
  have hw : Region.wanted o (yielded ops a.tmps) = true := by simp [Region.wanted, hgd]
  rw [if_pos hw]
  obtain ⟨v', w', hrun, h1, h2⟩ := run_appp (P := P) w t o.type base e ht hinfo v n xs hown hA hr hsum hbase
  exact Lib.wp_append_run w s x t t ho v (.slice A m c) hs hx v' w' hrun (h v' w' h1 h2)
end Go.Proofs.Ytggnhccpncgfiaa
namespace Go.Proofs.Ytggnhccpncgfiaa
open Go
section
variable {P : Program} {ops : Array Oper} {md : Region.Mode} {Q : Exit → Act → World → Prop} {S : World → Prop}
/-- none of bk has come up -/
def cleanB (bk : List Nat) (listed : Array Bool) : Bool := bk.all fun b => !(listed.getD b false)
theorem clean_set {bk : List Nat} {listed : Array Bool} {i : Nat} (h : i ∉ bk) : cleanB bk (listed.setIfInBounds i true) = cleanB bk listed := by
  unfold cleanB
  rw [Bool.eq_iff_iff, List.all_eq_true, List.all_eq_true]
  have hne : ∀ b ∈ bk, i ≠ b := fun b hb e => h (by rw [e]; exact hb)
  exact ⟨fun k b hb => by have := k b hb; rwa [getD_set_ne false (hne b hb)] at this, fun k b hb => by rw [getD_set_ne false (hne b hb)]; exact k b hb⟩
/-- whatever order is picked from here on; S behind each operation, as long as none of bk has come up -/
def wpAnyV (P : Program) (md : Region.Mode) (ops : Array Oper) (Q : Exit → Act → World → Prop) (S : World → Prop) (bk : List Nat) : Nat → Array Bool → Act → World → Prop
  | 0, listed, a, w => Region.ready md ops listed = [] ∧ Q .normal a w
  | fuel + 1, listed, a, w =>
    (Region.ready md ops listed = [] → Q .normal a w) ∧
    ∀ i ∈ Region.ready md ops listed, wpOp P ops Q i (fun a' w' => (cleanB bk (listed.setIfInBounds i true) = true → S w') ∧ wpAnyV P md ops Q S bk fuel (listed.setIfInBounds i true) a' w') a w
theorem wpAny_of_V {bk : List Nat} : ∀ (fuel : Nat) (listed : Array Bool) (a : Act) (w : World), wpAnyV P md ops Q S bk fuel listed a w → wpAny P md ops Q fuel listed a w
  | 0, _, _, _, h => h
  | fuel + 1, _, _, _, h => ⟨h.1, fun i hi => wpOp_mono (fun a' w' h' => wpAny_of_V fuel _ a' w' h'.2) (h.2 i hi)⟩
theorem wpAnyV_first {bk : List Nat} {i : Nat} {oi : Oper} {v : Value} (hi : ops[i]? = some oi) (hsel : ∀ (j : Nat) (o : Oper) cs b, ops[j]? = some o → o.op ≠ .select cs b)
    (hQ : ∀ c a w, Q (.panic c) (a.put oi.dst v) w → Q (.panic c) a w) (hib : i ∉ bk) (hbw : ∀ b ∈ bk, Region.waitsFor md ops b i = true) :
    ∀ (fuel : Nat) (listed : Array Bool) (a : Act) (w : World), cleanB bk listed = true →
      (∀ j oj, ops[j]? = some oj → j ≠ i → listed.getD j true = false → (∀ e ∈ oj.after, Region.binds md e = true → e.on ≠ i) → oi.apart ops oj = true) →
      i ∈ Region.ready md ops listed → YieldsIf P ops S oi v a → S w →
      wpAnyV P md ops Q S bk fuel (listed.setIfInBounds i true) (a.put oi.dst v) w → wpAnyV P md ops Q S bk (fuel + 1) listed a w := by
  intro fuel
  induction fuel with
  | zero =>
    intro listed a w _ _ hr hy hS H
    refine ⟨fun h => (by rw [h] at hr; cases hr), fun j hj => ?_⟩
    by_cases hji : j = i
    · subst hji; exact hy.wpOp hi hS ⟨fun _ => hS, H⟩
    · have := ready_mono hj hji
      rw [H.1] at this; cases this
  | succ f ih =>
    intro listed a w hcl hfree hr hy hS H
    have hun := (mem_ready.1 hr).1
    refine ⟨fun h => (by rw [h] at hr; cases hr), fun j hj => ?_⟩
    by_cases hji : j = i
    · subst hji; exact hy.wpOp hi hS ⟨fun _ => hS, H⟩
    · have h1 := H.2 j (ready_mono hj hji)
      obtain ⟨hjun, oj, hoj, hall⟩ := mem_ready.1 hj
      have hnot : ∀ e ∈ oj.after, Region.binds md e = true → e.on ≠ i := fun e he hb heq => by
        have h1 := hall e he hb
        rw [heq, getD_both hun] at h1
        cases h1
      have hjb : j ∉ bk := fun hb => by
        obtain ⟨o', ho', e, he, hbi, hon⟩ := Region.waitsFor_spec (hbw j hb)
        have : o' = oj := Option.some.inj (ho'.symm.trans hoj)
        subst this
        exact hnot e he hbi hon
      have hc1 : cleanB bk (listed.setIfInBounds j true) = true := by rw [clean_set hjb]; exact hcl
      have hc2 : cleanB bk ((listed.setIfInBounds i true).setIfInBounds j true) = true := by rw [clean_set hjb, clean_set hib]; exact hcl
      have h2 := wpOp_putIf hoj (hfree j oj hoj hji hjun hnot) (fun cs b => hsel i oi cs b hi) (fun cs b => hsel j oj cs b hoj) hQ hy h1
      have hfree' : ∀ k ok, ops[k]? = some ok → k ≠ i → (listed.setIfInBounds j true).getD k true = false →
          (∀ e ∈ ok.after, Region.binds md e = true → e.on ≠ i) → oi.apart ops ok = true := fun k ok hk hki hun hno => by
        refine hfree k ok hk hki ?_ hno
        by_cases hjk : j = k
        · subst hjk; exact hjun
        · rw [getD_set_ne true hjk] at hun; exact hun
      refine wpOp_mono (fun a' w' h3 => ?_) h2
      obtain ⟨hya, hsa, hva⟩ := h3
      have hS' := hsa hc2
      refine ⟨fun _ => hS', ih (listed.setIfInBounds j true) a' w' hc1 hfree' (ready_mono hr (Ne.symm hji)) hya hS' ?_⟩
      rw [Array.setIfInBounds_comm _ _ hji]
      exact hva
theorem wpAnyV_firstU {bk : List Nat} {i : Nat} {oi : Oper} {v : Value} (hi : ops[i]? = some oi) (hsel : ∀ (j : Nat) (o : Oper) cs b, ops[j]? = some o → o.op ≠ .select cs b)
    (hQ : ∀ c a w, Q (.panic c) (a.put oi.dst v) w → Q (.panic c) a w) (hib : i ∉ bk) :
    ∀ (fuel : Nat) (listed : Array Bool) (a : Act) (w : World), (cleanB bk listed = true → S w) →
      (∀ j oj, ops[j]? = some oj → j ≠ i → listed.getD j true = false → (∀ e ∈ oj.after, Region.binds md e = true → e.on ≠ i) → oi.apart ops oj = true) →
      i ∈ Region.ready md ops listed → YieldsIf P ops (fun _ => True) oi v a →
      wpAnyV P md ops Q S bk fuel (listed.setIfInBounds i true) (a.put oi.dst v) w → wpAnyV P md ops Q S bk (fuel + 1) listed a w := by
  intro fuel
  induction fuel with
  | zero =>
    intro listed a w hS _ hr hy H
    refine ⟨fun h => (by rw [h] at hr; cases hr), fun j hj => ?_⟩
    by_cases hji : j = i
    · subst hji; exact hy.wpOp hi trivial ⟨fun h => hS (by rwa [clean_set hib] at h), H⟩
    · have := ready_mono hj hji
      rw [H.1] at this; cases this
  | succ f ih =>
    intro listed a w hS hfree hr hy H
    have hun := (mem_ready.1 hr).1
    refine ⟨fun h => (by rw [h] at hr; cases hr), fun j hj => ?_⟩
    by_cases hji : j = i
    · subst hji; exact hy.wpOp hi trivial ⟨fun h => hS (by rwa [clean_set hib] at h), H⟩
    · have h1 := H.2 j (ready_mono hj hji)
      obtain ⟨hjun, oj, hoj, hall⟩ := mem_ready.1 hj
      have hnot : ∀ e ∈ oj.after, Region.binds md e = true → e.on ≠ i := fun e he hb heq => by
        have h1 := hall e he hb
        rw [heq, getD_both hun] at h1
        cases h1
      have hc : cleanB bk ((listed.setIfInBounds i true).setIfInBounds j true) = cleanB bk (listed.setIfInBounds j true) := by rw [← Array.setIfInBounds_comm _ _ hji, clean_set hib]
      have h2 := wpOp_putIf hoj (hfree j oj hoj hji hjun hnot) (fun cs b => hsel i oi cs b hi) (fun cs b => hsel j oj cs b hoj) hQ hy h1
      have hfree' : ∀ k ok, ops[k]? = some ok → k ≠ i → (listed.setIfInBounds j true).getD k true = false →
          (∀ e ∈ ok.after, Region.binds md e = true → e.on ≠ i) → oi.apart ops ok = true := fun k ok hk hki hun hno => by
        refine hfree k ok hk hki ?_ hno
        by_cases hjk : j = k
        · subst hjk; exact hjun
        · rw [getD_set_ne true hjk] at hun; exact hun
      refine wpOp_mono (fun a' w' h3 => ?_) h2
      obtain ⟨hya, hsa, hva⟩ := h3
      rw [hc] at hsa
      refine ⟨hsa, ih (listed.setIfInBounds j true) a' w' hsa hfree' (ready_mono hr (Ne.symm hji)) hya ?_⟩
      rw [Array.setIfInBounds_comm _ _ hji]
      exact hva
def takeVB (md : Region.Mode) (ops : Array Oper) (bk : List Nat) (listed : Array Bool) (i : Nat) : Bool :=
  Region.noSelect ops && Region.free md ops listed i && (Region.ready md ops listed).contains i && !(bk.contains i) && bk.all (fun b => Region.waitsFor md ops b i) && cleanB bk listed
def takeUB (md : Region.Mode) (ops : Array Oper) (bk : List Nat) (listed : Array Bool) (i : Nat) : Bool :=
  Region.noSelect ops && Region.free md ops listed i && (Region.ready md ops listed).contains i && !(bk.contains i)
variable {l : List Oper} {bk : List Nat} {i k : Nat} {oi o : Oper} {v : Value} {f : Nat} {listed : Array Bool} {a : Act} {w : World}
/-- an operation that looks at what is held comes first -/
theorem wpAnyV_take (hi' : l[i]? = some oi) (hB : takeVB md l.toArray bk listed i = true) (hQ : ∀ c a w, Q (.panic c) (a.put oi.dst v) w → Q (.panic c) a w) (hy : YieldsIf P l.toArray S oi v a) (hS : S w)
    (h : wpAnyV P md l.toArray Q S bk f (listed.setIfInBounds i true) (a.put oi.dst v) w) : wpAnyV P md l.toArray Q S bk (f + 1) listed a w := by
  have hi : l.toArray[i]? = some oi := by simpa using hi'
  simp only [takeVB, Bool.and_eq_true, Bool.not_eq_true'] at hB
  obtain ⟨⟨⟨⟨⟨b0, b1⟩, b2⟩, b3⟩, b4⟩, b5⟩ := hB
  exact wpAnyV_first hi (Region.noSelect_spec b0) hQ (by simpa using b3) (fun b hb => List.all_eq_true.1 b4 b hb) f listed a w b5 (Region.free_spec hi b1) (by simpa using b2) hy hS h
/-- an operation that looks at no memory comes first -/
theorem wpAnyV_takeU (hi' : l[i]? = some oi) (hB : takeUB md l.toArray bk listed i = true) (hQ : ∀ c a w, Q (.panic c) (a.put oi.dst v) w → Q (.panic c) a w) (hy : YieldsIf P l.toArray (fun _ => True) oi v a) (hS : S w)
    (h : wpAnyV P md l.toArray Q S bk f (listed.setIfInBounds i true) (a.put oi.dst v) w) : wpAnyV P md l.toArray Q S bk (f + 1) listed a w := by
  have hi : l.toArray[i]? = some oi := by simpa using hi'
  simp only [takeUB, Bool.and_eq_true, Bool.not_eq_true'] at hB
  obtain ⟨⟨⟨b0, b1⟩, b2⟩, b3⟩ := hB
  exact wpAnyV_firstU hi (Region.noSelect_spec b0) hQ (by simpa using b3) f listed a w (fun _ => hS) (Region.free_spec hi b1) (by simpa using b2) hy h
/-- the same where one of bk has come up -/
theorem wpAnyV_takeN (hi' : l[i]? = some oi) (hB : (takeUB md l.toArray bk listed i && !(cleanB bk listed)) = true) (hQ : ∀ c a w, Q (.panic c) (a.put oi.dst v) w → Q (.panic c) a w) (hy : YieldsIf P l.toArray (fun _ => True) oi v a)
    (h : wpAnyV P md l.toArray Q S bk f (listed.setIfInBounds i true) (a.put oi.dst v) w) : wpAnyV P md l.toArray Q S bk (f + 1) listed a w := by
  have hi : l.toArray[i]? = some oi := by simpa using hi'
  simp only [takeUB, Bool.and_eq_true, Bool.not_eq_true'] at hB
  obtain ⟨⟨⟨⟨b0, b1⟩, b2⟩, b3⟩, b5⟩ := hB
  exact wpAnyV_firstU hi (Region.noSelect_spec b0) hQ (by simpa using b3) f listed a w (fun h => by rw [b5] at h; cases h) (Region.free_spec hi b1) (by simpa using b2) hy h
/-- one alone may come up -/
theorem wpAnyV_one (hk' : l[k]? = some o) (hr : Region.ready md l.toArray listed = [k])
    (h : ∀ K : Act → World → Prop, (∀ a' w', S w' → wpAnyV P md l.toArray Q S bk f (listed.setIfInBounds k true) a' w' → K a' w') → if Region.wanted o (yielded l.toArray a.tmps) = true then Oper.wp P o a w K Q else K (a.put o.dst undef) w) :
    wpAnyV P md l.toArray Q S bk (f + 1) listed a w := by
  have hk : l.toArray[k]? = some o := by simpa using hk'
  refine ⟨fun h0 => (by rw [hr] at h0; cases h0), fun i hi => ?_⟩
  rw [hr] at hi
  obtain rfl : i = k := by simpa using hi
  have := h (fun a' w' => (cleanB bk (listed.setIfInBounds i true) = true → S w') ∧ wpAnyV P md l.toArray Q S bk f (listed.setIfInBounds i true) a' w') (fun a' w' h1 h2 => ⟨fun _ => h1, h2⟩)
  unfold wpOp
  simp only [hk]
  split
  · next hw => rw [if_pos hw] at this; exact .inl this
  · next hw => rw [if_neg hw] at this; exact this
/-- one of bk, or one behind it, alone may come up -/
theorem wpAnyV_end (hk' : l[k]? = some o) (hr : (decide (Region.ready md l.toArray listed = [k]) && !(cleanB bk (listed.setIfInBounds k true))) = true)
    (h : ∀ K : Act → World → Prop, (∀ a' w', wpAnyV P md l.toArray Q S bk f (listed.setIfInBounds k true) a' w' → K a' w') → if Region.wanted o (yielded l.toArray a.tmps) = true then Oper.wp P o a w K Q else K (a.put o.dst undef) w) :
    wpAnyV P md l.toArray Q S bk (f + 1) listed a w := by
  have hk : l.toArray[k]? = some o := by simpa using hk'
  simp only [Bool.and_eq_true, decide_eq_true_eq, Bool.not_eq_true'] at hr
  obtain ⟨hr, hc⟩ := hr
  refine ⟨fun h0 => (by rw [hr] at h0; cases h0), fun i hi => ?_⟩
  rw [hr] at hi
  obtain rfl : i = k := by simpa using hi
  have := h (fun a' w' => (cleanB bk (listed.setIfInBounds i true) = true → S w') ∧ wpAnyV P md l.toArray Q S bk f (listed.setIfInBounds i true) a' w') (fun a' w' h2 => ⟨fun h => absurd (hc.symm.trans h) (by simp), h2⟩)
  unfold wpOp
  simp only [hk]
  split
  · next hw => rw [if_pos hw] at this; exact .inl this
  · next hw => rw [if_neg hw] at this; exact this
/-- the beginning -/
theorem wp_region_V {id : Nat} (bk : List Nat) (m : Nat) (S : World → Prop) (hm : P.follows .mixedOrders = true) (hl : l.length = m)
    (h : wpAnyV P .any l.toArray Q S bk m (Array.replicate m false) a w.drew) : (Code.region id l.toArray true).wp P Q a w := by
  refine wp_region_any hm ?_
  have := wpAny_of_V _ _ _ _ h
  rw [← hl] at this
  simpa using this
end
end Go.Proofs.Ytggnhccpncgfiaa
