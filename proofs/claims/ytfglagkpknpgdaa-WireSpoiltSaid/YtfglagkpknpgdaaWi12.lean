/- The landed package wire: Put as a contract of the call. -/
import Derived.Test.YtfglagkpknpgdaaProg
import Derived.Test.YtfglagkpknpgdaaWi10
import Derived.Test.YtfglagkpknpgdaaWi11
import Derived.WalkKit
import Derived.WalkSpells
import Derived.WalkSmall
import Derived.Lib.Hide
import Derived.Below
import Derived.Outline
namespace Go.Proofs.Ytfglagkpknpgdaa
open Go.RowKit
set_option linter.unusedVariables false
set_option linter.unusedSimpArgs false

def partsB (fl kind sub seq dsn got dgot win ce sent echo : Int) (m : Nat) (pl : List (Int × Int)) (bl : List Int) : List (List Int) :=
  [[16 * kind + sub], [fl], [win / 256, win % 256], be4 seq, be4 dsn, be4 got, be4 dgot, be3 ce, be4 sent, be4 echo, (m : Int) :: sackB pl, bl]
theorem partsB_flat (kind sub : Int) (fin ecn : Bool) (seq dsn got dgot win ace ce sent echo : Int) (m : Nat) (pl : List (Int × Int)) (bl : List Int) (hpl : pl.length = m) : (partsB (flagsS ⟨kind, sub, fin, ecn, seq, dsn, got, dgot, win, ace, ce, sent, echo, pl, bl⟩) kind sub seq dsn got dgot win ce sent echo m pl bl).flatten = encS ⟨kind, sub, fin, ecn, seq, dsn, got, dgot, win, ace, ce, sent, echo, pl, bl⟩ := by
  unfold partsB encS headS
  subst hpl
  simp
theorem flat_take {ls : List (List Int)} {q : Nat} {y : List Int} (h : ls[q]? = some y) : (ls.take (q + 1)).flatten = (ls.take q).flatten ++ y := by
  obtain ⟨hlt, rfl⟩ := List.getElem?_eq_some_iff.1 h
  rw [List.take_succ_eq_append_getElem hlt, List.flatten_append]; simp

/-- one part more is written -/
def TellS (w0 w' : World) (base : Nat) (e : Ending) (n : Nat) (l : List Int) : Prop := ∃ v, e = .returned v ∧ Got w' base v n l ∧ Below base w0 w'
theorem TellA.step {w0 w w' : World} {base : Nat} {bv : Value} {e : Ending} {n k : Nat} {l xs : List Int} (h : TellA w w' base bv e n l) (hg : Got w base bv k xs) (hb : Below base w0 w) (hz : base ≤ w.heap.size) : TellS w0 w' base e n l := by
  obtain ⟨v, h1, h2, h3, _⟩ := h
  exact ⟨v, h1, h2, hb.grown h3 hz (fun k hk => (hg.lt hk).1)⟩

set_option maxHeartbeats 1000000 in
theorem wr_part (fl kind sub : Int) (fin ecn : Bool) (seq dsn got dgot win ace ce sent echo : Int) (G : Option Addr) (m d : Nat) (A : Option Addr) (n c : Nat) (pl : List (Int × Int)) (bl : List Int) (us : U32 seq) (ud : U32 dsn) (ug : U32 got) (uh : U32 dgot) (uc : U32 ce) (ut : U32 sent) (ue : U32 echo) (hk0 : 0 ≤ kind) (hk1 : kind ≤ 4) (hs0 : 0 ≤ sub) (hs1 : sub ≤ 3) (hw0 : 0 ≤ win) (hw1 : win ≤ 65535) (hf0 : 0 ≤ fl) (hf1 : fl < 256) (hce : ce < 16777216) (hm : m ≤ 3) (hn : n ≤ 1460) (base : Nat) (v : Value) (N : Nat) (xs : List Int) (w0 w : World) (hs : Sr w0 G m d pl) (hl : Sl w0 A n c bl) (hw : Below base w0 w) (hb0 : w0.heap.size = base) (hg : Got w base v N xs) (hN : N ≤ 900000)
    (q : Nat) (hq : q < 12) (x : Value) (y : List Int) (hx : (partsV fl kind sub fin ecn seq dsn got dgot win ace ce sent echo G m d A n c)[q]? = some x) (hy : (partsB fl kind sub seq dsn got dgot win ce sent echo m pl bl)[q]? = some y) :
    Calls Try.prog 21 #[v, x] w fun e w' => TellS w0 w' base e (N + y.length) (xs ++ y) := by
  have hz : base ≤ w.heap.size := by rw [← hb0]; exact hw.size
  unfold partsV at hx
  unfold partsB at hy
  have hN' := hN
  replace hN : N ≤ 1000000 := by omega
  match q, hq with
  | 0, _ => cases hx; cases hy; exact (wr_byte (16 * kind + sub) base v N xs w hg hz hN (by omega) (by omega)).mono fun e w' h => h.step hg hw hz
  | 1, _ => cases hx; cases hy; exact (wr_byte fl base v N xs w hg hz hN hf0 hf1).mono fun e w' h => h.step hg hw hz
  | 2, _ => cases hx; cases hy; exact (wr_u16 win base v N xs w hg hz hN hw0 (by omega)).mono fun e w' h => h.step hg hw hz
  | 3, _ => cases hx; cases hy; exact (wr_u32 seq base v N xs w hg hz hN us.1 us.2).mono fun e w' h => h.step hg hw hz
  | 4, _ => cases hx; cases hy; exact (wr_u32 dsn base v N xs w hg hz hN ud.1 ud.2).mono fun e w' h => h.step hg hw hz
  | 5, _ => cases hx; cases hy; exact (wr_u32 got base v N xs w hg hz hN ug.1 ug.2).mono fun e w' h => h.step hg hw hz
  | 6, _ => cases hx; cases hy; exact (wr_u32 dgot base v N xs w hg hz hN uh.1 uh.2).mono fun e w' h => h.step hg hw hz
  | 7, _ => cases hx; cases hy; exact (wr_triple ce base v N xs w hg hz hN uc.1 hce).mono fun e w' h => h.step hg hw hz
  | 8, _ => cases hx; cases hy; exact (wr_u32 sent base v N xs w hg hz hN ut.1 ut.2).mono fun e w' h => h.step hg hw hz
  | 9, _ => cases hx; cases hy; exact (wr_u32 echo base v N xs w hg hz hN ue.1 ue.2).mono fun e w' h => h.step hg hw hz
  | 10, _ =>
    cases hx; cases hy
    refine (wr_pairs G m d pl base v N xs w0 w hs hw hb0 hm hg hN').mono ?_
    rintro e w' ⟨v', h1, h2, h3⟩
    refine ⟨v', h1, ?_, h3⟩
    rw [List.length_cons, sackB_len, hs.rd.len, show 8 * m + 1 = 1 + 8 * m by omega]
    exact h2
  | 11, _ =>
    cases hx; cases hy
    refine (wr_bytes A n c bl base v N xs w hg hz hN (hl.keep (by rw [hb0]; exact hw)) (by omega)).mono fun e w' h => ?_
    have := h.step hg hw hz
    rw [hl.rd.len]
    exact this
  | k + 12, h => exact absurd h (by omega)

set_option maxRecDepth 100000 in
set_option maxHeartbeats 4000000 in
theorem lput_any (kind sub : Int) (fin ecn : Bool) (seq dsn got dgot win ace ce sent echo : Int) (G : Option Addr) (m d : Nat) (A : Option Addr) (n c : Nat) (pl : List (Int × Int)) (bl : List Int) (w : World) (hpl : Sr w G m d pl) (hbl : Sl w A n c bl) (hm : m ≤ 9223372036854775807) (hn : n ≤ 9223372036854775807) (us : U32 seq) (ud : U32 dsn) (ug : U32 got) (uh : U32 dgot) (uc : U32 ce) (ut : U32 sent) (ue : U32 echo) :
    Calls Try.prog 10 #[.agg #[.int .i64 kind, .int .i64 sub, .bool fin, .bool ecn, .int .u32 seq, .int .u32 dsn, .int .u32 got, .int .u32 dgot, .int .i64 win, .int .i64 ace, .int .u32 ce, .int .u32 sent, .int .u32 echo, .slice G m d, .slice A n c]] w fun e w' => TellB w w' e (putS ⟨kind, sub, fin, ecn, seq, dsn, got, dgot, win, ace, ce, sent, echo, pl, bl⟩) := by
  unfold TellB
  obtain ⟨B, hB⟩ : ∃ B, w.heap.size = B := ⟨_, rfl⟩
  rw [hB]
  obtain ⟨w0, hw0⟩ : ∃ w0, w.alloc (.cells #[.int .i64 kind, .int .i64 sub, .bool fin, .bool ecn, .int .u32 seq, .int .u32 dsn, .int .u32 got, .int .u32 dgot, .int .i64 win, .int .i64 ace, .int .u32 ce, .int .u32 sent, .int .u32 echo, .slice G m d, .slice A n c] 26) = w0 := ⟨_, rfl⟩
  have e0 : Bx w0 B 26 [.int .i64 kind, .int .i64 sub, .bool fin, .bool ecn, .int .u32 seq, .int .u32 dsn, .int .u32 got, .int .u32 dgot, .int .i64 win, .int .i64 ace, .int .u32 ce, .int .u32 sent, .int .u32 echo, .slice G m d, .slice A n c] := by rw [← hw0, ← hB]; exact Bx.new w 26 [.int .i64 kind, .int .i64 sub, .bool fin, .bool ecn, .int .u32 seq, .int .u32 dsn, .int .u32 got, .int .u32 dgot, .int .i64 win, .int .i64 ace, .int .u32 ce, .int .u32 sent, .int .u32 echo, .slice G m d, .slice A n c]
  have b0 : Below B w w0 := by rw [← hw0]; exact (Below.refl _ _).alloc (by omega) _
  have hln := hbl.rd.len; have hlm := hpl.rd.len
  have HLN := Lib.hid hln; have HLM := Lib.hid hlm; clear hln hlm
  go_enter Try.func10, Try.ntmps10
  go_wp2_with (refine Bx.stepLoad rfl (.tmp 1) rfl rfl e0 rfl ?_)
  clear hw0
  refine (lmay_any kind sub fin ecn seq dsn got dgot win ace ce sent echo G m d A n c pl bl _ HLM.out HLN.out hm hn).mono ?_
  rintro e w2 ⟨he, hb2⟩
  have e2 := e0.kept hb2; have b2 := b0.trans (hb2.mono (Nat.le_of_lt e0.lt))
  cases hk : smay ⟨kind, sub, fin, ecn, seq, dsn, got, dgot, win, ace, ce, sent, echo, pl, bl⟩ with
  | false =>
    rw [hk] at he; subst he
    have hx : putS ⟨kind, sub, fin, ecn, seq, dsn, got, dgot, win, ace, ce, sent, echo, pl, bl⟩ = ([], 1) := by unfold putS; rw [if_neg (by rw [hk]; simp)]
    have HX := Lib.hid hx; clear hx
    go_wp2_with fail
    go_ret2
    rw [HX.out]
    exact ⟨none, 0, 0, rfl, Sl.nil0 _, b2⟩
  | true =>
    rw [hk] at he; subst he
    have hv := (smay_iff _).1 hk
    have hx : putS ⟨kind, sub, fin, ecn, seq, dsn, got, dgot, win, ace, ce, sent, echo, pl, bl⟩ = (seal4 (encS ⟨kind, sub, fin, ecn, seq, dsn, got, dgot, win, ace, ce, sent, echo, pl, bl⟩), 0) := by unfold putS; rw [if_pos hk]; rfl
    have HX := Lib.hid hx; clear hx hk
    have k0 : 0 ≤ kind := hv.kind0; have k1 : kind ≤ 4 := hv.kind1; have k2 : 0 ≤ sub := hv.sub0; have k3 : sub ≤ 3 := hv.sub1; have k4 : 0 ≤ win := hv.win0; have k5 : win ≤ 65535 := hv.win1; have k6 : 0 ≤ ace := hv.ace0; have k7 : ace ≤ 7 := hv.ace1; have k8 : ce < 16777216 := hv.ce1
    have hms : m ≤ 3 := by have := hv.sacks; rw [← HLM.out]; exact this
    have hns : n ≤ 1460 := by have := hv.bl; rw [← HLN.out]; exact this
    have hflat := partsB_flat kind sub fin ecn seq dsn got dgot win ace ce sent echo m pl bl HLM.out
    obtain ⟨fl, hfl⟩ : ∃ fl, flagsS ⟨kind, sub, fin, ecn, seq, dsn, got, dgot, win, ace, ce, sent, echo, pl, bl⟩ = fl := ⟨_, rfl⟩
    have hfb : 0 ≤ fl ∧ fl < 256 := by rw [← hfl]; unfold flagsS; dsimp only; split <;> split <;> omega
    rw [hfl] at hflat
    have HF := Lib.hid hflat; have HFL := Lib.hid hfl; clear hfl hv hflat
    obtain ⟨f0, f1⟩ := hfb
    go_wp2_with (refine Bx.stepLoad rfl (.tmp 1) rfl rfl e2 rfl ?_)
    refine (parts_any kind sub fin ecn seq dsn got dgot win ace ce sent echo G m d A n c pl bl _ k0 k1 k2 k3 k4 k5 k6 k7).mono ?_
    rintro e w4 ⟨K, rfl, hK, hb4⟩
    rw [HFL.out] at hK
    have b4 := b2.trans (hb4.mono (Nat.le_of_lt e2.lt))
    have hpl4 := hpl.keep (by rw [hB]; exact b4)
    have hbl4 := hbl.keep (by rw [hB]; exact b4)
    obtain ⟨base, hbase⟩ : ∃ base, w4.heap.size = base := ⟨_, rfl⟩
    have hKb : K < base := by rw [← hbase]; exact hK.lt
    obtain ⟨ps, hps⟩ : ∃ ps, (partsV fl kind sub fin ecn seq dsn got dgot win ace ce sent echo G m d A n c) = ps := ⟨_, rfl⟩
    obtain ⟨pb, hpb⟩ : ∃ pb, (partsB fl kind sub seq dsn got dgot win ce sent echo m pl bl) = pb := ⟨_, rfl⟩
    have hpsl : ps.length = 12 := by rw [← hps]; rfl
    have hpbl : pb.length = 12 := by rw [← hpb]; rfl
    have hlen : ∀ q, ((pb.take q).flatten).length ≤ 2000 := by
      intro q
      have h1 : ((pb.take q).flatten).length ≤ pb.flatten.length := by
        have := List.take_append_drop q pb
        have h2 : pb.flatten = (pb.take q).flatten ++ (pb.drop q).flatten := by rw [← List.flatten_append, this]
        rw [h2, List.length_append]; omega
      have h3 : pb.flatten.length = 32 + 8 * m + n := by rw [← hpb, HF.out, enc_len]; show 32 + 8 * pl.length + bl.length = _; rw [HLM.out, HLN.out]
      omega
    rw [hps] at hK
    clear e0 b0 e2 hb2 hb4 b2 hpl hbl
    go_wp2_with fail
    go_loopw [4, 6, 13] (fun b x i wr => ∃ q : Nat, q ≤ 12 ∧ i = .int .i64 (q : Int) ∧ Got wr base b ((pb.take q).flatten).length (pb.take q).flatten ∧ Below base w4 wr) (fun _ _ i _ => 12 - (intOf i).toNat)
    case atStart => exact ⟨0, by omega, rfl, ⟨World.ownsRow_nil w4 base 5 1, fun _ h => by simp at h⟩, Below.refl _ _⟩
    case round =>
      obtain ⟨q, hq, rfl, gq, bq⟩ := hrel
      by_cases hlt : q < 12
      · obtain ⟨x, hx⟩ : ∃ x, ps[q]? = some x := ⟨_, List.getElem?_eq_getElem (by omega)⟩
        obtain ⟨y, hy⟩ : ∃ y, pb[q]? = some y := ⟨_, List.getElem?_eq_getElem (by omega)⟩
        have hcell := (hK.below bq hKb).cell q hx
        have hnx := flat_take hy
        have HNX := Lib.hid hnx; have HXX := Lib.hid hx; have HYY := Lib.hid hy; clear hnx hx hy
        have hl1 := hlen q
        go_wp2_with fail
        refine (wr_part fl kind sub fin ecn seq dsn got dgot win ace ce sent echo G m d A n c pl bl us ud ug uh uc ut ue k0 k1 k2 k3 k4 k5 f0 f1 k8 hms hns base _ _ _ w4 _ hpl4 hbl4 bq hbase gq (by omega) q hlt x y (by rw [hps]; exact HXX.out) (by rw [hpb]; exact HYY.out)).mono ?_
        rintro e w5 ⟨v5, rfl, g5, b5⟩
        rw [← List.length_append, ← HNX.out] at g5
        go_wp2_with fail
        go_roundw
        case rel => exact ⟨q + 1, by omega, by go_num, g5, b5⟩
        case measure => simp [intOf]; omega
      · obtain rfl : q = 12 := by omega
        have ht : pb.take 12 = pb := by rw [← hpbl]; exact List.take_length
        rw [ht] at gq
        rw [← hpb, HF.out] at gq
        obtain ⟨A1, c1, rfl, s1⟩ := gq.sl
        have hle : (encS ⟨kind, sub, fin, ecn, seq, dsn, got, dgot, win, ace, ce, sent, echo, pl, bl⟩).length ≤ 1000000 := by have := hlen 12; rw [ht, ← hpb, HF.out] at this; omega
        go_wp2_with fail
        refine (seal_any A1 _ c1 _ _ s1 hle).mono ?_
        rintro e w6 ⟨R, d6, rfl, s6, hb6⟩
        go_wp2_with fail
        go_ret2
        rw [HX.out]
        exact ⟨R, _, d6, rfl, s6, (b4.trans (bq.mono (by have := b4.size; omega))).trans (hb6.mono (by have := b4.size; have := bq.size; omega))⟩
end Go.Proofs.Ytfglagkpknpgdaa
