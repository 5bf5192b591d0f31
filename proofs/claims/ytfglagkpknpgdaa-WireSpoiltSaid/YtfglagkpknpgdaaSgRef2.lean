/- The reference of package wire: Put as a contract of the call. -/
import Derived.Test.YtfglagkpknpgdaaSgRef1
import Derived.Test.YtfglagkpknpgdaaPr
import Derived.WalkKit
import Derived.WalkSpells
import Derived.WalkSmall
import Derived.Lib.Hide
import Derived.Below
import Derived.Outline
import Derived.Deep.LoopGhost
import Derived.Deep.DeepCutAuto
namespace Go.Proofs.Ytfglagkpknpgdaa
open Go.RowKit
set_option linter.unusedVariables false
set_option linter.unusedSimpArgs false

theorem four_sl (n : Int) (h0 : 0 ≤ n) (h1 : n < 4294967296) (w : World) :
    Calls Try.prog 22 #[.int .i64 n] w fun e w' => ∃ R d, e = .returned (.slice R 4 d) ∧ Sl w' R 4 d (four n) ∧ Below w.heap.size w w' := by
  refine (four_any n h0 h1 w).mono ?_
  rintro e w' ⟨rfl, rfl⟩
  exact ⟨_, 4, rfl, ⟨Nat.le_refl _, by unfold maxLen; omega, (fun e => by cases e), Rd.block w (four_small n) 5⟩, (Below.refl _ _).alloc (Nat.le_refl _) _⟩
theorem Got.under {w w' : World} {base : Nat} {v : Value} {n : Nat} {l : List Int} (h : Got w base v n l) (hb : Below w.heap.size w w') : Got w' base v n l := by
  refine ⟨⟨h.own.1, ?_⟩, h.small⟩
  rcases h.own.2 with h2 | ⟨g, cap, cur, hv, hg, hh, r⟩
  · exact Or.inl h2
  · exact Or.inr ⟨g, cap, cur, hv, hg, (hb.block g (Array.getElem?_eq_some_iff.1 hh).1).trans hh, r⟩
theorem run_cutQ (P : Program) (t e : TypeId) (ht : P.underlying t = some (.slice e)) (hinfo : (P.info? e).map (fun i => (i.zero, i.size, i.bytes)) = some (some (.int .u8 0), 1, 1)) (A : Option Addr) (n c : Nat) (w : World) (hn : 1 ≤ n) (hc : n ≤ c) :
    (Instr.slice t (.slice A n c) (some (.int .i64 1)) none none).run P w = .ok (.slice (cutA A 1 c) (n - 1) (c - 1)) w := by
  obtain ⟨i0, hi, hz0, hz1, hz2⟩ := info_parts hinfo
  have ht' : P.underlying t = some (.slice (P.elem t)) := by simp [Program.elem, ht]
  have he : P.elem t = e := by simp [Program.elem, ht]
  have hz : ∀ w, (Go.sizeOf e).run P w = .ok 1 w := fun w => by simp [Go.sizeOf, typeInfo, hi, hz1]
  rw [run_slice_l w t _ _ _ ht' .i64 _ (by omega) (by omega), he, hz]
  simp [Result.andThen, sliced, cutA]
theorem own_lit (w : World) (l : List Int) (base : Nat) (hb : base ≤ w.heap.size) (hl : l.length ≤ 1000000) : (w.alloc (.cells (l.map (Value.int .u8)).toArray 5)).ownsRow base 5 1 (.slice (some ⟨w.heap.size, 0, none⟩) l.length l.length) l.length (l.map (Value.int .u8)) := by
  have h := World.ownsRow_lit w (e := 5) (size := 1) (base := base) ((l.map (Value.int .u8)).toArray) l.length hb (by unfold maxLen; omega) (by simp)
  simpa using h
theorem row_ne {w : World} {base : Nat} {v : Value} {n : Nat} {l : List Int} (h : Got w base v n l) {Q : Nat} {t : TypeId} {cs : List Value} (hq : Bx w Q t cs) (ht : t ≠ 5) : some Q ≠ v.ownBlock := by
  intro e
  rcases h.own.2 with ⟨rfl, _⟩ | ⟨g, cap, cur, rfl, _, hg, _⟩
  · cases e
  · obtain rfl : Q = g := by cases e; rfl
    unfold Bx at hq
    rw [hq] at hg
    cases hg
    exact ht rfl
def fourB (l : List Int) : List Int := l.flatMap four
theorem fourB_snoc (l : List Int) (x : Int) : fourB (l ++ [x]) = fourB l ++ four x := by unfold fourB; simp
theorem sackB_snoc (l : List (Int × Int)) (p : Int × Int) : sackB (l ++ [p]) = sackB l ++ (four p.1 ++ four p.2) := by unfold sackB; simp; rfl
theorem Sl.nil0 (w : World) : Sl w none 0 0 [] := ⟨Nat.le_refl _, Nat.zero_le _, fun _ => rfl, Rd.empty _ _⟩
theorem Sl.cutQ {w : World} {A : Option Addr} {n c : Nat} {l : List Int} (h : Sl w A n c l) (hn : 1 ≤ n) : Sl w (cutA A 1 c) (n - 1) (c - 1) (l.drop 1) :=
  ⟨by have := h.le; omega, by have := h.big; omega, (fun e => by
    unfold cutA at e
    have := h.le
    split at e
    · omega
    · cases hA : A with
      | none => have := h.nil hA; omega
      | some a => rw [hA] at e; cases e), h.rd.cut (by omega) h.le⟩

def TellB (w w' : World) (e : Ending) (x : List Int × Int) : Prop := ∃ R m d, e = .returned (.tuple #[.slice R m d, .int .i64 x.2]) ∧ Sl w' R m d x.1 ∧ Below w.heap.size w w'
set_option maxRecDepth 100000 in
set_option maxHeartbeats 4000000 in
theorem rsput_any (kind sub : Int) (fin ecn : Bool) (seq dsn got dgot win ace ce sent echo : Int) (G : Option Addr) (m d : Nat) (A : Option Addr) (n c : Nat) (pl : List (Int × Int)) (bl : List Int) (w : World) (hpl : Sr w G m d pl) (hbl : Sl w A n c bl) (hm : m ≤ 9223372036854775807) (hn : n ≤ 9223372036854775807) (us : U32 seq) (ud : U32 dsn) (ug : U32 got) (uh : U32 dgot) (uc : U32 ce) (ut : U32 sent) (ue : U32 echo) :
    Calls Try.prog 11 #[.agg #[.int .i64 kind, .int .i64 sub, .bool fin, .bool ecn, .int .u32 seq, .int .u32 dsn, .int .u32 got, .int .u32 dgot, .int .i64 win, .int .i64 ace, .int .u32 ce, .int .u32 sent, .int .u32 echo, .slice G m d, .slice A n c]] w fun e w' => TellB w w' e (putS ⟨kind, sub, fin, ecn, seq, dsn, got, dgot, win, ace, ce, sent, echo, pl, bl⟩) := by
  unfold TellB
  have uc0 : 0 ≤ ce := uc.1; have uc1 : ce < 4294967296 := uc.2; have ut0 : 0 ≤ sent := ut.1; have ut1 : sent < 4294967296 := ut.2; have ue0 : 0 ≤ echo := ue.1; have ue1 : echo < 4294967296 := ue.2
  obtain ⟨B, hB⟩ : ∃ B, w.heap.size = B := ⟨_, rfl⟩
  have e0 := Bx.new w 26 [.int .i64 kind, .int .i64 sub, .bool fin, .bool ecn, .int .u32 seq, .int .u32 dsn, .int .u32 got, .int .u32 dgot, .int .i64 win, .int .i64 ace, .int .u32 ce, .int .u32 sent, .int .u32 echo, .slice G m d, .slice A n c]
  have hb0 : Below w.heap.size w (w.alloc (.cells #[.int .i64 kind, .int .i64 sub, .bool fin, .bool ecn, .int .u32 seq, .int .u32 dsn, .int .u32 got, .int .u32 dgot, .int .i64 win, .int .i64 ace, .int .u32 ce, .int .u32 sent, .int .u32 echo, .slice G m d, .slice A n c] 26)) := (Below.refl _ _).alloc (Nat.le_refl _) _
  rw [hB] at e0 hb0
  obtain ⟨w0, hw0⟩ : ∃ w0, w.alloc (.cells #[.int .i64 kind, .int .i64 sub, .bool fin, .bool ecn, .int .u32 seq, .int .u32 dsn, .int .u32 got, .int .u32 dgot, .int .i64 win, .int .i64 ace, .int .u32 ce, .int .u32 sent, .int .u32 echo, .slice G m d, .slice A n c] 26) = w0 := ⟨_, rfl⟩
  have e1 : Bx w0 B 26 [.int .i64 kind, .int .i64 sub, .bool fin, .bool ecn, .int .u32 seq, .int .u32 dsn, .int .u32 got, .int .u32 dgot, .int .i64 win, .int .i64 ace, .int .u32 ce, .int .u32 sent, .int .u32 echo, .slice G m d, .slice A n c] := by rw [← hw0]; exact e0
  have b1 : Below B w w0 := by rw [← hw0]; exact hb0
  clear e0 hb0
  have hpk : ∀ {w' : World}, Below B w w' → Sr w' G m d pl := fun h => hpl.keep (by rw [hB]; exact h)
  have hbk : ∀ {w' : World}, Below B w w' → Sl w' A n c bl := fun h => hbl.keep (by rw [hB]; exact h)
  have hln := hbl.rd.len; have hlm := hpl.rd.len
  have HLN := Lib.hid hln; have HLM := Lib.hid hlm; clear hln hlm
  have x0 := e1.cell 0 rfl; have x1 := e1.cell 1 rfl; have x2 := e1.cell 2 rfl; have x3 := e1.cell 3 rfl; have x4 := e1.cell 4 rfl; have x5 := e1.cell 5 rfl; have x6 := e1.cell 6 rfl; have x7 := e1.cell 7 rfl; have x8 := e1.cell 8 rfl; have x9 := e1.cell 9 rfl; have x10 := e1.cell 10 rfl; have x11 := e1.cell 11 rfl; have x12 := e1.cell 12 rfl; have x13 := e1.cell 13 rfl; have x14 := e1.cell 14 rfl
  go_enter Try.func11, Try.ntmps11
  rw [hB]
  go_wp2_with fail
  refine (rsmay_any kind sub fin ecn seq dsn got dgot win ace ce sent echo G m d A n c pl bl _ HLM.out HLN.out hm hn).mono ?_
  rintro e w2 ⟨he, hb2⟩
  clear x0 x1 x2 x3 x4 x5 x6 x7 x8 x9 x10 x11 x12 x13 x14
  have e2 := e1.kept hb2; have b2 := b1.trans (hb2.mono (Nat.le_of_lt e1.lt))
  cases hk : smay ⟨kind, sub, fin, ecn, seq, dsn, got, dgot, win, ace, ce, sent, echo, pl, bl⟩ with
  | false =>
    rw [hk] at he; subst he
    have hx : putS ⟨kind, sub, fin, ecn, seq, dsn, got, dgot, win, ace, ce, sent, echo, pl, bl⟩ = ([], 1) := by unfold putS; rw [if_neg (by rw [hk]; simp)]
    have HX := Lib.hid hx; clear hx
    go_wp2_with fail
    go_ret2
    rw [HX.out]
    exact ⟨none, 0, 0, rfl, Sl.nil0 _, b2⟩
  | true =>
    rw [hk] at he; subst he
    have hv := (smay_iff _).1 hk
    have hx : putS ⟨kind, sub, fin, ecn, seq, dsn, got, dgot, win, ace, ce, sent, echo, pl, bl⟩ = (seal4 (encS ⟨kind, sub, fin, ecn, seq, dsn, got, dgot, win, ace, ce, sent, echo, pl, bl⟩), 0) := by unfold putS; rw [if_pos hk]; rfl
    have HX := Lib.hid hx; clear hx hk
    have k0 : 0 ≤ kind := hv.kind0; have k1 : kind ≤ 4 := hv.kind1; have k2 : 0 ≤ sub := hv.sub0; have k3 : sub ≤ 3 := hv.sub1; have k4 : 0 ≤ win := hv.win0; have k5 : win ≤ 65535 := hv.win1; have k6 : 0 ≤ ace := hv.ace0; have k7 : ace ≤ 7 := hv.ace1; have k8 : ce < 16777216 := hv.ce1
    have hms : m ≤ 3 := by have := hv.sacks; rw [← HLM.out]; exact this
    have hns : n ≤ 1460 := by have := hv.bl; rw [← HLN.out]; exact this
    obtain ⟨fl, hfl⟩ : ∃ fl, flagsS ⟨kind, sub, fin, ecn, seq, dsn, got, dgot, win, ace, ce, sent, echo, pl, bl⟩ = fl := ⟨_, rfl⟩
    have hfb : 0 ≤ fl ∧ fl < 256 := by rw [← hfl]; unfold flagsS; dsimp only; split <;> split <;> omega
    obtain ⟨f0, f1⟩ := hfb
    have HFL := Lib.hid hfl; have HV := Lib.hid hv; clear hfl hv
    have x0 := e2.cell 0 rfl; have x1 := e2.cell 1 rfl; have x2 := e2.cell 2 rfl; have x3 := e2.cell 3 rfl; have x4 := e2.cell 4 rfl; have x5 := e2.cell 5 rfl; have x6 := e2.cell 6 rfl; have x7 := e2.cell 7 rfl; have x8 := e2.cell 8 rfl; have x9 := e2.cell 9 rfl; have x10 := e2.cell 10 rfl; have x11 := e2.cell 11 rfl; have x12 := e2.cell 12 rfl; have x13 := e2.cell 13 rfl; have x14 := e2.cell 14 rfl
    go_upto_if 18 with fail
    go_cut [5] (fun s5 wx => s5 = .int .i64 (4 * ace + (if fin = true then 1 else 0)) ∧ wx = w2)
    case first =>
      cases fin with
      | true =>
        go_wp2_with fail
        go_meet
        case rel => exact ⟨by simp, rfl⟩
      | false =>
        go_wp2_with fail
        go_meet
        case rel => exact ⟨by simp, rfl⟩
    case rest =>
    obtain ⟨rfl, rfl⟩ := hcut
    rename World => w3
    obtain ⟨f2, hf2⟩ : ∃ f2, 4 * ace + (if fin = true then 1 else 0) = f2 := ⟨_, rfl⟩
    have hf3 : 0 ≤ f2 ∧ f2 ≤ 29 := by rw [← hf2]; split <;> omega
    rw [hf2]
    have hfe : f2 + (if ecn = true then 2 else 0) = fl := by rw [← HFL.out, ← hf2]; rfl
    obtain ⟨f4, f5⟩ := hf3
    have HF2 := Lib.hid hf2; have HFE := Lib.hid hfe; clear hf2 hfe
    go_upto_if 22 with fail
    go_cut [5] (fun s5 wx => s5 = .int .i64 fl ∧ wx = w3)
    case first =>
      cases ecn with
      | true =>
        go_wp2_with fail
        go_meet
        case rel => exact ⟨by rw [← HFE.out]; simp, rfl⟩
      | false =>
        go_wp2_with fail
        go_meet
        case rel => exact ⟨by rw [← HFE.out]; simp, rfl⟩
    case rest =>
    obtain ⟨rfl, rfl⟩ := hcut
    rename World => w4
    obtain ⟨X0, hX0⟩ : ∃ X0, 16 * kind + sub = X0 := ⟨_, rfl⟩
    have hX1 : 0 ≤ X0 ∧ X0 < 256 := by omega
    obtain ⟨X1, X2⟩ := hX1
    go_upto_region 10 with fail
    have e5 := e2.alloc (.cells ([X0, fl, win / 256, win % 256].map (Value.int .u8)).toArray 5); have b5 := b2.alloc (Nat.le_of_lt e2.lt) (.cells ([X0, fl, win / 256, win % 256].map (Value.int .u8)).toArray 5)
    have g5 : Got (w4.alloc (.cells ([X0, fl, win / 256, win % 256].map (Value.int .u8)).toArray 5)) (B + 1) (.slice (some ⟨w4.heap.size, 0, none⟩) 4 4) 4 [X0, fl, win / 256, win % 256] := ⟨own_lit w4 [X0, fl, win / 256, win % 256] (B + 1) e2.lt (by simp), by intro x hx; simp only [List.mem_cons, List.not_mem_nil, or_false] at hx; rcases hx with rfl | rfl | rfl | rfl <;> omega⟩
    clear x0 x1 x2 x3 x4 x5 x6 x7 x8 x9 x10 x11 x12 x13 x14 e2 b2 hb2
    obtain ⟨w5, hw5⟩ : ∃ w5, w4.alloc (.cells ([X0, fl, win / 256, win % 256].map (Value.int .u8)).toArray 5) = w5 := ⟨_, rfl⟩
    rw [hw5] at e5 b5 g5
    replace hw5 : w4.alloc (.cells #[.int .u8 X0, .int .u8 fl, .int .u8 (win / 256), .int .u8 (win % 256)] 5) = w5 := hw5
    rw [hw5]
    clear hw5
    obtain ⟨v5, hv5⟩ : ∃ v5, Value.slice (some ⟨w4.heap.size, 0, none⟩) 4 4 = v5 := ⟨_, rfl⟩
    rw [hv5] at g5 ⊢
    clear hv5
    obtain ⟨h4, hh4⟩ : ∃ h4, [X0, fl, win / 256, win % 256] = h4 := ⟨_, rfl⟩
    rw [hh4] at g5
    have HH4 := Lib.hid hh4; clear hh4
    have x4 := e5.cell 4 rfl; have x5 := e5.cell 5 rfl; have x6 := e5.cell 6 rfl; have x7 := e5.cell 7 rfl
    go_wp2_with fail
    have e6 := e5.alloc (.cells ([seq, dsn, got, dgot].map (Value.int .u32)).toArray 22); have b6 := b5.alloc (Nat.le_of_lt e5.lt) (.cells ([seq, dsn, got, dgot].map (Value.int .u32)).toArray 22); have g6 := g5.under ((Below.refl _ _).alloc (Nat.le_refl _) (.cells ([seq, dsn, got, dgot].map (Value.int .u32)).toArray 22)); have q6 := Bx.new w5 22 ([seq, dsn, got, dgot].map (Value.int .u32))
    clear x4 x5 x6 x7 e5 b5 g5
    obtain ⟨Q, hQ⟩ : ∃ Q, w5.heap.size = Q := ⟨_, rfl⟩
    rw [hQ] at q6 ⊢
    go_loopw [6, 8] (fun v i wr => ∃ q : Nat, q ≤ 4 ∧ i = .int .i64 (q : Int) ∧ Got wr (B + 1) v (4 + 4 * q) (h4 ++ fourB ([seq, dsn, got, dgot].take q)) ∧ Bx wr B 26 [.int .i64 kind, .int .i64 sub, .bool fin, .bool ecn, .int .u32 seq, .int .u32 dsn, .int .u32 got, .int .u32 dgot, .int .i64 win, .int .i64 ace, .int .u32 ce, .int .u32 sent, .int .u32 echo, .slice G m d, .slice A n c] ∧ Below B w wr ∧ Bx wr Q 22 ([seq, dsn, got, dgot].map (Value.int .u32))) (fun _ i _ => 4 - (intOf i).toNat)
    case atStart => exact ⟨0, by omega, rfl, by simpa [fourB] using g6, e6, b6, q6⟩
    case round =>
      clear g6 e6 b6 q6 hQ
      obtain ⟨q, hq, rfl, g7, e7, b7, q7⟩ := hrel
      by_cases hlt : q < 4
      · have hxu : U32 ([seq, dsn, got, dgot].getD q 0) := by match q, hlt with | 0, _ => exact us | 1, _ => exact ud | 2, _ => exact ug | 3, _ => exact uh
        have hcq := q7.cell q (v := .int .u32 ([seq, dsn, got, dgot].getD q 0)) (by match q, hlt with | 0, _ => rfl | 1, _ => rfl | 2, _ => rfl | 3, _ => rfl)
        have hnx : h4 ++ fourB ([seq, dsn, got, dgot].take (q + 1)) = (h4 ++ fourB ([seq, dsn, got, dgot].take q)) ++ four ([seq, dsn, got, dgot].getD q 0) := by match q, hlt with | 0, _ => simp [fourB] | 1, _ => simp [fourB] | 2, _ => simp [fourB] | 3, _ => simp [fourB]
        obtain ⟨x, hx⟩ : ∃ x, [seq, dsn, got, dgot].getD q 0 = x := ⟨_, rfl⟩
        rw [hx] at hcq hxu hnx
        obtain ⟨hx0, hx1⟩ := hxu
        have HNX := Lib.hid hnx; clear hnx hx
        obtain ⟨Y, hY⟩ : ∃ Y, h4 ++ fourB ([seq, dsn, got, dgot].take q) = Y := ⟨_, rfl⟩
        rw [hY] at g7
        have HY := Lib.hid hY; clear hY
        go_wp2_with fail
        refine (four_sl x hx0 hx1 _).mono ?_
        rintro e w1 ⟨R2, d3, rfl, s4, hb5⟩
        clear hcq
        have e6 := e7.kept hb5; have b7 := b7.trans (hb5.mono (Nat.le_of_lt e7.lt)); have g8 := g7.under hb5; have hsze6 : B + 1 ≤ w1.heap.size := e6.lt
        
        have q8 := q7.kept hb5
        go_wp2_with (at_builtin; refine wpList_app _ rfl (.tmp 56) (.tmp 62) 24 rfl (B + 1) 5 Try.underlying24 info_u8 _ (4 + 4 * q) Y rfl g8.own rfl s4.nil s4.rd (by omega) hsze6 ?_; intro v10 w11 ho12 hg13 ha14; have e15 := e6.grown hg13 (fun h => by have := (g8.own.lt B h.symm).1; omega); )
        skip
        have b16 := b7.grown hg13 (Nat.le_of_lt e6.lt) (fun k hk => Nat.le_of_succ_le (g8.own.lt k hk).1)
        have g17 : Got w11 (B + 1) v10 ((4 + 4 * q) + 4) (Y ++ (four x)) := ⟨ho12, small_app g8.small s4.rd.small⟩
        have hsze15 : B + 1 ≤ w11.heap.size := e15.lt
        have q9 := q8.grown hg13 (row_ne g8 q8 (by decide))
        go_wp2_with fail
        go_roundw
        case rel => exact ⟨q + 1, by omega, by go_num, by rw [show 4 + 4 * (q + 1) = 4 + 4 * q + 4 by omega, HNX.out, HY.out]; exact g17, e15, b16, q9⟩
        case measure => simp [intOf]; omega
      · obtain rfl : q = 4 := by omega
        obtain ⟨Y0, hY0⟩ : ∃ Y0, h4 ++ fourB ([seq, dsn, got, dgot].take 4) = Y0 := ⟨_, rfl⟩
        rw [hY0] at g7
        have HY0 := Lib.hid hY0; clear hY0 q7
        have g20 := g7
        clear hlt
        clear g20
        have c19_10 := e7.cell 10 rfl; have c19_11 := e7.cell 11 rfl; have c19_12 := e7.cell 12 rfl; have c19_13 := e7.cell 13 rfl; have c19_14 := e7.cell 14 rfl
        go_wp2_with fail
        refine (four_sl ce uc0 uc1 _).mono ?_
        rintro e w20 ⟨R21, d22, rfl, s23, hb24⟩
        clear c19_10 c19_11 c19_12 c19_13 c19_14
        have e25 := e7.kept hb24; have b26 := b7.trans (hb24.mono (Nat.le_of_lt e7.lt)); have g27 := g7.under hb24; have hsze25 : B + 1 ≤ w20.heap.size := e25.lt
        have c28_11 := e25.cell 11 rfl; have c28_12 := e25.cell 12 rfl; have c28_13 := e25.cell 13 rfl; have c28_14 := e25.cell 14 rfl
        have hcut : ∀ w, (Instr.slice 24 (.slice R21 4 d22) (some (.int .i64 1)) none none).run Try.prog w = .ok (.slice (cutA R21 1 d22) 3 (d22 - 1)) w := fun w => run_cutQ Try.prog 24 5 Try.underlying24 info_u8 R21 4 d22 w (by omega) s23.le
        have sc : Sl w20 (cutA R21 1 d22) 3 (d22 - 1) ((four ce).drop 1) := s23.cutQ (by omega)
        go_wp2_with (at_builtin; refine wpList_app _ rfl (.tmp 64) (.tmp 69) 24 rfl (B + 1) 5 Try.underlying24 info_u8 _ (4 + 4 * 4) Y0 rfl g27.own rfl sc.nil sc.rd (by omega) hsze25 ?_; intro v29 w30 ho31 hg32 ha33; have e34 := e25.grown hg32 (fun h => by have := (g27.own.lt B h.symm).1; omega); have c37_11 := e34.cell 11 rfl; have c37_12 := e34.cell 12 rfl; have c37_13 := e34.cell 13 rfl; have c37_14 := e34.cell 14 rfl)
        clear c28_11 c28_12 c28_13 c28_14
        have b35 := b26.grown hg32 (Nat.le_of_lt e25.lt) (fun k hk => Nat.le_of_succ_le (g27.own.lt k hk).1)
        have g36 : Got w30 (B + 1) v29 ((4 + 4 * 4) + 3) (Y0 ++ ((four ce).drop 1)) := ⟨ho31, small_app g27.small sc.rd.small⟩
        have hsze34 : B + 1 ≤ w30.heap.size := e34.lt
        obtain ⟨Y1, hY1⟩ : ∃ Y1, Y0 ++ (four ce).drop 1 = Y1 := ⟨_, rfl⟩
        rw [hY1] at g36
        have HY1 := Lib.hid hY1; clear hY1
        clear hcut sc
        refine (four_sl sent ut0 ut1 _).mono ?_
        rintro e w38 ⟨R39, d40, rfl, s41, hb42⟩
        clear c37_11 c37_12 c37_13 c37_14
        have e43 := e34.kept hb42; have b44 := b35.trans (hb42.mono (Nat.le_of_lt e34.lt)); have g45 := g36.under hb42; have hsze43 : B + 1 ≤ w38.heap.size := e43.lt
        have c46_11 := e43.cell 11 rfl; have c46_12 := e43.cell 12 rfl; have c46_13 := e43.cell 13 rfl; have c46_14 := e43.cell 14 rfl
        go_wp2_with (at_builtin; refine wpList_app _ rfl (.tmp 71) (.tmp 75) 24 rfl (B + 1) 5 Try.underlying24 info_u8 _ (4 + 4 * 4 + 3) Y1 rfl g45.own rfl s41.nil s41.rd (by omega) hsze43 ?_; intro v47 w48 ho49 hg50 ha51; have e52 := e43.grown hg50 (fun h => by have := (g45.own.lt B h.symm).1; omega); have c55_11 := e52.cell 11 rfl; have c55_12 := e52.cell 12 rfl; have c55_13 := e52.cell 13 rfl; have c55_14 := e52.cell 14 rfl)
        clear c46_11 c46_12 c46_13 c46_14
        have b53 := b44.grown hg50 (Nat.le_of_lt e43.lt) (fun k hk => Nat.le_of_succ_le (g45.own.lt k hk).1)
        have g54 : Got w48 (B + 1) v47 ((4 + 4 * 4 + 3) + 4) (Y1 ++ (four sent)) := ⟨ho49, small_app g45.small s41.rd.small⟩
        have hsze52 : B + 1 ≤ w48.heap.size := e52.lt
        obtain ⟨Y2, hY2⟩ : ∃ Y2, Y1 ++ four sent = Y2 := ⟨_, rfl⟩
        rw [hY2] at g54
        have HY2 := Lib.hid hY2; clear hY2
        refine (four_sl echo ue0 ue1 _).mono ?_
        rintro e w56 ⟨R57, d58, rfl, s59, hb60⟩
        clear c55_11 c55_12 c55_13 c55_14
        have e61 := e52.kept hb60; have b62 := b53.trans (hb60.mono (Nat.le_of_lt e52.lt)); have g63 := g54.under hb60; have hsze61 : B + 1 ≤ w56.heap.size := e61.lt
        have c64_11 := e61.cell 11 rfl; have c64_12 := e61.cell 12 rfl; have c64_13 := e61.cell 13 rfl; have c64_14 := e61.cell 14 rfl
        go_upto_region 18 with (at_builtin; refine wpList_app _ rfl (.tmp 77) (.tmp 81) 24 rfl (B + 1) 5 Try.underlying24 info_u8 _ (4 + 4 * 4 + 3 + 4) Y2 rfl g63.own rfl s59.nil s59.rd (by omega) hsze61 ?_; intro v65 w66 ho67 hg68 ha69; have e70 := e61.grown hg68 (fun h => by have := (g63.own.lt B h.symm).1; omega); have c73_13 := e70.cell 13 rfl; have c73_14 := e70.cell 14 rfl)
        clear c64_11 c64_12 c64_13 c64_14
        have b71 := b62.grown hg68 (Nat.le_of_lt e61.lt) (fun k hk => Nat.le_of_succ_le (g63.own.lt k hk).1)
        have g72 : Got w66 (B + 1) v65 ((4 + 4 * 4 + 3 + 4) + 4) (Y2 ++ (four echo)) := ⟨ho67, small_app g63.small s59.rd.small⟩
        have hsze70 : B + 1 ≤ w66.heap.size := e70.lt
        obtain ⟨Y3, hY3⟩ : ∃ Y3, Y2 ++ four echo = Y3 := ⟨_, rfl⟩
        rw [hY3] at g72
        have HY3 := Lib.hid hY3; clear hY3
        have sm : Sl (w66.alloc (.cells ([(m : Int)].map (Value.int .u8)).toArray 5)) (some ⟨w66.heap.size, 0, none⟩) 1 1 [(m : Int)] := ⟨Nat.le_refl _, by unfold maxLen; omega, (fun e => by cases e), Rd.block w66 (l := [(m : Int)]) (by intro x hx; simp at hx; omega) 5⟩
        have e74 := e70.alloc (.cells ([(m : Int)].map (Value.int .u8)).toArray 5); have b75 := b71.alloc (Nat.le_of_lt e70.lt) (.cells ([(m : Int)].map (Value.int .u8)).toArray 5); have g76 := g72.under ((Below.refl _ _).alloc (Nat.le_refl _) (.cells ([(m : Int)].map (Value.int .u8)).toArray 5)); have hsze74 : B + 1 ≤ (w66.alloc (.cells ([(m : Int)].map (Value.int .u8)).toArray 5)).heap.size := e74.lt
        go_wp2_with (at_builtin; refine wpList_app _ rfl (.tmp 83) (.tmp 88) 24 rfl (B + 1) 5 Try.underlying24 info_u8 _ (4 + 4 * 4 + 3 + 4 + 4) Y3 rfl g76.own rfl sm.nil sm.rd (by omega) hsze74 ?_; intro v77 w78 ho79 hg80 ha81; have e82 := e74.grown hg80 (fun h => by have := (g76.own.lt B h.symm).1; omega); have c85_13 := e82.cell 13 rfl; have c85_14 := e82.cell 14 rfl)
        clear c73_13 c73_14
        have b83 := b75.grown hg80 (Nat.le_of_lt e74.lt) (fun k hk => Nat.le_of_succ_le (g76.own.lt k hk).1)
        have g84 : Got w78 (B + 1) v77 ((4 + 4 * 4 + 3 + 4 + 4) + 1) (Y3 ++ [(m : Int)]) := ⟨ho79, small_app g76.small sm.rd.small⟩
        have hsze82 : B + 1 ≤ w78.heap.size := e82.lt
        obtain ⟨Y4, hY4⟩ : ∃ Y4, Y3 ++ [(m : Int)] = Y4 := ⟨_, rfl⟩
        rw [hY4] at g84
        have HY4 := Lib.hid hY4; clear hY4
        clear sm
        clear c85_13 c85_14
        go_loopw [6, 9] (fun v i wr => ∃ q : Nat, q ≤ m ∧ i = .int .i64 (q : Int) ∧ Got wr (B + 1) v (32 + 8 * q) (Y4 ++ sackB (pl.take q)) ∧ Bx wr B 26 [.int .i64 kind, .int .i64 sub, .bool fin, .bool ecn, .int .u32 seq, .int .u32 dsn, .int .u32 got, .int .u32 dgot, .int .i64 win, .int .i64 ace, .int .u32 ce, .int .u32 sent, .int .u32 echo, .slice G m d, .slice A n c] ∧ Below B w wr) (fun _ i _ => m - (intOf i).toNat)
        case atStart => exact ⟨0, Nat.zero_le _, rfl, by simpa [sackB] using g84, e82, b83⟩
        case round =>
          clear e82 b83 g84
          obtain ⟨q, hq, rfl, gg, ee, bb⟩ := hrel
          by_cases hlt : q < m
          case pos =>
            obtain ⟨pb, po, hG, hpb0, hc⟩ := hpl.rd.at_ (by omega)
            have hpb : pb < B := by rw [← hB]; exact hpb0
            have c1 := (bb.cell (p := ⟨pb, po + q * 2, none⟩) hpb).trans (hc q hlt).1; have c2 := (bb.cell (p := ⟨pb, po + q * 2 + 1, none⟩) hpb).trans (hc q hlt).2
            have hwz := pr_wide hpl.rd.wide q
            have hnx : Y4 ++ sackB (pl.take (q + 1)) = ((Y4 ++ sackB (pl.take q)) ++ four (pr pl q).1) ++ four (pr pl q).2 := by rw [take_pr (by rw [HLM.out]; exact hlt), sackB_snoc, List.append_assoc, List.append_assoc]
            obtain ⟨p1, hp1⟩ : ∃ p1, (pr pl q).1 = p1 := ⟨_, rfl⟩
            obtain ⟨p2, hp2⟩ : ∃ p2, (pr pl q).2 = p2 := ⟨_, rfl⟩
            rw [hp1] at c1 hwz hnx
            rw [hp2] at c2 hwz hnx
            obtain ⟨⟨p10, p11⟩, p20, p21⟩ := hwz
            obtain ⟨Y5, hY5⟩ : ∃ Y5, Y4 ++ sackB (pl.take q) = Y5 := ⟨_, rfl⟩
            rw [hY5] at gg hnx
            have HY5 := Lib.hid hY5; have HNX := Lib.hid hnx; clear hY5 hnx hp1 hp2 hc
            subst hG
            have x13 := ee.cell 13 rfl
            go_wp2_with fail
            refine (four_sl p1 p10 p11 _).mono ?_
            rintro e w86 ⟨R87, d88, rfl, s89, hb90⟩
            clear x13 c1
            have e91 := ee.kept hb90; have b92 := bb.trans (hb90.mono (Nat.le_of_lt ee.lt)); have g93 := gg.under hb90; have hsze91 : B + 1 ≤ w86.heap.size := e91.lt
            have c94_13 := e91.cell 13 rfl
            have c2b := (hb90.cell (p := ⟨pb, po + q * 2 + 1, none⟩) (Nat.lt_trans hpb ee.lt)).trans c2
            clear c2
            go_wp2_with (at_builtin; refine wpList_app _ rfl (.tmp 97) (.tmp 105) 24 rfl (B + 1) 5 Try.underlying24 info_u8 _ (32 + 8 * q) Y5 rfl g93.own rfl s89.nil s89.rd (by omega) hsze91 ?_; intro v95 w96 ho97 hg98 ha99; have e100 := e91.grown hg98 (fun h => by have := (g93.own.lt B h.symm).1; omega); have c103_13 := e100.cell 13 rfl; have c2c := (World.cell?_of_block (a := ⟨pb, po + q * 2 + 1, none⟩) (hg98.block pb (Nat.lt_trans hpb e91.lt) (fun h => by have := (g93.own.lt pb h.symm).1; omega))).trans c2b)
            clear c94_13
            have b101 := b92.grown hg98 (Nat.le_of_lt e91.lt) (fun k hk => Nat.le_of_succ_le (g93.own.lt k hk).1)
            have g102 : Got w96 (B + 1) v95 ((32 + 8 * q) + 4) (Y5 ++ (four p1)) := ⟨ho97, small_app g93.small s89.rd.small⟩
            have hsze100 : B + 1 ≤ w96.heap.size := e100.lt
            obtain ⟨Y6, hY6⟩ : ∃ Y6, Y5 ++ four p1 = Y6 := ⟨_, rfl⟩
            rw [hY6] at g102
            have HY6 := Lib.hid hY6; clear hY6
            clear c2b
            refine (four_sl p2 p20 p21 _).mono ?_
            rintro e w104 ⟨R105, d106, rfl, s107, hb108⟩
            clear c103_13 c2c
            have e109 := e100.kept hb108; have b110 := b101.trans (hb108.mono (Nat.le_of_lt e100.lt)); have g111 := g102.under hb108; have hsze109 : B + 1 ≤ w104.heap.size := e109.lt
            
            go_wp2_with (at_builtin; refine wpList_app _ rfl (.tmp 107) (.tmp 115) 24 rfl (B + 1) 5 Try.underlying24 info_u8 _ (32 + 8 * q + 4) Y6 rfl g111.own rfl s107.nil s107.rd (by omega) hsze109 ?_; intro v113 w114 ho115 hg116 ha117; have e118 := e109.grown hg116 (fun h => by have := (g111.own.lt B h.symm).1; omega); )
            skip
            have b119 := b110.grown hg116 (Nat.le_of_lt e109.lt) (fun k hk => Nat.le_of_succ_le (g111.own.lt k hk).1)
            have g120 : Got w114 (B + 1) v113 ((32 + 8 * q + 4) + 4) (Y6 ++ (four p2)) := ⟨ho115, small_app g111.small s107.rd.small⟩
            have hsze118 : B + 1 ≤ w114.heap.size := e118.lt
            go_wp2_with fail
            go_roundw
            case rel => exact ⟨q + 1, by omega, by go_num, by rw [show 32 + 8 * (q + 1) = 32 + 8 * q + 4 + 4 by omega, HNX.out, HY6.out]; exact g120, e118, b119⟩
            case measure => simp [intOf]; omega
          case neg =>
            obtain rfl : m = q := by omega
            have hen : (Y4 ++ sackB (pl.take m)) ++ bl = encS ⟨kind, sub, fin, ecn, seq, dsn, got, dgot, win, ace, ce, sent, echo, pl, bl⟩ := by
              rw [show pl.take m = pl by rw [← HLM.out, List.take_length]]
              unfold encS headS
              rw [HFL.out, ← HY4.out, ← HY3.out, ← HY2.out, ← HY1.out, ← HY0.out, ← HH4.out, ← hX0, ← HLM.out]
              rfl
            obtain ⟨Y5, hY5⟩ : ∃ Y5, Y4 ++ sackB (pl.take m) = Y5 := ⟨_, rfl⟩
            rw [hY5] at gg hen
            have HEN := Lib.hid hen; clear hen hY5
            have x13 := ee.cell 13 rfl; have x14 := ee.cell 14 rfl
            have hszee : B + 1 ≤ wr.heap.size := ee.lt
            have sb := hbk bb
            go_wp2_with (at_builtin; refine wpList_app _ rfl (.tmp 117) (.tmp 119) 24 rfl (B + 1) 5 Try.underlying24 info_u8 _ (32 + 8 * m) Y5 rfl gg.own rfl sb.nil sb.rd (by omega) hszee ?_; intro v122 w123 ho124 hg125 ha126; have e127 := ee.grown hg125 (fun h => by have := (gg.own.lt B h.symm).1; omega); )
            clear x13 x14
            have b128 := bb.grown hg125 (Nat.le_of_lt ee.lt) (fun k hk => Nat.le_of_succ_le (gg.own.lt k hk).1)
            have g129 : Got w123 (B + 1) v122 ((32 + 8 * m) + n) (Y5 ++ bl) := ⟨ho124, small_app gg.small sb.rd.small⟩
            have hsze127 : B + 1 ≤ w123.heap.size := e127.lt
            obtain ⟨R9, d9, rfl, hs9⟩ := g129.sl
            refine (rseal_any R9 _ d9 (Y5 ++ bl) _ hs9 (by omega)).mono ?_
            rintro e w99 ⟨R10, d10, rfl, hs10, hb10⟩
            have b99 := b128.trans (hb10.mono (Nat.le_of_lt e127.lt))
            rw [HEN.out] at hs10
            go_wp2_with fail
            go_ret2
            rw [HX.out]
            exact ⟨R10, _, d10, rfl, hs10, b99⟩
end Go.Proofs.Ytfglagkpknpgdaa
