/- The landed package wire: Get as a contract of the call. -/
import Derived.Test.YtfglagkpknpgdaaProg
import Derived.Test.YtfglagkpknpgdaaWi7
import Derived.WalkKit
import Derived.WalkSpells
import Derived.WalkSmall
import Derived.Lib.Hide
import Derived.Below
import Derived.Outline
namespace Go.Proofs.Ytfglagkpknpgdaa
open Go.RowKit
set_option linter.unusedVariables false
set_option linter.unusedSimpArgs false

/-- the answer is this segment and this error -/
def TellG (w w' : World) (e : Ending) (x : Sg × Int) : Prop := ∃ G m d R k q, e = .returned (.tuple #[.agg #[.int .i64 x.1.kind, .int .i64 x.1.sub, .bool x.1.fin, .bool x.1.ecn, .int .u32 x.1.seq, .int .u32 x.1.dsn, .int .u32 x.1.got, .int .u32 x.1.dgot, .int .i64 x.1.win, .int .i64 x.1.ace, .int .u32 x.1.ce, .int .u32 x.1.sent, .int .u32 x.1.echo, .slice G m d, .slice R k q], .int .i64 x.2]) ∧ Sr w' G m d x.1.sacks ∧ Sl w' R k q x.1.b ∧ Below w.heap.size w w'

theorem getR_short {l : List Int} (h : l.length < 4) : getR l = (zs, 7) := by unfold getR; rw [if_neg (by omega)]
theorem getR_bad {l : List Int} {m : Nat} (hl : l.length = m + 4) (h : num4 l ≠ adler (l.drop 4)) : getR l = (zs, 8) := by
  have := head_no h
  have h2 : ¬ be4 (adler (l.drop 4)) = l.take 4 := of_decide_eq_false this
  unfold getR; rw [if_pos (by omega), if_neg h2]
theorem getR_ok {l : List Int} {m : Nat} (hl : l.length = m + 4) (hs : Small l) (h : num4 l = adler (l.drop 4)) : getR l = getS (l.drop 4) := by
  have := head_yes hl hs h
  have h2 : be4 (adler (l.drop 4)) = l.take 4 := of_decide_eq_true this
  unfold getR; rw [if_pos (by omega), if_pos h2]
theorem getS_no {n : Nat} {l : List Int} (hl : l.length = n) (h : ¬ (32 ≤ n ∧ 32 + 8 * many l ≤ n)) : getS l = (zs, 7) := by
  subst hl
  unfold getS; rw [if_neg (fun k => h ⟨k.1, k.2.1⟩)]
theorem getS_yes {n : Nat} {l : List Int} (hl : l.length = n) (h : 32 ≤ n ∧ 32 + 8 * many l ≤ n) : getS l = if smay (parS l) = true then (parS l, 0) else (zs, 7) := by
  subst hl
  unfold getS
  by_cases c : smay (parS l) = true
  · rw [if_pos ⟨h.1, h.2, c⟩, if_pos c]
  · rw [if_neg (fun k => c k.2.2), if_neg c]

/-- bytes do not lie in a box of other things -/
theorem Sl.apart {w w' : World} {A : Option Addr} {n c B : Nat} {l : List Int} {t : TypeId} {cs : List Value} (h : Sl w A n c l) (hB : Bx w B t cs) (hcs : ∀ v ∈ cs, ∀ x, v ≠ Value.int .u8 x) (hf : w.grownBy w' (some B)) : Sl w' A n c l := by
  refine ⟨h.le, h.big, h.nil, h.rd.len, h.rd.small, fun hn => ?_⟩
  obtain ⟨b, o, e, hl, hc⟩ := h.rd.at_ hn
  have hbB : b ≠ B := by
    intro hb
    have h3 := hc 0 hn
    subst hb
    rw [cell_of_row w b (o + 0) _ _ _ hB] at h3
    exact hcs _ (List.mem_of_getElem? (by simpa using h3)) _ rfl
  refine ⟨b, o, e, Nat.lt_of_lt_of_le hl hf.size, fun i hi => ?_⟩
  rw [← hc i hi]
  exact World.cell?_of_block (hf.block b hl (fun hk => hbB (by cases hk; rfl)))

/-- a box, and a number: what the call hands back -/
theorem get_end {fn : Func} {tmps : Array Value} {R : Ending → World → Prop} {W : World} {Z : Nat} {t : TypeId} {cs : List Value} {v : Value} {ds : List Deferred} (hr : fn.results = #[.cell 2 26, .tmp 3]) (h2 : tmps.getD 2 undef = .pointer (some ⟨Z, 0, none⟩)) (h3 : tmps.getD 3 undef = v)
    (e : Bx W Z t cs) (hl : cs.length = 15) (hd : ds = []) (h : R (.returned (.tuple #[.agg cs.toArray, v])) W) : bodyPost Try.prog fn R .ret { tmps := tmps, defers := ds } W := by
  have l2 := e.loadVar hl
  have h2a : tmps[2]?.getD undef = .pointer (some ⟨Z, 0, none⟩) := by simpa using h2
  have h2b : tmps[3]?.getD undef = v := by simpa using h3
  refine bodyPost_ret (v := .tuple #[.agg cs.toArray, v]) ?_ hd h
  simp [results, hr, h2a, h2b, asAddr, l2]

set_option maxRecDepth 100000 in
set_option maxHeartbeats 4000000 in
theorem lget_any (A : Option Addr) (n c : Nat) (l : List Int) (w : World) (hs : Sl w A n c l) (hn : n ≤ 1000000) :
    Calls Try.prog 15 #[.slice A n c] w fun e w' => TellG w w' e (getR l) := by
  unfold TellG
  have hl := hs.rd.len
  obtain ⟨Z, hZ⟩ : ∃ Z, w.heap.size = Z := ⟨_, rfl⟩
  rw [hZ]
  obtain ⟨w0, hw0⟩ : ∃ w0, w.alloc (.cells #[.int .i64 0, .int .i64 0, .bool false, .bool false, .int .u32 0, .int .u32 0, .int .u32 0, .int .u32 0, .int .i64 0, .int .i64 0, .int .u32 0, .int .u32 0, .int .u32 0, .slice none 0 0, .slice none 0 0] 26) = w0 := ⟨_, rfl⟩
  have e0 : Bx w0 Z 26 zeroSeg := by rw [← hw0, ← hZ]; exact Bx.new w 26 zeroSeg
  have b0 : Below Z w w0 := by rw [← hw0]; exact (Below.refl _ _).alloc (by omega) _
  have s0 : Sl w0 A n c l := hs.keep (by rw [hZ]; exact b0)
  by_cases h4 : n < 4
  · have hx := getR_short (l := l) (by omega)
    have HX := Lib.hid hx; clear hx
    have o1 := e0.put zeroSeg
    have b1 := b0.grown (grown_put _ Z zeroSeg.toArray) (Nat.le_of_lt e0.lt) (fun k hk => by cases hk; omega)
    go_enter Try.func15, Try.ntmps15
    go_wp2_with (first
      | (go_at_call 24; refine (open_short A n c _ h4).mono ?_; rintro e w1 ⟨rfl, rfl⟩)
      | (refine Bx.stepStore rfl (.tmp 2) (.tmp 15) rfl rfl zeroSeg rfl e0 rfl rfl rfl ?_))
    refine get_end (by rfl) (by rfl) (by rfl) o1 rfl rfl ?_
    rw [HX.out]
    exact ⟨none, 0, 0, none, 0, 0, rfl, Sr.none _, Sl.nil0 _, b1⟩
  obtain ⟨M, rfl⟩ : ∃ M, n = M + 4 := ⟨n - 4, by omega⟩
  obtain ⟨C, rfl⟩ := cap4 hs
  by_cases hne : num4 l = adler (l.drop 4)
  case neg =>
    have hx := getR_bad hl hne
    have HX := Lib.hid hx; clear hx
    go_enter Try.func15, Try.ntmps15
    go_wp2_with fail
    refine (open_bad A M C l _ s0 (by omega) hne).mono ?_
    rintro e w1 ⟨rfl, hb1⟩
    have e1 := e0.kept hb1
    have b1 := b0.trans (hb1.mono (Nat.le_of_lt e0.lt))
    go_wp2_with (refine Bx.stepStore rfl (.tmp 2) (.tmp 15) rfl rfl zeroSeg rfl e1 rfl rfl rfl ?_)
    refine get_end (by rfl) (by rfl) (by rfl) (e1.put zeroSeg) rfl rfl ?_
    rw [HX.out]
    exact ⟨none, 0, 0, none, 0, 0, rfl, Sr.none _, Sl.nil0 _, b1.grown (grown_put _ Z zeroSeg.toArray) (Nat.le_of_lt e1.lt) (fun k hk => by cases hk; omega)⟩
  case pos =>
    have hx := getR_ok hl hs.rd.small hne
    have HX := Lib.hid hx; clear hx
    go_enter Try.func15, Try.ntmps15
    go_wp2_with fail
    refine (open_ok A M C l _ s0 (by omega) hne).mono ?_
    rintro e w1 ⟨R1, d1, rfl, s1, hb1⟩
    have e1 := e0.kept hb1
    have b1 := b0.trans (hb1.mono (Nat.le_of_lt e0.lt))
    have l1 := s1.rd.len
    obtain ⟨y, hy⟩ : ∃ y, l.drop 4 = y := ⟨_, rfl⟩
    rw [hy] at s1 l1
    have HY := Lib.hid hy; clear hy hne
    go_wp2_with fail
    refine (decoded_any R1 M d1 y _ s1 (by omega)).mono ?_
    rintro e w2 ⟨hb2, hc⟩
    have e2 := e1.kept hb2
    have b2 := b1.trans (hb2.mono (Nat.le_of_lt e1.lt))
    rcases hc with ⟨hno, rfl⟩ | ⟨hyes, G, m, d, R, k, q, rfl, sg, sr⟩
    · have hx := getS_no l1 hno
      have HX2 := Lib.hid hx; clear hx
      have e3 := e2.alloc (.cells #[.int .i64 0, .int .i64 0, .bool false, .bool false, .int .u32 0, .int .u32 0, .int .u32 0, .int .u32 0, .int .i64 0, .int .i64 0, .int .u32 0, .int .u32 0, .int .u32 0, .slice none 0 0, .slice none 0 0] 26)
      have b3 := b2.alloc (Nat.le_of_lt e2.lt) (.cells #[.int .i64 0, .int .i64 0, .bool false, .bool false, .int .u32 0, .int .u32 0, .int .u32 0, .int .u32 0, .int .i64 0, .int .i64 0, .int .u32 0, .int .u32 0, .int .u32 0, .slice none 0 0, .slice none 0 0] 26)
      unfold zeroSeg
      go_wp2_with (refine Bx.stepStore rfl (.tmp 2) (.tmp 24) rfl rfl zeroSeg rfl e3 rfl rfl rfl ?_)
      refine get_end (by rfl) (by rfl) (by rfl) (e3.put zeroSeg) rfl rfl ?_
      rw [HX.out, HY.out, HX2.out]
      exact ⟨none, 0, 0, none, 0, 0, rfl, Sr.none _, Sl.nil0 _, b3.grown (grown_put _ Z zeroSeg.toArray) (Nat.le_of_lt e3.lt) (fun k hk => by cases hk; omega)⟩
    · have hx := getS_yes l1 hyes
      cases hm : smay (parS y) with
      | false =>
        rw [hm, if_neg (by simp)] at hx
        have HX2 := Lib.hid hx; clear hx
        have e3 := e2.alloc (.cells #[.int .i64 (parS y).kind, .int .i64 (parS y).sub, .bool (parS y).fin, .bool (parS y).ecn, .int .u32 (parS y).seq, .int .u32 (parS y).dsn, .int .u32 (parS y).got, .int .u32 (parS y).dgot, .int .i64 (parS y).win, .int .i64 (parS y).ace, .int .u32 (parS y).ce, .int .u32 (parS y).sent, .int .u32 (parS y).echo, .slice G m d, .slice R k q] 26)
        have b3 := b2.alloc (Nat.le_of_lt e2.lt) (.cells #[.int .i64 (parS y).kind, .int .i64 (parS y).sub, .bool (parS y).fin, .bool (parS y).ecn, .int .u32 (parS y).seq, .int .u32 (parS y).dsn, .int .u32 (parS y).got, .int .u32 (parS y).dgot, .int .i64 (parS y).win, .int .i64 (parS y).ace, .int .u32 (parS y).ce, .int .u32 (parS y).sent, .int .u32 (parS y).echo, .slice G m d, .slice R k q] 26)
        go_wp2_with (refine Bx.stepStore rfl (.tmp 2) (.tmp 24) rfl rfl zeroSeg rfl e3 rfl rfl rfl ?_)
        refine get_end (by rfl) (by rfl) (by rfl) (e3.put zeroSeg) rfl rfl ?_
        rw [HX.out, HY.out, HX2.out]
        exact ⟨none, 0, 0, none, 0, 0, rfl, Sr.none _, Sl.nil0 _, b3.grown (grown_put _ Z zeroSeg.toArray) (Nat.le_of_lt e3.lt) (fun k hk => by cases hk; omega)⟩
      | true =>
        rw [hm, if_pos rfl] at hx
        have HX2 := Lib.hid hx; clear hx
        have e3 := e2.alloc (.cells #[.int .i64 (parS y).kind, .int .i64 (parS y).sub, .bool (parS y).fin, .bool (parS y).ecn, .int .u32 (parS y).seq, .int .u32 (parS y).dsn, .int .u32 (parS y).got, .int .u32 (parS y).dgot, .int .i64 (parS y).win, .int .i64 (parS y).ace, .int .u32 (parS y).ce, .int .u32 (parS y).sent, .int .u32 (parS y).echo, .slice G m d, .slice R k q] 26)
        have b3 := b2.alloc (Nat.le_of_lt e2.lt) (.cells #[.int .i64 (parS y).kind, .int .i64 (parS y).sub, .bool (parS y).fin, .bool (parS y).ecn, .int .u32 (parS y).seq, .int .u32 (parS y).dsn, .int .u32 (parS y).got, .int .u32 (parS y).dgot, .int .i64 (parS y).win, .int .i64 (parS y).ace, .int .u32 (parS y).ce, .int .u32 (parS y).sent, .int .u32 (parS y).echo, .slice G m d, .slice R k q] 26)
        have y3 := Bx.new w2 26 [.int .i64 (parS y).kind, .int .i64 (parS y).sub, .bool (parS y).fin, .bool (parS y).ecn, .int .u32 (parS y).seq, .int .u32 (parS y).dsn, .int .u32 (parS y).got, .int .u32 (parS y).dgot, .int .i64 (parS y).win, .int .i64 (parS y).ace, .int .u32 (parS y).ce, .int .u32 (parS y).sent, .int .u32 (parS y).echo, .slice G m d, .slice R k q]
        have hgr : w2.grownBy ((w2.alloc (.cells #[.int .i64 (parS y).kind, .int .i64 (parS y).sub, .bool (parS y).fin, .bool (parS y).ecn, .int .u32 (parS y).seq, .int .u32 (parS y).dsn, .int .u32 (parS y).got, .int .u32 (parS y).dgot, .int .i64 (parS y).win, .int .i64 (parS y).ace, .int .u32 (parS y).ce, .int .u32 (parS y).sent, .int .u32 (parS y).echo, .slice G m d, .slice R k q] 26)).setRow Z #[.int .i64 (parS y).kind, .int .i64 (parS y).sub, .bool (parS y).fin, .bool (parS y).ecn, .int .u32 (parS y).seq, .int .u32 (parS y).dsn, .int .u32 (parS y).got, .int .u32 (parS y).dgot, .int .i64 (parS y).win, .int .i64 (parS y).ace, .int .u32 (parS y).ce, .int .u32 (parS y).sent, .int .u32 (parS y).echo, .slice G m d, .slice R k q]) (some Z) := (World.grownBy_alloc _ _ _).trans (grown_put _ Z _)
        go_wp2_with (first | (refine Bx.stepLoad rfl (.tmp 6) rfl rfl y3 rfl ?_) | (refine Bx.stepStore rfl (.tmp 2) (.tmp 25) rfl rfl [.int .i64 (parS y).kind, .int .i64 (parS y).sub, .bool (parS y).fin, .bool (parS y).ecn, .int .u32 (parS y).seq, .int .u32 (parS y).dsn, .int .u32 (parS y).got, .int .u32 (parS y).dgot, .int .i64 (parS y).win, .int .i64 (parS y).ace, .int .u32 (parS y).ce, .int .u32 (parS y).sent, .int .u32 (parS y).echo, .slice G m d, .slice R k q] rfl e3 rfl rfl rfl ?_))
        refine get_end (by rfl) (by rfl) (by rfl) (e3.put [.int .i64 (parS y).kind, .int .i64 (parS y).sub, .bool (parS y).fin, .bool (parS y).ecn, .int .u32 (parS y).seq, .int .u32 (parS y).dsn, .int .u32 (parS y).got, .int .u32 (parS y).dgot, .int .i64 (parS y).win, .int .i64 (parS y).ace, .int .u32 (parS y).ce, .int .u32 (parS y).sent, .int .u32 (parS y).echo, .slice G m d, .slice R k q]) rfl rfl ?_
        rw [HX.out, HY.out, HX2.out]
        exact ⟨G, m, d, R, k, q, rfl, ((sg.grown hgr (fun k hk => by cases hk; have := e1.lt; omega))).sr, sr.apart e2 (by unfold zeroSeg; simp) hgr, b3.grown (grown_put _ Z #[.int .i64 (parS y).kind, .int .i64 (parS y).sub, .bool (parS y).fin, .bool (parS y).ecn, .int .u32 (parS y).seq, .int .u32 (parS y).dsn, .int .u32 (parS y).got, .int .u32 (parS y).dgot, .int .i64 (parS y).win, .int .i64 (parS y).ace, .int .u32 (parS y).ce, .int .u32 (parS y).sent, .int .u32 (parS y).echo, .slice G m d, .slice R k q]) (Nat.le_of_lt e3.lt) (fun k hk => by cases hk; omega)⟩
end Go.Proofs.Ytfglagkpknpgdaa
