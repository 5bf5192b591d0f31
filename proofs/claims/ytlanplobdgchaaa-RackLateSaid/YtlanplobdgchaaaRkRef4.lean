/- The reference of package rack: Lost as a contract of the call. -/
import Derived.Test.YtlanplobdgchaaaProg
import Derived.Test.YtlanplobdgchaaaRkRef1
import Derived.Test.YtlanplobdgchaaaStRef2
import Derived.Deep.AppendLies
import Derived.WalkKit
import Derived.WalkSpells
import Derived.WalkSmall
import Derived.Lib.Hide
import Derived.Below
import Derived.Outline
import Derived.Deep.QuietTactic
import Derived.BigQuiet
import Derived.IntWalk
import Derived.Deep.DeepCutAuto
import Derived.OrdersHeld
import Derived.StillTail
import Derived.Test.YtlanplobdgchaaaTail
import Derived.Laws.Rows
import Derived.Laws.Tables
namespace Go.Proofs.Ytlanplobdgchaaa
open Go.RowKit
set_option linter.unusedVariables false
set_option linter.unusedSimpArgs false

theorem info_part : (Try.prog.info? 26).map (fun i => (i.zero, i.size, i.bytes)) = some (some (.agg #[.int .i64 0, .int .i64 0, .int .i64 0, .int .i64 0, .int .i64 0, .bool false, .bool false, .int .i64 0, .int .i64 0]), El.k Prt, 64) := by kernel_rfl
theorem prt_below {w w' : World} {b o B : Nat} {x : Prt} (h : PrtAt w b o x) (hb : Below B w w') (hlt : b < B) : PrtAt w' b o x :=
  ⟨(hb.cell (p := ⟨b, o, none⟩) hlt).trans h.c0, (hb.cell (p := ⟨b, o + 1, none⟩) hlt).trans h.c1, (hb.cell (p := ⟨b, o + 2, none⟩) hlt).trans h.c2, (hb.cell (p := ⟨b, o + 3, none⟩) hlt).trans h.c3, (hb.cell (p := ⟨b, o + 4, none⟩) hlt).trans h.c4, (hb.cell (p := ⟨b, o + 5, none⟩) hlt).trans h.c5, (hb.cell (p := ⟨b, o + 6, none⟩) hlt).trans h.c6, (hb.cell (p := ⟨b, o + 7, none⟩) hlt).trans h.c7, (hb.cell (p := ⟨b, o + 8, none⟩) hlt).trans h.c8⟩
theorem results_tmp4 {fn : Func} {t u v x : Tmp} (h : fn.results = #[.tmp t, .tmp u, .tmp v, .tmp x]) (tmps : Array Value) (P : Program) (w : World) :
    (results fn tmps).run P w = .ok (.tuple #[tmps.getD t undef, tmps.getD u undef, tmps.getD v undef, tmps.getD x undef]) w := by
  simp [results, h]
def TellL (w w' : World) (e : Ending) (y : List Prt × Int × Int × Int) : Prop := ∃ G m d, e = .returned (.tuple #[.slice G m d, .int .i64 y.2.1, .int .i64 y.2.2.1, .int .i64 y.2.2.2]) ∧ Sne w' w.heap.size G m d y.1 ∧ Below w.heap.size w w'
theorem lost_no {v : Rkv} {l : List Prt} {a b : Int} (h : ¬ LostOk v l a b) : lostR v l a b = ([], 0, 0, 1) := if_neg h
theorem lost_ok {v : Rkv} {l : List Prt} {a b : Int} (h : LostOk v l a b) : lostR v l a b = (lostL v a b l, lostN v a b l, nextN v a b l, 0) := if_pos h
section
variable {v : Rkv} {x : Prt} {l : List Prt} {now slack : Int} {k : Nat}
theorem seen_came (h : x.came = true) : seenB v x = false := by unfold seenB; rw [h]; rfl
theorem seen_lost (h : x.lost = true) : seenB v x = false := by unfold seenB; rw [h]; simp
theorem seen_else (h : x.came = false) (g : x.lost = false) : seenB v x = aheadB x.at_ (endP x) v.at_ v.end_ := by unfold seenB; rw [h, g]; rfl
theorem late_none (h : seenB v x = false) : lateB v now slack x = false := by unfold lateB; rw [h]; rfl
theorem wait_none (h : seenB v x = false) : waitB v now slack x = false := by unfold waitB; rw [h]; rfl
theorem late_yes (h : seenB v x = true) (g : dueR v slack x ≤ now) : lateB v now slack x = true := by unfold lateB; rw [h, decide_eq_true g]; rfl
theorem wait_no (h : seenB v x = true) (g : dueR v slack x ≤ now) : waitB v now slack x = false := by unfold waitB; rw [h, decide_eq_true g]; rfl
theorem late_no (h : seenB v x = true) (g : ¬ dueR v slack x ≤ now) : lateB v now slack x = false := by unfold lateB; rw [h, decide_eq_false g]; rfl
theorem wait_yes (h : seenB v x = true) (g : ¬ dueR v slack x ≤ now) : waitB v now slack x = true := by unfold waitB; rw [h, decide_eq_false g]; rfl
theorem lostTo_ge (h : k < l.length) : ge (lostTo v now slack l k) k = ge l k := by
  have e : (lostL v now slack (l.take k)).length = k := by rw [lostL_len, List.length_take]; omega
  unfold lostTo ge
  rw [List.getD_eq_getElem?_getD, List.getElem?_append_right (by omega), e, Nat.sub_self, drop_ge h]
  simp [ge]
theorem lostN_bd (l : List Prt) : 0 ≤ lostN v now slack l ∧ lostN v now slack l ≤ l.length := by
  suffices hh : ∀ (l : List Prt) (n : Int), n ≤ l.foldl (fun n x => if lateB v now slack x = true then n + 1 else n) n ∧ l.foldl (fun n x => if lateB v now slack x = true then n + 1 else n) n ≤ n + l.length by
    have := hh l 0; unfold lostN; omega
  intro l
  induction l with
  | nil => intro n; simp
  | cons y t ih =>
    intro n
    rw [List.foldl_cons, List.length_cons]
    by_cases hc : lateB v now slack y = true
    · rw [if_pos hc]; have := ih (n + 1); omega
    · rw [if_neg hc]; have := ih n; omega
/-- one round: nothing changes -/
theorem round_skip (h : k < l.length) (hs : lateB v now slack (ge l k) = false) (hw : waitB v now slack (ge l k) = false) : lostTo v now slack l k = lostTo v now slack l (k + 1) ∧ lostN v now slack (l.take k) = lostN v now slack (l.take (k + 1)) ∧ nextN v now slack (l.take k) = nextN v now slack (l.take (k + 1)) := by
  rw [lostN_take _ _ _ h, nextN_take _ _ _ h, hs, hw]
  exact ⟨lostTo_same _ _ _ _ h hs, rfl, rfl⟩
theorem round_wait (h : k < l.length) (hs : lateB v now slack (ge l k) = false) (hw : waitB v now slack (ge l k) = true) : lostTo v now slack l k = lostTo v now slack l (k + 1) ∧ lostN v now slack (l.take k) = lostN v now slack (l.take (k + 1)) ∧ nextN v now slack (l.take (k + 1)) = nextStep (nextN v now slack (l.take k)) (dueR v slack (ge l k)) := by
  rw [lostN_take _ _ _ h, nextN_take _ _ _ h, hs, hw]
  exact ⟨lostTo_same _ _ _ _ h hs, rfl, rfl⟩
theorem round_late (h : k < l.length) (hs : lateB v now slack (ge l k) = true) (hw : waitB v now slack (ge l k) = false) : (lostTo v now slack l k).set k { ge l k with lost := true } = lostTo v now slack l (k + 1) ∧ lostN v now slack (l.take (k + 1)) = lostN v now slack (l.take k) + 1 ∧ nextN v now slack (l.take k) = nextN v now slack (l.take (k + 1)) := by
  have hp : lostP v now slack (ge l k) = { ge l k with lost := true } := by unfold lostP; rw [if_pos hs]
  rw [lostN_take _ _ _ h, nextN_take _ _ _ h, hs, hw, ← lostTo_set _ _ _ _ h, hp]
  exact ⟨rfl, rfl, rfl⟩
end

set_option maxRecDepth 100000 in
set_option maxHeartbeats 16000000 in
theorem rklost_any (v : Rkv) (A : Option Addr) (n c : Nat) (l : List Prt) (now slack : Int) (w : World) (hs : Se w A n c l) :
    Calls Try.prog 14 #[.agg #[.int .i64 v.at_, .int .i64 v.end_, .int .i64 v.took, .int .i64 v.far, .bool v.mixed, .int .i64 v.quarters], .slice A n c, .int .i64 now, .int .i64 slack] w fun e w' => TellL w w' e (lostR v l now slack) := by
  unfold TellL
  obtain ⟨B, hB⟩ : ∃ B, w.heap.size = B := ⟨_, rfl⟩
  have hl := hs.rd.len
  have m1 := hs.le
  have m2 := hs.max
  have m3 : n ≤ 9223372036854775807 := by unfold maxLen at m2; omega
  clear m1 m2
  have hnil := hs.nil
  have e0 := Bx.new w 23 [.int .i64 v.at_, .int .i64 v.end_, .int .i64 v.took, .int .i64 v.far, .bool v.mixed, .int .i64 v.quarters]
  have b0 : Below w.heap.size w (w.alloc (.cells #[.int .i64 v.at_, .int .i64 v.end_, .int .i64 v.took, .int .i64 v.far, .bool v.mixed, .int .i64 v.quarters] 23)) := (Below.refl _ _).alloc (Nat.le_refl _) _
  rw [hB] at e0 b0
  obtain ⟨z, hz⟩ : ∃ z, lostR v l now slack = z := ⟨_, rfl⟩
  rw [hz]
  have HZ := Lib.hid hz
  have HL := Lib.hid hl; have HN := Lib.hid hnil; have HA := Lib.hid hs; have HB := Lib.hid hB
  rw [hB]
  clear hz hs hl hnil
  go_enter Try.func14, Try.ntmps14
  go_wp2_with (refine rk_load rfl (.tmp 4) rfl rfl e0 rfl ?_)
  generalize w.alloc (.cells #[.int .i64 v.at_, .int .i64 v.end_, .int .i64 v.took, .int .i64 v.far, .bool v.mixed, .int .i64 v.quarters] 23) = w1 at e0 b0 ⊢
  refine (rkmay_any v _).mono ?_
  rintro e w2 ⟨rfl, hb2⟩
  have e2 := e0.kept hb2; have b2 := b0.trans (hb2.mono (Nat.le_of_lt e0.lt))
  have hBs : B ≤ w2.heap.size := Nat.le_of_lt e2.lt
  clear e0 b0 hb2
  have hm := rstmay_any A n c l w2 (HA.out.keep (by rw [HB.out]; exact b2))
  cases hk : rkmay v with
  | false =>
    have hz := HZ.out
    rw [lost_no (fun h => by have := h.1; rw [hk] at this; cases this)] at hz
    subst hz
    clear HZ hk
    go_wp2_with (first
      | (go_at_call 30; refine hm.mono ?_; rintro e w3 ⟨rfl, hb3⟩; have e3 := e2.kept hb3; have b3 : Below B w w3 := b2.trans (hb3.mono hBs))
      | (go_at_call 26; refine (rkin_any _ _).mono ?_; rintro e wx ⟨rfl, rfl⟩)
      | (go_at_call 27; refine (rkbrief_any _ _).mono ?_; rintro e wx ⟨rfl, rfl⟩))
    (try simp only [Exit.inBlock, Exit.then]); refine bodyPost_ret (results_tmp4 rfl _ _ _) rfl ?_
    exact ⟨none, 0, 0, rfl, Sne.none _ _, b3⟩
  | true =>
  cases hf : smayB l with
  | false =>
    rw [hf] at hm
    have hz := HZ.out
    rw [lost_no (fun h => by have := h.2.1; rw [hf] at this; cases this)] at hz
    subst hz
    clear HZ hk
    go_wp2_with (first
      | (go_at_call 30; refine hm.mono ?_; rintro e w3 ⟨rfl, hb3⟩; have e3 := e2.kept hb3; have b3 : Below B w w3 := b2.trans (hb3.mono hBs))
      | (go_at_call 26; refine (rkin_any _ _).mono ?_; rintro e wx ⟨rfl, rfl⟩)
      | (go_at_call 27; refine (rkbrief_any _ _).mono ?_; rintro e wx ⟨rfl, rfl⟩))
    (try simp only [Exit.inBlock, Exit.then]); refine bodyPost_ret (results_tmp4 rfl _ _ _) rfl ?_
    exact ⟨none, 0, 0, rfl, Sne.none _ _, b3⟩
  | true =>
  rw [hf] at hm
  cases ht : t60 now with
  | false =>
    have hz := HZ.out
    rw [lost_no (fun h => by have := h.2.2.1; rw [ht] at this; cases this)] at hz
    subst hz
    clear HZ hk hf
    go_wp2_with (first
      | (go_at_call 30; refine hm.mono ?_; rintro e w3 ⟨rfl, hb3⟩; have e3 := e2.kept hb3; have b3 : Below B w w3 := b2.trans (hb3.mono hBs))
      | (go_at_call 26; refine (rkin_any _ _).mono ?_; rintro e wx ⟨rfl, rfl⟩)
      | (go_at_call 27; refine (rkbrief_any _ _).mono ?_; rintro e wx ⟨rfl, rfl⟩))
    (try simp only [Exit.inBlock, Exit.then]); refine bodyPost_ret (results_tmp4 rfl _ _ _) rfl ?_
    exact ⟨none, 0, 0, rfl, Sne.none _ _, b3⟩
  | true =>
  cases hr : brief slack with
  | false =>
    have hz := HZ.out
    rw [lost_no (fun h => by have := h.2.2.2; rw [hr] at this; cases this)] at hz
    subst hz
    clear HZ hk hf
    go_wp2_with (first
      | (go_at_call 30; refine hm.mono ?_; rintro e w3 ⟨rfl, hb3⟩; have e3 := e2.kept hb3; have b3 : Below B w w3 := b2.trans (hb3.mono hBs))
      | (go_at_call 26; refine (rkin_any _ _).mono ?_; rintro e wx ⟨rfl, rfl⟩)
      | (go_at_call 27; refine (rkbrief_any _ _).mono ?_; rintro e wx ⟨rfl, rfl⟩))
    (try simp only [Exit.inBlock, Exit.then]); refine bodyPost_ret (results_tmp4 rfl _ _ _) rfl ?_
    exact ⟨none, 0, 0, rfl, Sne.none _ _, b3⟩
  | true =>
  have hz := HZ.out
  rw [lost_ok ⟨hk, hf, ht, hr⟩] at hz
  have hv := (rkmay_iff v).1 hk
  have k0 := hv.k0; have k1 := hv.k1
  have hrb := (brief_iff slack).1 hr
  obtain ⟨hle, hch⟩ := (smay_iff l).1 hf
  have hn5 : n ≤ 500 := by have := HL.out; omega
  have HCH := Lib.hid hch; have HZ2 := Lib.hid hz
  obtain ⟨r0, r1⟩ := hrb
  clear HZ hk hf hz hv hle hch
  go_upto_region 5 with (first
    | (go_at_call 30; refine hm.mono ?_; rintro e w3 ⟨rfl, hb3⟩; have e3 := e2.kept hb3; have b3 : Below B w w3 := b2.trans (hb3.mono hBs))
    | (go_at_call 26; refine (rkin_any _ _).mono ?_; rintro e wx ⟨rfl, rfl⟩)
    | (go_at_call 27; refine (rkbrief_any _ _).mono ?_; rintro e wx ⟨rfl, rfl⟩))
  clear ht hr e2 b2 hb3 hBs
  have hsz3 : B < w3.heap.size := e3.lt
  have hs3 : Se w3 A n c l := HA.out.keep (by rw [HB.out]; exact b3)
  go_upto_region 6 with (at_builtin; refine wpList_appe w3 rfl (.const (.slice none 0 0)) (.tmp 40) 24 rfl (B + 1) 26 Try.underlying24 (.agg #[.int .i64 0, .int .i64 0, .int .i64 0, .int .i64 0, .int .i64 0, .bool false, .bool false, .int .i64 0, .int .i64 0]) 64 info_part (by decide) _ 0 ([] : List Prt) rfl (Goe.none _ _ _) rfl HN.out hs3.rd (by unfold maxLen; omega) (by omega) (by omega) ?_; intro v3 w4 hg4 hgr4 _)
  have b4 : Below B w w4 := b3.grown hgr4 (by omega) (fun k hk => by cases hk)
  have e4 := e3.grown hgr4 (by intro h; cases h)
  have g4 : Goe w4 (B + 1) 26 v3 n l := by have := hg4; simpa using this
  clear hg4 hgr4 hs3 e3 b3 hsz3
  go_wp2_with fail
  go_loopw [15, 16, 17] (fun s15 s16 s17 wr => ∃ k : Nat, k ≤ n ∧ s17 = .int .i64 (k : Int) ∧ s15 = .int .i64 (lostN v now slack (l.take k)) ∧ s16 = .int .i64 (nextN v now slack (l.take k)) ∧ Hid (Goe wr (B + 1) 26 v3 n (lostTo v now slack l k)) ∧ Bx wr B 23 [.int .i64 v.at_, .int .i64 v.end_, .int .i64 v.took, .int .i64 v.far, .bool v.mixed, .int .i64 v.quarters] ∧ Below B w wr) (fun _ _ i _ => n - (intOf i).toNat)
  case atStart => exact ⟨0, Nat.zero_le _, rfl, rfl, rfl, Lib.hid (by rw [lostTo_zero]; exact g4), e4, b4⟩
  case round =>
    obtain ⟨k, hkn, rfl, rfl, rfl, HG, er, br⟩ := hrel
    clear e4 b4 g4
    by_cases hlt : k < n
    case neg =>
      obtain rfl : k = n := by omega
      have hd : decide (k < k) = false := decide_eq_false (by omega)
      have hz := HZ2.out
      subst hz
      have hg := HG.out
      rw [show lostTo v now slack l k = lostL v now slack l by rw [← HL.out]; exact lostTo_all _ _ _ _] at hg
      have ht : l.take k = l := by rw [← HL.out]; exact List.take_length
      rw [ht]
      obtain ⟨G, d, rfl, hsn⟩ := hg.sne
      clear HZ2 hg ht
      go_wp2_with fail
      (try simp only [Exit.inBlock, Exit.then]); refine bodyPost_ret (results_tmp4 rfl _ _ _) rfl ?_
      exact ⟨_, _, _, rfl, hsn.mono (by omega), br⟩
    case pos =>
    have hd : decide (k < n) = true := decide_eq_true hlt
    have hkl : k < l.length := by rw [HL.out]; exact hlt
    have HKL := Lib.hid hkl
    obtain ⟨b, o, rfl, hbl, hc⟩ := HA.out.rd.at_ (by omega)
    have hbB : b < B := by rw [← HB.out]; exact hbl
    have X := prt_below (prt_at hc hlt) br hbB
    have hpk := (HCH.out k hkl).1
    have hpw := HA.out.rd.ok.ge (i := k) hkl
    have hlb := lostN_bd (v := v) (now := now) (slack := slack) (l.take k)
    have htk : (l.take k).length = k := by rw [List.length_take]; omega
    rw [htk] at hlb
    obtain ⟨lb0, lb1⟩ := hlb
    obtain ⟨p, hp⟩ : ∃ p, ge l k = p := ⟨_, rfl⟩
    rw [hp] at X hpk hpw
    have c0 := X.c0; have c1 := X.c1; have c2 := X.c2; have c3 := X.c3; have c4 := X.c4; have c5 := X.c5; have c6 := X.c6; have c7 := X.c7; have c8 := X.c8
    have hps := (t60_iff p.seq).1 hpk.seq; have hpa := (t60_iff p.at_).1 hpk.at_; have hpl1 := hpk.l1; have hpl2 := hpk.l2
    obtain ⟨hps0, hps1⟩ := hps
    obtain ⟨hpa0, hpa1⟩ := hpa
    have HP := Lib.hid hp; have HPW := Lib.hid hpw
    obtain ⟨F, hF⟩ : ∃ F, lostN v now slack (l.take k) = F := ⟨_, rfl⟩
    obtain ⟨N, hN⟩ : ∃ N, nextN v now slack (l.take k) = N := ⟨_, rfl⟩
    rw [hF] at lb0 lb1 ⊢
    rw [hN]
    have HF := Lib.hid hF; have HNX := Lib.hid hN
    obtain ⟨E, hE⟩ : ∃ E, endP p = E := ⟨_, rfl⟩
    have hEb : E = p.seq + p.len := by rw [← hE]; rfl
    have wE : IntKind.i64.wrap (p.seq + p.len) = E := by rw [hEb]; exact IntWalk.i64_in _ (by omega)
    obtain ⟨S1, hS1⟩ : ∃ S, p.at_ + v.took = S := ⟨_, rfl⟩
    have wS : IntKind.i64.wrap (p.at_ + v.took) = S1 := by rw [← hS1]; exact IntWalk.i64_in _ (by omega)
    obtain ⟨D, hD⟩ : ∃ D, S1 + slack = D := ⟨_, rfl⟩
    have wD : IntKind.i64.wrap (S1 + slack) = D := by rw [← hD]; exact IntWalk.i64_in _ (by omega)
    have hdue : dueR v slack p = D := by unfold dueR; rw [hS1, hD]
    have HE := Lib.hid hE; have HDUE := Lib.hid hdue
    clear hc X hpk hpw hp hkl htk hF hN hE hEb hS1 hD hdue hbl
    go_upto_region 12 with fail
    have n5 := Bx.new wr 26 [.int .i64 p.seq, .int .i64 p.len, .int .i64 p.dsn, .int .i64 p.at_, .int .i64 p.tries, .bool p.came, .bool p.lost, .int .i64 p.total, .int .i64 p.last]
    have e5 := er.alloc (.cells #[.int .i64 p.seq, .int .i64 p.len, .int .i64 p.dsn, .int .i64 p.at_, .int .i64 p.tries, .bool p.came, .bool p.lost, .int .i64 p.total, .int .i64 p.last] 26); have g5 := HG.out.alloc (.cells #[.int .i64 p.seq, .int .i64 p.len, .int .i64 p.dsn, .int .i64 p.at_, .int .i64 p.tries, .bool p.came, .bool p.lost, .int .i64 p.total, .int .i64 p.last] 26); have b5 := br.alloc (Nat.le_of_lt er.lt) (.cells #[.int .i64 p.seq, .int .i64 p.len, .int .i64 p.dsn, .int .i64 p.at_, .int .i64 p.tries, .bool p.came, .bool p.lost, .int .i64 p.total, .int .i64 p.last] 26)
    obtain ⟨Q, hQ⟩ : ∃ Q, wr.heap.size = Q := ⟨_, rfl⟩
    rw [hQ] at n5 ⊢
    generalize wr.alloc (.cells #[.int .i64 p.seq, .int .i64 p.len, .int .i64 p.dsn, .int .i64 p.at_, .int .i64 p.tries, .bool p.came, .bool p.lost, .int .i64 p.total, .int .i64 p.last] 26) = w5 at n5 e5 g5 b5 ⊢
    have HG5 := Lib.hid g5
    clear c0 c1 c2 c3 c4 c5 c6 c7 c8 g5 HG er br hQ
    have x0 := n5.cell 0 rfl; have x1 := n5.cell 1 rfl; have x3 := n5.cell 3 rfl; have x5 := n5.cell 5 rfl; have x6 := n5.cell 6 rfl
    have y0 := e5.cell 0 rfl; have y1 := e5.cell 1 rfl; have y2 := e5.cell 2 rfl
    cases h5 : p.came with
    | true =>
      rw [h5] at x5
      have H5 := Lib.hid h5; clear h5
      have hrs := round_skip (v := v) (now := now) (slack := slack) HKL.out (late_none (by rw [HP.out]; exact seen_came H5.out)) (wait_none (by rw [HP.out]; exact seen_came H5.out))
      rw [HF.out, HNX.out] at hrs
      have HRS := Lib.hid hrs; clear hrs
      go_wp2_with fail
      go_roundw
      case rel => exact ⟨k + 1, by omega, by go_num, by rw [HRS.out.2.1], by rw [HRS.out.2.2], Lib.hid (by rw [← HRS.out.1]; exact HG5.out), e5, b5⟩
      case measure => simp [intOf]; omega
    | false =>
    rw [h5] at x5
    have H5 := Lib.hid h5; clear h5
    cases h6 : p.lost with
    | true =>
      rw [h6] at x6
      have H6 := Lib.hid h6; clear h6
      have hrs := round_skip (v := v) (now := now) (slack := slack) HKL.out (late_none (by rw [HP.out]; exact seen_lost H6.out)) (wait_none (by rw [HP.out]; exact seen_lost H6.out))
      rw [HF.out, HNX.out] at hrs
      have HRS := Lib.hid hrs; clear hrs
      go_wp2_with fail
      go_roundw
      case rel => exact ⟨k + 1, by omega, by go_num, by rw [HRS.out.2.1], by rw [HRS.out.2.2], Lib.hid (by rw [← HRS.out.1]; exact HG5.out), e5, b5⟩
      case measure => simp [intOf]; omega
    | false =>
    rw [h6] at x6
    have H6 := Lib.hid h6; clear h6
    cases hah : aheadB p.at_ E v.at_ v.end_ with
    | false =>
      have HAH := Lib.hid hah; clear hah
      have hrs := round_skip (v := v) (now := now) (slack := slack) HKL.out (late_none (by rw [HP.out]; exact ((seen_else H5.out H6.out).trans (by rw [HE.out]; exact HAH.out)))) (wait_none (by rw [HP.out]; exact ((seen_else H5.out H6.out).trans (by rw [HE.out]; exact HAH.out))))
      rw [HF.out, HNX.out] at hrs
      have HRS := Lib.hid hrs; clear hrs
      go_wp2_with (first | (go_at_call 28; refine (rkahead_any _ _ _ _ _).mono ?_; rintro e wx ⟨rfl, rfl⟩; rw [HAH.out]) | fail)
      go_roundw
      case rel => exact ⟨k + 1, by omega, by go_num, by rw [HRS.out.2.1], by rw [HRS.out.2.2], Lib.hid (by rw [← HRS.out.1]; exact HG5.out), e5, b5⟩
      case measure => simp [intOf]; omega
    | true =>
    have HAH := Lib.hid hah; clear hah
    have hsn : seenB v p = true := (seen_else H5.out H6.out).trans (by rw [HE.out]; exact HAH.out)
    have HSN := Lib.hid hsn; clear hsn
    by_cases hdn : D ≤ now
    case pos =>
      have dn : decide (D ≤ now) = true := decide_eq_true hdn
      have hrs := round_late (v := v) (now := now) (slack := slack) HKL.out (late_yes (by rw [HP.out]; exact HSN.out) (by rw [HP.out, HDUE.out]; exact hdn)) (wait_no (by rw [HP.out]; exact HSN.out) (by rw [HP.out, HDUE.out]; exact hdn))
      rw [HF.out, HNX.out, HP.out] at hrs
      have HRS := Lib.hid hrs; clear hrs hdn
      have hw1 : IntKind.i64.wrap (F + 1) = F + 1 := IntWalk.i64_in _ (by omega)
      obtain ⟨g, cap, hv3, hgB1, hgB2⟩ := HG5.out.row.form (by omega)
      subst hv3
      have hge : ge (lostTo v now slack l k) k = p := by rw [lostTo_ge HKL.out, HP.out]
      have htl : (lostTo v now slack l k).length = n := HG5.out.len
      have i9 : k * 9 + 9 ≤ n * 9 := by omega
      have e9 : n * El.k Prt = n * 9 := rfl
      have z6 := (HG5.out.row.cellAt (k * 9 + 6) (by omega)).trans (evals_at _ k 6 (.bool p.lost) (by omega) (by rw [hge]; rfl))
      have f6 := HG5.out.row.frozenAt (k * 9 + 6)
      obtain ⟨q1, _⟩ := HG5.out.set (i := k) (j := 6) (u := .bool true) (y := { p with lost := true }) hlt (by decide) (by rw [hge]; rfl) ⟨HPW.out.seq, HPW.out.len, HPW.out.dsn, HPW.out.at_, HPW.out.tries, HPW.out.total, HPW.out.last⟩
      change Goe (w5.setCell ⟨g, k * 9 + 6, none⟩ _) _ _ _ _ _ at q1
      rw [HRS.out.1] at q1
      have e6 := e5.far (p := ⟨g, k * 9 + 6, none⟩) (by show B ≠ g; omega) (.bool true)
      have b6 := b5.setCell (p := ⟨g, k * 9 + 6, none⟩) (by show B ≤ g; omega) (.bool true)
      have HQ1 := Lib.hid q1
      clear q1 hge htl i9 e9
      go_upto_region 16 with (go_at_call 28; refine (rkahead_any _ _ _ _ _).mono ?_; rintro e wx ⟨rfl, rfl⟩; rw [HAH.out])
      generalize w5.setCell ⟨g, k * 9 + 6, none⟩ (.bool true) = w6 at HQ1 e6 b6 ⊢
      clear n5 e5 b5 x0 x1 x3 x5 x6 y0 y1 y2 z6 f6
      go_wp2_with fail
      go_roundw
      case rel => exact ⟨k + 1, by omega, by go_num, by rw [HRS.out.2.1], by rw [HRS.out.2.2], Lib.hid (by exact HQ1.out), e6, b6⟩
      case measure => simp [intOf]; omega
    case neg =>
    have dn : decide (D ≤ now) = false := decide_eq_false hdn
    have hrs := round_wait (v := v) (now := now) (slack := slack) HKL.out (late_no (by rw [HP.out]; exact HSN.out) (by rw [HP.out, HDUE.out]; exact hdn)) (wait_yes (by rw [HP.out]; exact HSN.out) (by rw [HP.out, HDUE.out]; exact hdn))
    rw [HF.out, HNX.out, HP.out, HDUE.out] at hrs
    have HRS := Lib.hid hrs; clear hrs hdn
    by_cases hn0 : N = 0
    case pos =>
      have dz : (N == 0) = true := by simpa using hn0
      have hst : nextStep N D = D := if_pos (.inl hn0)
      have HST := Lib.hid hst; clear hst hn0
      go_wp2_with (go_at_call 28; refine (rkahead_any _ _ _ _ _).mono ?_; rintro e wx ⟨rfl, rfl⟩; rw [HAH.out])
      go_roundw
      case rel => exact ⟨k + 1, by omega, by go_num, by rw [HRS.out.2.1], by rw [HRS.out.2.2, HST.out], Lib.hid (by rw [← HRS.out.1]; exact HG5.out), e5, b5⟩
      case measure => simp [intOf]; omega
    case neg =>
    have dz : (N == 0) = false := by simpa using hn0
    by_cases hdN : D < N
    case pos =>
      have d2 : decide (D < N) = true := decide_eq_true hdN
      have hst : nextStep N D = D := if_pos (.inr hdN)
      have HST := Lib.hid hst; clear hst hn0 hdN
      go_wp2_with (go_at_call 28; refine (rkahead_any _ _ _ _ _).mono ?_; rintro e wx ⟨rfl, rfl⟩; rw [HAH.out])
      go_roundw
      case rel => exact ⟨k + 1, by omega, by go_num, by rw [HRS.out.2.1], by rw [HRS.out.2.2, HST.out], Lib.hid (by rw [← HRS.out.1]; exact HG5.out), e5, b5⟩
      case measure => simp [intOf]; omega
    case neg =>
    have d2 : decide (D < N) = false := decide_eq_false hdN
    have hst : nextStep N D = N := if_neg (fun h => h.elim hn0 hdN)
    have HST := Lib.hid hst; clear hst hn0 hdN
    go_wp2_with (go_at_call 28; refine (rkahead_any _ _ _ _ _).mono ?_; rintro e wx ⟨rfl, rfl⟩; rw [HAH.out])
    go_roundw
    case rel => exact ⟨k + 1, by omega, by go_num, by rw [HRS.out.2.1], by rw [HRS.out.2.2, HST.out], Lib.hid (by rw [← HRS.out.1]; exact HG5.out), e5, b5⟩
    case measure => simp [intOf]; omega
end Go.Proofs.Ytlanplobdgchaaa
