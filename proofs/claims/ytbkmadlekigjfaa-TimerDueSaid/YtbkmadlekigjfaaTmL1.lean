/- Package timer as it landed: May, Due, latest as contracts of the calls. -/
import Derived.Test.YtbkmadlekigjfaaStL2
import Derived.Test.YtbkmadlekigjfaaTmRef3
import Derived.Test.YtbkmadlekigjfaaTmRef2
namespace Go.Proofs.Ytbkmadlekigjfaa
open Go.RowKit
set_option linter.unusedVariables false
set_option linter.unusedSimpArgs false

theorem twin_any (n lo hi : Int) (w : World) :
    Calls Try.prog 19 #[.int .i64 n, .int .i64 lo, .int .i64 hi] w fun e w' => e = .returned (.bool (winB n lo hi)) ∧ w = w' := by
  by_cases h1 : lo ≤ n
  · have e1 : winB n lo hi = decide (n ≤ hi) := by unfold winB; rw [decide_eq_true h1]; rfl
    rw [e1]
    clear e1
    have d1 : decide (lo ≤ n) = true := decide_eq_true h1
    go_enter Try.func19, Try.ntmps19
    go_wp2
    go_ret
    exact ⟨rfl, rfl⟩
  · have e1 : winB n lo hi = false := by unfold winB; rw [decide_eq_false h1]; rfl
    rw [e1]
    clear e1
    have d1 : decide (lo ≤ n) = false := decide_eq_false h1
    go_enter Try.func19, Try.ntmps19
    go_wp2
    go_ret
    exact ⟨rfl, rfl⟩
theorem tmB_still {v : Tmr} (h : v.kd = 0) : tmB v = (v.at_ == 0) := by
  rw [Bool.eq_iff_iff, tmB_iff, beq_iff_eq]
  refine ⟨fun g => ?_, fun g => ⟨by omega, by omega, by omega, by omega, .inr g⟩⟩
  rcases g.z with z | z
  · omega
  · exact z
theorem tmB_set {v : Tmr} (h : v.kd ≠ 0) : tmB v = (winB v.kd 0 2 && winB v.at_ 0 2305843009213693952) := by
  rw [Bool.eq_iff_iff, tmB_iff, Bool.and_eq_true, win_iff, win_iff]
  exact ⟨fun g => ⟨⟨g.k0, g.k1⟩, g.a0, g.a1⟩, fun ⟨⟨a, b⟩, c, d⟩ => ⟨a, b, c, d, .inl (by omega)⟩⟩

set_option maxRecDepth 100000 in
set_option maxHeartbeats 8000000 in
theorem timay_any (v : Tmr) (w : World) :
    Calls Try.prog 11 #[.agg #[.int .i64 v.kd, .int .i64 v.at_]] w fun e w' => e = .returned (.bool (tmB v)) ∧ Below w.heap.size w w' := by
  obtain ⟨B, hB⟩ : ∃ B, w.heap.size = B := ⟨_, rfl⟩
  have e0 := Bx.new w 28 [.int .i64 v.kd, .int .i64 v.at_]
  rw [hB] at e0 ⊢
  have b0 : Below B w (w.alloc (.cells #[.int .i64 v.kd, .int .i64 v.at_] 28)) := by rw [← hB]; exact (Below.refl _ _).alloc (Nat.le_refl _) _
  obtain ⟨q, hq⟩ : ∃ q, tmB v = q := ⟨_, rfl⟩
  rw [hq]
  go_enter Try.func11, Try.ntmps11
  go_upto_region 1 with fail
  change Code.wp _ _ _ _ (w.alloc (.cells #[.int .i64 v.kd, .int .i64 v.at_] 28))
  generalize w.alloc (.cells #[.int .i64 v.kd, .int .i64 v.at_] 28) = w1 at e0 b0 ⊢
  have c0 := e0.cell 0 rfl; have c1 := e0.cell 1 rfl
  by_cases hk : v.kd = 0
  · have hF : q = (v.at_ == 0) := by rw [← hq]; exact tmB_still hk
    have dk : (v.kd == 0) = true := by simpa using hk
    subst hF
    clear hq hk
    go_wp2_with fail
    go_ret
    exact ⟨rfl, b0⟩
  have dk : (v.kd == 0) = false := by simpa using hk
  rw [tmB_set hk] at hq
  clear hk
  cases h0 : winB v.kd 0 2 with
  | false =>
    have hF : q = false := by rw [← hq, h0]; rfl
    subst hF
    clear hq
    go_wp2_with (go_at_call 19; refine (twin_any _ _ _ _).mono ?_; rintro e wx ⟨rfl, rfl⟩)
    go_ret
    exact ⟨rfl, b0⟩
  | true =>
  have hF : q = winB v.at_ 0 2305843009213693952 := by rw [← hq, h0]; rfl
  subst hF
  clear hq
  go_wp2_with (go_at_call 19; refine (twin_any _ _ _ _).mono ?_; rintro e wx ⟨rfl, rfl⟩)
  go_ret
  exact ⟨rfl, b0⟩

set_option maxRecDepth 100000 in
set_option maxHeartbeats 8000000 in
theorem tidue_any (v : Tmr) (now : Int) (w : World) :
    Calls Try.prog 13 #[.agg #[.int .i64 v.kd, .int .i64 v.at_], .int .i64 now] w fun e w' => e = .returned (.int .i64 (tdueR v now)) ∧ Below w.heap.size w w' := by
  obtain ⟨B, hB⟩ : ∃ B, w.heap.size = B := ⟨_, rfl⟩
  rw [hB]
  have e0 := Bx.new w 28 [.int .i64 v.kd, .int .i64 v.at_]
  rw [hB] at e0
  have b0 : Below B w (w.alloc (.cells #[.int .i64 v.kd, .int .i64 v.at_] 28)) := by rw [← hB]; exact (Below.refl _ _).alloc (Nat.le_refl _) _
  go_enter Try.func13, Try.ntmps13
  go_wp2_with (refine tm_load rfl (.tmp 2) rfl rfl e0 rfl ?_)
  generalize w.alloc (.cells #[.int .i64 v.kd, .int .i64 v.at_] 28) = w1 at e0 b0 ⊢
  refine (timay_any v _).mono ?_
  rintro e w2 ⟨rfl, hb2⟩
  have e2 := e0.kept hb2; have b2 := b0.trans (hb2.mono (Nat.le_of_lt e0.lt))
  have x0 := e2.cell 0 rfl; have x1 := e2.cell 1 rfl
  clear e0 b0 hb2
  cases hk : tmB v with
  | false =>
    have hz : tdueR v now = 0 := if_neg (fun h => by rw [hk] at h; cases h.1)
    have HZ := Lib.hid hz
    clear hz hk
    go_wp2_with fail
    go_ret
    exact ⟨by rw [HZ.out]; rfl, b2⟩
  | true =>
  by_cases c : now < v.at_
  · have d : decide (now < v.at_) = true := decide_eq_true c
    have hz : tdueR v now = 0 := if_neg (fun h => by have := h.2; omega)
    have HZ := Lib.hid hz
    clear hz hk
    go_wp2_with fail
    go_ret
    exact ⟨by rw [HZ.out]; rfl, b2⟩
  · have d : decide (now < v.at_) = false := decide_eq_false c
    have hz : tdueR v now = v.kd := if_pos ⟨hk, by omega⟩
    have HZ := Lib.hid hz
    clear hz hk
    go_wp2_with fail
    go_ret
    exact ⟨by rw [HZ.out]; rfl, b2⟩

/-- what latest tells -/
def latA (F : Int) : Int := if F < 0 then 0 else F
theorem latA_neg {F : Int} (h : F < 0) : latA F = 0 := if_pos h
theorem latA_pos {F : Int} (h : 0 ≤ F) : latA F = F := if_neg (by omega)

set_option maxRecDepth 100000 in
set_option maxHeartbeats 8000000 in
theorem tilatest_any (A : Option Addr) (n c : Nat) (l : List Prt) (w : World) (hs : Se w A n c l) (hok : smayB l = true) :
    Calls Try.prog 20 #[.slice A n c] w fun e w' => e = .returned (.tuple #[.int .i64 (latA (lastR l)), .bool (decide (0 ≤ lastR l))]) ∧ Below w.heap.size w w' := by
  have hl := hs.rd.len
  have m1 := hs.le
  have m2 := hs.max
  have m3 : n ≤ 9223372036854775807 := by unfold maxLen at m2; omega
  clear m1 m2
  have HL := Lib.hid hl; have HA := Lib.hid hs; have HOK := Lib.hid hok
  clear hs hl hok
  go_enter Try.func20, Try.ntmps20
  go_wp2_with fail
  go_loopw [4, 5, 10] (fun a s i wr => ∃ k : Nat, k ≤ n ∧ i = .int .i64 (k : Int) ∧ a = .int .i64 (latA (lastR (l.take k))) ∧ s = .bool (decide (0 ≤ lastR (l.take k))) ∧ Below w.heap.size w wr) (fun _ _ i _ => n - (intOf i).toNat)
  case atStart => exact ⟨0, Nat.zero_le _, rfl, rfl, rfl, Below.refl _ _⟩
  case round =>
    obtain ⟨k, hkn, rfl, rfl, rfl, hb⟩ := hrel
    by_cases hlt : k < n
    case neg =>
      obtain rfl : k = n := by omega
      have hd : decide (k < k) = false := decide_eq_false (by omega)
      have htk : l.take k = l := by rw [← HL.out]; exact List.take_length
      rw [htk]
      clear htk
      obtain ⟨F, hF⟩ : ∃ F, lastR l = F := ⟨_, rfl⟩
      rw [hF]
      obtain ⟨D, hD⟩ : ∃ D, latA F = D := ⟨_, rfl⟩
      rw [hD]
      have HF := Lib.hid hF; have HD := Lib.hid hD
      clear hF hD
      go_wp2_with fail
      go_ret2
      exact ⟨by rw [HF.out, HD.out]; rfl, hb⟩
    case pos =>
    have hd : decide (k < n) = true := decide_eq_true hlt
    have hkl : k < l.length := by rw [HL.out]; exact hlt
    have hst := lastR_take hkl
    have hlo := lastR_ok HOK.out k
    have hpk := parts_bd HOK.out (ge l k) (by rw [ge_eq hkl]; exact List.getElem_mem _)
    have hat := (t60_iff _).1 hpk.at_
    have hsr : Se wr A n c l := HA.out.keep hb
    obtain ⟨b, o, rfl, hbl, hc⟩ := hsr.rd.at_ (by omega)
    have X := prt_at hc hlt
    obtain ⟨p, hp⟩ : ∃ p, ge l k = p := ⟨_, rfl⟩
    rw [hp] at X hst hat
    obtain ⟨F, hF⟩ : ∃ F, lastR (l.take k) = F := ⟨_, rfl⟩
    rw [hF] at hst hlo ⊢
    obtain ⟨F0, F1⟩ := hlo
    obtain ⟨at0, at1⟩ := hat
    unfold lastStep outB at hst
    obtain ⟨x0, x1, x2, x3, x4, x5, x6, x7, x8⟩ := X
    obtain ⟨P, hP⟩ : ∃ P, wr.heap.size = P := ⟨_, rfl⟩
    have eP : Bx (wr.alloc (.cells #[.int .i64 p.seq, .int .i64 p.len, .int .i64 p.dsn, .int .i64 p.at_, .int .i64 p.tries, .bool p.came, .bool p.lost, .int .i64 p.total, .int .i64 p.last] 38)) P 38 [.int .i64 p.seq, .int .i64 p.len, .int .i64 p.dsn, .int .i64 p.at_, .int .i64 p.tries, .bool p.came, .bool p.lost, .int .i64 p.total, .int .i64 p.last] := hP ▸ Bx.new wr 38 [.int .i64 p.seq, .int .i64 p.len, .int .i64 p.dsn, .int .i64 p.at_, .int .i64 p.tries, .bool p.came, .bool p.lost, .int .i64 p.total, .int .i64 p.last]
    have hwP : w.heap.size ≤ P := hP ▸ hb.size
    have bP : Below w.heap.size w (wr.alloc (.cells #[.int .i64 p.seq, .int .i64 p.len, .int .i64 p.dsn, .int .i64 p.at_, .int .i64 p.tries, .bool p.came, .bool p.lost, .int .i64 p.total, .int .i64 p.last] 38)) := hb.alloc (hP ▸ hwP) _
    have HST := Lib.hid hst
    clear hst hpk hsr hbl hc hp hF hkl
    go_upto_region 5 with fail
    clear x0 x1 x2 x3 x4 x5 x6 x7 x8
    try rw [hP]
    generalize wr.alloc (.cells #[.int .i64 p.seq, .int .i64 p.len, .int .i64 p.dsn, .int .i64 p.at_, .int .i64 p.tries, .bool p.came, .bool p.lost, .int .i64 p.total, .int .i64 p.last] 38) = wA at eP bP ⊢
    obtain ⟨p0, p1, p2, pa, p4, came, lost, p7, p8⟩ := p
    dsimp only at at0 at1
    have x3 := eP.cell 3 rfl; have x5 := eP.cell 5 rfl; have x6 := eP.cell 6 rfl
    dsimp only at x3 x5 x6
    obtain ⟨D, hD⟩ : ∃ D, latA F = D := ⟨_, rfl⟩
    rw [hD]
    cases came with
    | true =>
      have hs2 : lastR (l.take (k + 1)) = F := by rw [HST.out]; simp
      have HS2 := Lib.hid hs2; have HD := Lib.hid hD; clear hs2 hD
      go_wp2_with fail
      go_roundw
      case rel => exact ⟨k + 1, by omega, by go_num, by rw [HS2.out, HD.out], by rw [HS2.out], bP⟩
      case measure => simp [intOf]; omega
    | false =>
    cases lost with
    | true =>
      have hs2 : lastR (l.take (k + 1)) = F := by rw [HST.out]; simp
      have HS2 := Lib.hid hs2; have HD := Lib.hid hD; clear hs2 hD
      go_wp2_with fail
      go_roundw
      case rel => exact ⟨k + 1, by omega, by go_num, by rw [HS2.out, HD.out], by rw [HS2.out], bP⟩
      case measure => simp [intOf]; omega
    | false =>
    by_cases ca : D < pa
    · have da : decide (D < pa) = true := decide_eq_true ca
      have hs2 : lastR (l.take (k + 1)) = pa := by
        rw [HST.out]
        by_cases g : F < 0
        · have : F < pa := by omega
          simp [this]
        · rw [latA_pos (by omega)] at hD
          simp [hD, ca]
      have HS2 := Lib.hid hs2; have HD := Lib.hid hD; clear hs2 hD
      go_wp2_with fail
      go_roundw
      case rel => exact ⟨k + 1, by omega, by go_num, by rw [HS2.out, latA_pos at0], by rw [HS2.out, decide_eq_true at0], bP⟩
      case measure => simp [intOf]; omega
    · have da : decide (D < pa) = false := decide_eq_false ca
      have hs2 : lastR (l.take (k + 1)) = D := by
        rw [HST.out]
        by_cases g : F < 0
        · rw [latA_neg g] at hD
          have : F < pa := by omega
          simp [this]; omega
        · rw [latA_pos (by omega)] at hD
          simp [hD, ca]
      have hD0 : 0 ≤ D := by
        by_cases g : F < 0
        · rw [latA_neg g] at hD; omega
        · rw [latA_pos (by omega)] at hD; omega
      have HS2 := Lib.hid hs2; have HD := Lib.hid hD; have HD0 := Lib.hid hD0; clear hs2 hD hD0
      go_wp2_with fail
      go_roundw
      case rel => exact ⟨k + 1, by omega, by go_num, by rw [HS2.out, latA_pos HD0.out], by rw [HS2.out, decide_eq_true HD0.out], bP⟩
      case measure => simp [intOf]; omega
end Go.Proofs.Ytbkmadlekigjfaa
