/- Package sent as it landed: Span, Flight as contracts of the calls. -/
import Derived.Test.YtlanplobdgchaaaStL2
namespace Go.Proofs.Ytlanplobdgchaaa
open Go.RowKit
set_option linter.unusedVariables false
set_option linter.unusedSimpArgs false

set_option maxRecDepth 100000 in
set_option maxHeartbeats 8000000 in
theorem stflight_any (A : Option Addr) (n c : Nat) (l : List Prt) (w : World) (hs : Se w A n c l) :
    Calls Try.prog 21 #[.slice A n c] w fun e w' => e = .returned (.int .i64 (flightR l)) ∧ Below w.heap.size w w' := by
  have hl := hs.rd.len
  have m1 := hs.le
  have m2 := hs.max
  have m3 : n ≤ 9223372036854775807 := by unfold maxLen at m2; omega
  clear m1 m2
  obtain ⟨x, hx⟩ : ∃ x, flightR l = x := ⟨_, rfl⟩
  rw [hx]
  have HX := Lib.hid hx
  have HA := Lib.hid hs; have HL := Lib.hid hl
  have hm := stmay_any A n c l w hs
  clear hx hl hs
  go_enter Try.func21, Try.ntmps21
  cases hk : smayB l with
  | false =>
    have hx := HX.out
    rw [show flightR l = 0 by unfold flightR; rw [if_neg (by rw [hk]; simp)]] at hx
    subst hx
    rw [hk] at hm
    clear HX hk
    go_wp2_with (go_at_call 20; refine hm.mono ?_; rintro e w2 ⟨rfl, hb2⟩)
    go_ret
    exact ⟨rfl, hb2⟩
  | true =>
  rw [hk] at hm
  obtain ⟨hle, hch⟩ := (smay_iff l).1 hk
  have hx := HX.out
  rw [show flightR l = flySum l by unfold flightR; rw [if_pos hk]] at hx
  have HX2 := Lib.hid hx
  have HCH := Lib.hid hch
  have hn5 : n ≤ 500 := by have := HL.out; omega
  clear HX hk hx hch hle
  go_wp2_with (go_at_call 20; refine hm.mono ?_; rintro e w2 ⟨rfl, hb2⟩)
  go_loopw [3, 11] (fun s i wr => ∃ k : Nat, k ≤ n ∧ s = .int .i64 (flySum (l.take k)) ∧ i = .int .i64 (k : Int) ∧ Below w.heap.size w wr) (fun _ i _ => n - (intOf i).toNat)
  case atStart => exact ⟨0, Nat.zero_le _, rfl, rfl, hb2⟩
  case round =>
    obtain ⟨k, hkn, rfl, rfl, hb⟩ := hrel
    by_cases hlt : k < n
    · obtain ⟨b, o, rfl, hbl, hc⟩ := HA.out.rd.at_ (by omega)
      have X := (prt_at hc hlt).keep hb hbl
      have hbd := flySum_bd HCH.out k (by rw [HL.out]; omega)
      have hfl := flyL_bd (HCH.out k (by rw [HL.out]; omega)).1
      have hsn : flySum (l.take (k + 1)) = flySum (l.take k) + flyL (ge l k) := by rw [take_ge (by rw [HL.out]; omega), flySum_snoc]
      obtain ⟨p, hp⟩ : ∃ p, ge l k = p := ⟨_, rfl⟩
      rw [hp] at X hfl hsn
      have HSN := Lib.hid hsn
      obtain ⟨x0, x1, x2, x3, x4, x5, x6, x7, x8⟩ := X
      obtain ⟨P, hP⟩ : ∃ P, wr.heap.size = P := ⟨_, rfl⟩
      have eP : Bx (wr.alloc (.cells #[.int .i64 p.seq, .int .i64 p.len, .int .i64 p.dsn, .int .i64 p.at_, .int .i64 p.tries, .bool p.came, .bool p.lost, .int .i64 p.total, .int .i64 p.last] 26)) P 26 [.int .i64 p.seq, .int .i64 p.len, .int .i64 p.dsn, .int .i64 p.at_, .int .i64 p.tries, .bool p.came, .bool p.lost, .int .i64 p.total, .int .i64 p.last] := hP ▸ Bx.new wr 26 [.int .i64 p.seq, .int .i64 p.len, .int .i64 p.dsn, .int .i64 p.at_, .int .i64 p.tries, .bool p.came, .bool p.lost, .int .i64 p.total, .int .i64 p.last]
      have hwP : w.heap.size ≤ P := hP ▸ hb.size
      have bP : Below w.heap.size w (wr.alloc (.cells #[.int .i64 p.seq, .int .i64 p.len, .int .i64 p.dsn, .int .i64 p.at_, .int .i64 p.tries, .bool p.came, .bool p.lost, .int .i64 p.total, .int .i64 p.last] 26)) := hb.alloc (hP ▸ hwP) _
      clear hsn hp hc
      obtain ⟨s, hs⟩ : ∃ s, flySum (l.take k) = s := ⟨_, rfl⟩
      rw [hs] at hbd ⊢
      have HS := Lib.hid hs
      clear hs
      have hk0 : (k : Int) < (n : Int) := by omega
      go_upto_region 7 with fail
      clear x0 x1 x2 x3 x4 x5 x6 x7 x8
      try rw [hP]
      clear hP
      generalize wr.alloc (.cells #[.int .i64 p.seq, .int .i64 p.len, .int .i64 p.dsn, .int .i64 p.at_, .int .i64 p.tries, .bool p.came, .bool p.lost, .int .i64 p.total, .int .i64 p.last] 26) = wA at eP bP ⊢
      have c1 := eP.cell 1 rfl; have c5 := eP.cell 5 rfl; have c6 := eP.cell 6 rfl
      cases h5 : p.came with
      | true =>
        rw [h5] at c5
        have hz : flyL p = 0 := by unfold flyL; rw [h5]; rfl
        have HZ := Lib.hid hz; clear hz h5 hfl
        go_wp2_with fail
        go_roundw
        case rel => exact ⟨k + 1, by omega, by rw [HSN.out, HZ.out, HS.out, Int.add_zero], by go_num, bP⟩
        case measure => simp [intOf]; omega
      | false =>
      rw [h5] at c5
      cases h6 : p.lost with
      | true =>
        rw [h6] at c6
        have hz : flyL p = 0 := by unfold flyL; rw [h5, h6]; rfl
        have HZ := Lib.hid hz; clear hz h5 h6 hfl
        go_wp2_with fail
        go_roundw
        case rel => exact ⟨k + 1, by omega, by rw [HSN.out, HZ.out, HS.out, Int.add_zero], by go_num, bP⟩
        case measure => simp [intOf]; omega
      | false =>
        rw [h6] at c6
        have hz : flyL p = p.len := by unfold flyL; rw [h5, h6]; rfl
        rw [hz] at hfl
        have HZ := Lib.hid hz; clear hz h5 h6
        have hs1 : IntKind.i64.wrap (s + p.len) = s + p.len := IntWalk.i64_in _ (by omega)
        go_wp2_with fail
        go_roundw
        case rel => exact ⟨k + 1, by omega, by rw [HSN.out, HZ.out, HS.out], by go_num, bP⟩
        case measure => simp [intOf]; omega
    · obtain rfl : k = n := by omega
      have hx : flySum (l.take k) = x := by rw [← HX2.out, ← HL.out, List.take_length]
      rw [hx]
      have hd : decide (k < k) = false := decide_eq_false (by omega)
      clear hx
      go_wp2_with fail
      go_ret
      exact ⟨rfl, hb⟩
end Go.Proofs.Ytlanplobdgchaaa
