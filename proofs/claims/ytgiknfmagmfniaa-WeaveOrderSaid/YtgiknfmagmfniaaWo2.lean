/- Package weave: isClean as contracts of the calls. -/
import Derived.Test.YtgiknfmagmfniaaProg
import Derived.Test.YtgiknfmagmfniaaWo1
import Derived.Test.YtgiknfmagmfniaaWoMath
import Derived.WalkKit
import Derived.WalkSpells
import Derived.WalkSmall
import Derived.Lib.Hide
import Derived.Below
import Derived.Outline
namespace Go.Proofs.Ytgiknfmagmfniaa
open Go.RowKit
set_option linter.unusedSimpArgs false
set_option linter.unusedVariables false


set_option maxRecDepth 100000 in
set_option maxHeartbeats 4000000 in
theorem wclean_any (base : Int) (A : Option Addr) (n c : Nat) (G : Option Addr) (m d : Nat) (cap en : Int) (bl : List Int) (gl : List Sp) (w : World) (hb : Sl w A n c bl) (hg : Ss w G m d gl) (h0 : 0 ≤ base) (h1 : base ≤ 2305843009213693952) (hc : chain (base - 1) gl = true) (hU : lastOf base gl = base + n) (hn : n ≤ 65536) (hm : m ≤ 1000) :
    Calls Try.prog 47 #[.agg #[.int .i64 base, .slice A n c, .slice G m d, .int .i64 cap, .int .i64 en]] w fun e w' => e = .returned (.bool (okW ⟨base, bl, gl, cap, en⟩)) ∧ Below w.heap.size w w' := by
  have hbl := hb.rd.len
  have hgl := hg.rd.len
  have e0 := Bx.new w 25 [.int .i64 base, .slice A n c, .slice G m d, .int .i64 cap, .int .i64 en]
  have hb0 : Below w.heap.size w (w.alloc (.cells #[.int .i64 base, .slice A n c, .slice G m d, .int .i64 cap, .int .i64 en] 25)) := (Below.refl _ _).alloc (Nat.le_refl _) _
  obtain ⟨B, hB⟩ : ∃ B, w.heap.size = B := ⟨_, rfl⟩
  rw [hB] at e0 hb0
  obtain ⟨w0, hw0⟩ : ∃ w0, w.alloc (.cells #[.int .i64 base, .slice A n c, .slice G m d, .int .i64 cap, .int .i64 en] 25) = w0 := ⟨_, rfl⟩
  have e1 : Bx w0 B 25 [.int .i64 base, .slice A n c, .slice G m d, .int .i64 cap, .int .i64 en] := by rw [← hw0]; exact e0
  have b1 : Below B w w0 := by rw [← hw0]; exact hb0
  clear e0 hb0
  have hbk : ∀ {w' : World}, Below B w w' → Sl w' A n c bl := fun h => hb.keep (by rw [hB]; exact h)
  have hgk : ∀ {w' : World}, Below B w w' → Ss w' G m d gl := fun h => hg.keep (by rw [hB]; exact h)
  have x0 := e1.cell 0 rfl
  have x2 := e1.cell 2 rfl
  have HC := Lib.hid hc; clear hc
  have HU := Lib.hid hU; clear hU
  have fin : ∀ {v : Bool}, v = okW ⟨base, bl, gl, cap, en⟩ → Ending.returned (.bool v) = .returned (.bool (okW ⟨base, bl, gl, cap, en⟩)) := fun h => by rw [h]
  go_enter Try.func47, Try.ntmps47
  rw [hB]
  go_wp2_with fail
  clear x0 x2
  go_loopw [3, 12] (fun g i wr => ∃ k : Nat, k ≤ m ∧ i = .int .i64 (k : Int) ∧ g = .int .i64 (lastOf base (gl.take k)) ∧ Cl gl bl base k ∧ Bx wr B 25 [.int .i64 base, .slice A n c, .slice G m d, .int .i64 cap, .int .i64 en] ∧ Below B w wr) (fun _ i _ => m - (intOf i).toNat)
  case atStart => exact ⟨0, Nat.zero_le _, rfl, rfl, cl_zero _ _ _, e1, b1⟩
  case round =>
    obtain ⟨k, hk, rfl, rfl, hcl, e5, b5⟩ := hrel
    have HCL := Lib.hid hcl; clear hcl
    have hge := last_base_ge HC.out k
    by_cases hlt : k < m
    · have hkl : k < gl.length := by omega
      obtain ⟨gb, go, hG', hgb, hgc⟩ := hg.rd.at_ (by omega)
      have c1 := (b5.cell (p := ⟨gb, go + k * 2, none⟩) (by rw [← hB]; exact hgb)).trans (hgc k hlt).1
      have c2 := (b5.cell (p := ⟨gb, go + k * 2 + 1, none⟩) (by rw [← hB]; exact hgb)).trans (hgc k hlt).2
      have hsp := (ch_split HC.out hkl).2
      have hlb := last_base base (gl.take k)
      have hle : lastOf base (gl.take k) ≤ (sp gl k).1 := by
        cases k with
        | zero => rw [List.take_zero, lastOf_nil]; have := hsp.1; rw [List.take_zero, lastOf_nil] at this; omega
        | succ k' =>
          rw [last_take (d := base) (by omega)]
          have := hsp.1
          rw [last_take (d := base - 1) (by omega)] at this; omega
      have hup : (sp gl k).2 ≤ base + n := by
        rw [← HU.out, show lastOf base gl = lastOf (base - 1) gl from last_any (fun e => by rw [e] at hkl; simp at hkl)]
        exact last_split HC.out hkl
      have hs2 := hsp.2.1
      have HLG := Lib.hid (show lastOf base (gl.take k) = lastOf base (gl.take k) from rfl)
      obtain ⟨g, hgd⟩ : ∃ g, lastOf base (gl.take k) = g := ⟨_, rfl⟩
      obtain ⟨p1, hp1⟩ : ∃ p1, (sp gl k).1 = p1 := ⟨_, rfl⟩
      obtain ⟨p2, hp2⟩ : ∃ p2, (sp gl k).2 = p2 := ⟨_, rfl⟩
      rw [hp1] at c1 hle hs2
      rw [hp2] at c2 hup hs2
      rw [hgd] at hge hle ⊢
      obtain ⟨hs3, hs4, hs5⟩ := hs2
      have HG := Lib.hid hgd; clear hgd
      have HP1 := Lib.hid hp1; clear hp1
      have HP2 := Lib.hid hp2; clear hp2
      clear hgc hsp HLG hlb
      obtain ⟨r, hr⟩ : ∃ r : Nat, p1 - g = (r : Int) := ⟨(p1 - g).toNat, by omega⟩
      obtain ⟨q, hq⟩ : ∃ q : Nat, g - base = (q : Int) := ⟨(g - base).toNat, by omega⟩
      obtain ⟨w6, hw6⟩ : ∃ w6, wr.alloc (.cells #[.int .i64 p1, .int .i64 p2] 52) = w6 := ⟨_, rfl⟩
      have e6 : Bx w6 B 25 [.int .i64 base, .slice A n c, .slice G m d, .int .i64 cap, .int .i64 en] := by rw [← hw6]; exact e5.alloc _
      have s6 : Boxed2 w6 wr.heap.size 52 (.int .i64 p1) (.int .i64 p2) := by rw [← hw6]; exact Boxed2.new wr _ _ _
      have b6 : Below B w w6 := by rw [← hw6]; exact b5.alloc (Nat.le_of_lt e5.lt) _
      have y1 := s6.fst
      have y2 := s6.snd
      subst hG'
      go_wp2_with fail
      go_loopw [20] (fun j wz => ∃ jn : Nat, jn ≤ r ∧ j = .int .i64 (jn : Int) ∧ (∀ t : Nat, t < jn → byt bl (q + t) = 0) ∧ w6 = wz) (fun j _ => r - (intOf j).toNat)
      case atStart => exact ⟨0, Nat.zero_le _, rfl, fun t ht => by omega, rfl⟩
      case round =>
        obtain ⟨jn, hj, rfl, hall, rfl⟩ := hrel
        have HA := Lib.hid hall; clear hall
        have z0 := e6.cell 0 rfl
        have z1 := e6.cell 1 rfl
        by_cases hjl : jn < r
        · obtain ⟨bb, bo, hA', hbb, hcb⟩ := hb.rd.at_ (by omega)
          obtain ⟨z, hz⟩ : ∃ z : Nat, (q : Int) + (jn : Int) = (z : Int) := ⟨q + jn, by omega⟩
          have hcell := (b6.cell (p := ⟨bb, bo + z, none⟩) (by rw [← hB]; exact hbb)).trans (hcb z (by omega))
          obtain ⟨x, hx⟩ : ∃ x, byt bl z = x := ⟨_, rfl⟩
          rw [hx] at hcell
          have HX := Lib.hid hx; clear hx
          have hzn : (z : Int) < (n : Int) := by omega
          subst hA'
          clear hcb
          by_cases hx0 : x = 0
          · have dx : (x != (0 : Int)) = false := by simpa using hx0
            have HX0 := Lib.hid hx0; clear hx0
            have HZ := Lib.hid hz
            go_wp2_with fail
            clear hz
            go_roundw
            case rel =>
              refine ⟨jn + 1, by omega, by go_num, fun t ht => ?_, (by first | rfl | trivial)⟩
              by_cases h : t < jn
              · exact HA.out t h
              · obtain rfl : t = jn := by omega
                rw [show q + t = z by have := HZ.out; omega]
                exact HX.out.trans HX0.out
            case measure => simp [intOf]; omega
          · have dx : (x != (0 : Int)) = true := by simpa using hx0
            have HX0 := Lib.hid hx0; clear hx0
            have hbad : false = okW ⟨base, bl, gl, cap, en⟩ := (cl_bad HC.out hkl (i := z) (by rw [HG.out]; omega) (by rw [HP1.out]; omega) (by omega) (by rw [HX.out]; exact HX0.out)).symm
            have HBAD := Lib.hid hbad; clear hbad
            go_wp2_with fail
            go_ret
            exact ⟨fin HBAD.out, b6⟩
        · have hnext : Cl gl bl base (k + 1) := cl_succ hkl HCL.out (fun i h2 h3 => by
            rw [HG.out] at h2
            rw [HP1.out] at h3
            have := HA.out (i - q) (by omega)
            rw [show q + (i - q) = i by omega] at this
            exact this)
          have HN := Lib.hid hnext; clear hnext
          go_wp2_with fail
          go_roundw
          case rel => exact ⟨k + 1, by omega, by go_num, by rw [last_take hkl, HP2.out], HN.out, e6, b6⟩
          case measure => simp [intOf]; omega
    · obtain rfl : m = k := by omega
      have hend : true = okW ⟨base, bl, gl, cap, en⟩ := (cl_end (cap := cap) (en := en) (by rw [hgl]; exact HCL.out) (by rw [hbl]; exact HU.out)).symm
      have HE := Lib.hid hend; clear hend
      go_wp2_with fail
      go_ret
      exact ⟨fin HE.out, b5⟩
end Go.Proofs.Ytgiknfmagmfniaa
