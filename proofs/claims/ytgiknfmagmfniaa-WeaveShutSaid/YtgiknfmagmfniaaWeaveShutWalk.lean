/- The walk of the law WeaveShut. -/
import Derived.Test.YtgiknfmagmfniaaProg
import Derived.Test.YtgiknfmagmfniaaWeAwake
import Derived.WalkKit
import Derived.WalkSpells
import Derived.Lib.Hide
import Derived.Below
import Derived.Outline
import Derived.Deep.RegionHeld3
namespace Go.Proofs.Ytgiknfmagmfniaa.weaveShut
open Go.RowKit
set_option linter.unusedVariables false
set_option linter.unusedSimpArgs false

set_option maxRecDepth 100000 in
set_option maxHeartbeats 4000000 in
theorem walk (x0 : Int) (a0 : Option Addr) (n0 c0 : Nat) (g0 : Option Addr) (m0 d0 : Nat) (y0 e0 : Int) (l0 : List Int) (p0 : List Sp) (z1 : Int) (a1 : Option Addr) (n1 c1 : Nat) (l1 : List Int) (w : World) (hx : W64 x0) (hy : W64 y0) (he : W64 e0) (h0 : Sl w a0 n0 c0 l0) (hg0 : Ss w g0 m0 d0 p0) (hz1 : W64 z1) (h1 : Sl w a1 n1 c1 l1) :
    Calls Try.prog 5 #[.agg #[.int .i64 x0, .slice a0 n0 c0, .slice g0 m0 d0, .int .i64 y0, .int .i64 e0], .int .i64 z1, .slice a1 n1 c1] w fun e w' => e = .returned (.bool true) ∧ Below w.heap.size w w' := by
  have hl1 := h1.rd.len
  have hz1' := hz1; unfold W64 at hz1'
  have hx' := hx; have hy' := hy; have he' := he; unfold W64 at hx' hy' he'
  have hl0 := h0.rd.len
  have hp0 := hg0.rd.len
  have x1 := Bx.new w 25 [.int .i64 x0, .slice a0 n0 c0, .slice g0 m0 d0, .int .i64 y0, .int .i64 e0]
  have s2 := h0.alloc (.cells #[.int .i64 x0, .slice a0 n0 c0, .slice g0 m0 d0, .int .i64 y0, .int .i64 e0] 25)
  have s3 := hg0.alloc (.cells #[.int .i64 x0, .slice a0 n0 c0, .slice g0 m0 d0, .int .i64 y0, .int .i64 e0] 25)
  have s4 := h1.alloc (.cells #[.int .i64 x0, .slice a0 n0 c0, .slice g0 m0 d0, .int .i64 y0, .int .i64 e0] 25)
  have b5 := (Below.refl w.heap.size w).alloc (Nat.le_refl _) (.cells #[.int .i64 x0, .slice a0 n0 c0, .slice g0 m0 d0, .int .i64 y0, .int .i64 e0] 25)
  have c6 := x1.cell 0 rfl
  have c7 := x1.cell 1 rfl
  have c8 := x1.cell 2 rfl
  have c9 := x1.cell 3 rfl
  have c10 := x1.cell 4 rfl
  go_enter Try.func5, Try.ntmps5
  go_wp2_with fail
  clear c6 c7 c8 c9 c10
  obtain ⟨v11, hv12⟩ : ∃ v11, w.alloc (.cells #[.int .i64 x0, .slice a0 n0 c0, .slice g0 m0 d0, .int .i64 y0, .int .i64 e0] 25) = v11 := ⟨_, rfl⟩
  have x1' : Bx v11 w.heap.size 25 [.int .i64 x0, .slice a0 n0 c0, .slice g0 m0 d0, .int .i64 y0, .int .i64 e0] := by rw [← hv12]; exact x1
  rw [hv12] at b5 s2 s3 s4 ⊢
  clear hv12 x1
  refine (awake_any _).mono ?_
  rintro e w14 ⟨rfl, hb13⟩
  have b16 := b5.trans (hb13.mono b5.size)
  have x17 := x1'.kept hb13
  have s18 := s2.keep hb13
  have s19 := s3.keep hb13
  have s20 := s4.keep hb13
  have c21 := x17.cell 0 rfl
  have c22 := x17.cell 1 rfl
  have c23 := x17.cell 2 rfl
  have c24 := x17.cell 3 rfl
  have c25 := x17.cell 4 rfl
  go_wp2_with fail
  refine (few_any x0 a0 n0 c0 g0 m0 d0 y0 e0 _).mono ?_
  rintro e w27 ⟨rfl, hb26⟩
  clear c21 c22 c23 c24 c25
  have b29 := b16.trans (hb26.mono b16.size)
  have x30 := x17.kept hb26
  have s31 := s18.keep hb26
  have s32 := s19.keep hb26
  have s33 := s20.keep hb26
  by_cases D0 : n0 ≤ 300
  case neg =>
    have hf : fewW n0 m0 = false := by unfold fewW; rw [decide_eq_false D0]; rfl
    rw [hf]
    have c34 := x30.cell 0 rfl
    have c35 := x30.cell 1 rfl
    have c36 := x30.cell 2 rfl
    have c37 := x30.cell 3 rfl
    have c38 := x30.cell 4 rfl
    go_wp2_with fail
    go_ret
    exact ⟨rfl, b29⟩
  case pos =>
  by_cases D1 : m0 ≤ 100
  case neg =>
    have hf : fewW n0 m0 = false := by unfold fewW; rw [decide_eq_false D1, Bool.and_false]
    rw [hf]
    have c34 := x30.cell 0 rfl
    have c35 := x30.cell 1 rfl
    have c36 := x30.cell 2 rfl
    have c37 := x30.cell 3 rfl
    have c38 := x30.cell 4 rfl
    go_wp2_with fail
    go_ret
    exact ⟨rfl, b29⟩
  case pos =>
  have hf : fewW n0 m0 = true := by unfold fewW; rw [decide_eq_true D0, decide_eq_true D1]; rfl
  rw [hf]
  by_cases D2 : n1 ≤ 300
  case neg =>
    have D2' : (300 : Int) < (n1 : Int) := by omega
    have c34 := x30.cell 0 rfl
    have c35 := x30.cell 1 rfl
    have c36 := x30.cell 2 rfl
    have c37 := x30.cell 3 rfl
    have c38 := x30.cell 4 rfl
    go_wp2_with fail
    go_ret
    exact ⟨rfl, b29⟩
  case pos =>
  have D2' : ¬ ((300 : Int) < (n1 : Int)) := by omega
  by_cases M0 : wmay ⟨x0, l0, p0, y0, e0⟩ = true
  case neg =>
    have M1 : wmay ⟨x0, l0, p0, y0, e0⟩ = false := by rw [← Bool.not_eq_true]; exact M0
    have c34 := x30.cell 0 rfl
    have c35 := x30.cell 1 rfl
    have c36 := x30.cell 2 rfl
    have c37 := x30.cell 3 rfl
    have c38 := x30.cell 4 rfl
    go_wp2_with fail
    refine (wvmay_any x0 a0 n0 c0 g0 m0 d0 y0 e0 l0 p0 _ s31 s32 (by omega)).mono ?_
    rintro e w40 ⟨h41, hb39⟩
    rw [M1] at h41
    subst h41
    clear c34 c35 c36 c37 c38
    have b42 := b29.trans (hb39.mono b29.size)
    have x43 := x30.kept hb39
    have s44 := s31.keep hb39
    have s45 := s32.keep hb39
    have s46 := s33.keep hb39
    go_wp2_with fail
    go_ret
    exact ⟨rfl, b42⟩
  case pos =>
  have c34 := x30.cell 0 rfl
  have c35 := x30.cell 1 rfl
  have c36 := x30.cell 2 rfl
  have c37 := x30.cell 3 rfl
  have c38 := x30.cell 4 rfl
  go_wp2_with fail
  refine (wvmay_any x0 a0 n0 c0 g0 m0 d0 y0 e0 l0 p0 _ s31 s32 (by omega)).mono ?_
  rintro e w40 ⟨h41, hb39⟩
  rw [M0] at h41
  subst h41
  clear c34 c35 c36 c37 c38
  have b42 := b29.trans (hb39.mono b29.size)
  have x43 := x30.kept hb39
  have s44 := s31.keep hb39
  have s45 := s32.keep hb39
  have s46 := s33.keep hb39
  have c47 := x43.cell 0 rfl
  have c48 := x43.cell 1 rfl
  have c49 := x43.cell 2 rfl
  have c50 := x43.cell 3 rfl
  have c51 := x43.cell 4 rfl
  go_wp2_with fail
  have va := (wmay_iff ⟨x0, l0, p0, y0, e0⟩).1 M0
  rcases shut_cases ⟨x0, l0, p0, y0, e0⟩ z1 with K | K | K
  · refine (wshut_any x0 a0 n0 c0 g0 m0 d0 y0 e0 l0 p0 _ s44 s45 (by omega) z1 hz1).mono ?_
    rintro e w61 h62
    rw [K.1] at h62
    obtain ⟨R52, m53, d54, H55, k56, q57, rfl, sb58, sq59, hb60⟩ := h62
    clear c47 c48 c49 c50 c51
    have b63 := b42.trans (hb60.mono b42.size)
    have x64 := x43.kept hb60
    have s65 := s44.keep hb60
    have s66 := s45.keep hb60
    have s67 := s46.keep hb60
    have S1 := sb58.sl.rd.len
    obtain rfl : m53 = 0 := S1.symm
    simp only [show zw.base = 0 from rfl, show zw.cap = 0 from rfl, show zw.en = 0 from rfl]
    have x68 := Bx.new w61 25 [.int .i64 0, .slice R52 0 d54, .slice H55 k56 q57, .int .i64 0, .int .i64 0]
    have x69 := x64.alloc (.cells #[.int .i64 0, .slice R52 0 d54, .slice H55 k56 q57, .int .i64 0, .int .i64 0] 25)
    have s70 := s65.alloc (.cells #[.int .i64 0, .slice R52 0 d54, .slice H55 k56 q57, .int .i64 0, .int .i64 0] 25)
    have s71 := s66.alloc (.cells #[.int .i64 0, .slice R52 0 d54, .slice H55 k56 q57, .int .i64 0, .int .i64 0] 25)
    have s72 := s67.alloc (.cells #[.int .i64 0, .slice R52 0 d54, .slice H55 k56 q57, .int .i64 0, .int .i64 0] 25)
    have b73 := b63.alloc b63.size (.cells #[.int .i64 0, .slice R52 0 d54, .slice H55 k56 q57, .int .i64 0, .int .i64 0] 25)
    have c74 := x68.cell 0 rfl
    have c75 := x68.cell 1 rfl
    have c76 := x68.cell 2 rfl
    have c77 := x68.cell 3 rfl
    have c78 := x68.cell 4 rfl
    have c79 := x69.cell 0 rfl
    have c80 := x69.cell 1 rfl
    have c81 := x69.cell 2 rfl
    have c82 := x69.cell 3 rfl
    have c83 := x69.cell 4 rfl
    go_wp2_with fail
    go_ret
    exact ⟨rfl, b73⟩
  · refine (wshut_any x0 a0 n0 c0 g0 m0 d0 y0 e0 l0 p0 _ s44 s45 (by omega) z1 hz1).mono ?_
    rintro e w61 h62
    rw [K.1] at h62
    obtain ⟨R52, m53, d54, H55, k56, q57, rfl, sb58, sq59, hb60⟩ := h62
    clear c47 c48 c49 c50 c51
    have b63 := b42.trans (hb60.mono b42.size)
    have x64 := x43.kept hb60
    have s65 := s44.keep hb60
    have s66 := s45.keep hb60
    have s67 := s46.keep hb60
    have S1 := sb58.sl.rd.len
    obtain rfl : m53 = 0 := S1.symm
    simp only [show zw.base = 0 from rfl, show zw.cap = 0 from rfl, show zw.en = 0 from rfl]
    have x68 := Bx.new w61 25 [.int .i64 0, .slice R52 0 d54, .slice H55 k56 q57, .int .i64 0, .int .i64 0]
    have x69 := x64.alloc (.cells #[.int .i64 0, .slice R52 0 d54, .slice H55 k56 q57, .int .i64 0, .int .i64 0] 25)
    have s70 := s65.alloc (.cells #[.int .i64 0, .slice R52 0 d54, .slice H55 k56 q57, .int .i64 0, .int .i64 0] 25)
    have s71 := s66.alloc (.cells #[.int .i64 0, .slice R52 0 d54, .slice H55 k56 q57, .int .i64 0, .int .i64 0] 25)
    have s72 := s67.alloc (.cells #[.int .i64 0, .slice R52 0 d54, .slice H55 k56 q57, .int .i64 0, .int .i64 0] 25)
    have b73 := b63.alloc b63.size (.cells #[.int .i64 0, .slice R52 0 d54, .slice H55 k56 q57, .int .i64 0, .int .i64 0] 25)
    have c74 := x68.cell 0 rfl
    have c75 := x68.cell 1 rfl
    have c76 := x68.cell 2 rfl
    have c77 := x68.cell 3 rfl
    have c78 := x68.cell 4 rfl
    have c79 := x69.cell 0 rfl
    have c80 := x69.cell 1 rfl
    have c81 := x69.cell 2 rfl
    have c82 := x69.cell 3 rfl
    have c83 := x69.cell 4 rfl
    go_wp2_with fail
    go_ret
    exact ⟨rfl, b73⟩
  obtain ⟨K1, ⟨K2, K3, K4⟩, K5⟩ := K
  have K6 : upW ⟨x0, l0, p0, y0, e0⟩ ≤ z1 := by omega
  clear K5
  refine (wshut_any x0 a0 n0 c0 g0 m0 d0 y0 e0 l0 p0 _ s44 s45 (by omega) z1 hz1).mono ?_
  rintro e w61 h62
  rw [K1] at h62
  obtain ⟨R52, m53, d54, H55, k56, q57, rfl, sb58, sq59, hb60⟩ := h62
  clear c47 c48 c49 c50 c51
  have b63 := b42.trans (hb60.mono b42.size)
  have x64 := x43.kept hb60
  have s65 := s44.keep hb60
  have s66 := s45.keep hb60
  have s67 := s46.keep hb60
  have S1 := sb58.sl
  have S2 := sq59.ss
  simp only [show (endW ⟨x0, l0, p0, y0, e0⟩ z1).base = x0 from rfl, show (endW ⟨x0, l0, p0, y0, e0⟩ z1).b = l0 from rfl, show (endW ⟨x0, l0, p0, y0, e0⟩ z1).got = p0 from rfl, show (endW ⟨x0, l0, p0, y0, e0⟩ z1).cap = y0 from rfl, show (endW ⟨x0, l0, p0, y0, e0⟩ z1).en = z1 from rfl] at S1 S2 ⊢
  obtain rfl : n0 = m53 := hl0.symm.trans S1.rd.len
  obtain rfl : m0 = k56 := hp0.symm.trans S2.rd.len
  have x68 := Bx.new w61 25 [.int .i64 x0, .slice R52 n0 d54, .slice H55 m0 q57, .int .i64 y0, .int .i64 z1]
  have x69 := x64.alloc (.cells #[.int .i64 x0, .slice R52 n0 d54, .slice H55 m0 q57, .int .i64 y0, .int .i64 z1] 25)
  have s70 := s65.alloc (.cells #[.int .i64 x0, .slice R52 n0 d54, .slice H55 m0 q57, .int .i64 y0, .int .i64 z1] 25)
  have s71 := s66.alloc (.cells #[.int .i64 x0, .slice R52 n0 d54, .slice H55 m0 q57, .int .i64 y0, .int .i64 z1] 25)
  have s72 := s67.alloc (.cells #[.int .i64 x0, .slice R52 n0 d54, .slice H55 m0 q57, .int .i64 y0, .int .i64 z1] 25)
  have s73 := S1.alloc (.cells #[.int .i64 x0, .slice R52 n0 d54, .slice H55 m0 q57, .int .i64 y0, .int .i64 z1] 25)
  have s74 := S2.alloc (.cells #[.int .i64 x0, .slice R52 n0 d54, .slice H55 m0 q57, .int .i64 y0, .int .i64 z1] 25)
  have b75 := b63.alloc b63.size (.cells #[.int .i64 x0, .slice R52 n0 d54, .slice H55 m0 q57, .int .i64 y0, .int .i64 z1] 25)
  have c76 := x68.cell 0 rfl
  have c77 := x68.cell 1 rfl
  have c78 := x68.cell 2 rfl
  have c79 := x68.cell 3 rfl
  have c80 := x68.cell 4 rfl
  have c81 := x69.cell 0 rfl
  have c82 := x69.cell 1 rfl
  have c83 := x69.cell 2 rfl
  have c84 := x69.cell 3 rfl
  have c85 := x69.cell 4 rfl
  go_wp2_with fail
  clear c76 c77 c78 c79 c80 c81 c82 c83 c84 c85
  obtain ⟨v86, hv87⟩ : ∃ v86, w61.alloc (.cells #[.int .i64 x0, .slice R52 n0 d54, .slice H55 m0 q57, .int .i64 y0, .int .i64 z1] 25) = v86 := ⟨_, rfl⟩
  have x68' : Bx v86 w61.heap.size 25 [.int .i64 x0, .slice R52 n0 d54, .slice H55 m0 q57, .int .i64 y0, .int .i64 z1] := by rw [← hv87]; exact x68
  rw [hv87] at b75 x69 s70 s71 s72 s73 s74 ⊢
  clear hv87 x68
  have f1 : 0 < n1 → (putR ⟨x0, l0, p0, y0, z1⟩ z1 l1).2.2 ≠ 0 := fun h => end_put K2 K6 K3 (by omega)
  have f2 : wshutR ⟨x0, l0, p0, y0, z1⟩ z1 = (⟨x0, l0, p0, y0, z1⟩, 0) := end_same K2 K6 K3 K4
  have f3 : (wshutR ⟨x0, l0, p0, y0, z1⟩ (z1 + 1)).2 ≠ 0 := end_other (w := ⟨x0, l0, p0, y0, e0⟩) K3
  obtain ⟨f4, f5, f6⟩ := end_read K2 K6
  obtain ⟨rk, hrk⟩ : ∃ rk, rdyW ⟨x0, l0, p0, y0, e0⟩ = rk := ⟨_, rfl⟩
  rw [hrk] at f4 f5 f6
  have f4' : readR ⟨x0, l0, p0, y0, z1⟩ 70000 = (⟨x0 + rk, l0.drop rk, cutK p0 x0 rk, y0, z1⟩, l0.take rk, 0) := f4
  have f5' : overR ⟨x0 + rk, l0.drop rk, cutK p0 x0 rk, y0, z1⟩ = decide (x0 + rk = z1) := f5
  have f6' : x0 + rk = z1 → readyR ⟨x0 + rk, l0.drop rk, cutK p0 x0 rk, y0, z1⟩ = 0 := f6
  have hrn : rk ≤ n0 := by rw [← hrk]; exact Nat.le_trans (rdy_le _) (Nat.le_of_eq hl0)
  clear f4 f5 f6 hrk
  obtain ⟨P, PH⟩ : ∃ P, putR ⟨x0, l0, p0, y0, z1⟩ z1 l1 = P := ⟨_, rfl⟩
  rw [PH] at f1
  obtain ⟨⟨pb, pl, pg, pc, pe⟩, pn, pr⟩ := P
  have PQ := Lib.hid PH; clear PH
  dsimp only at f1
  obtain ⟨P, PH⟩ : ∃ P, wshutR ⟨x0, l0, p0, y0, z1⟩ (z1 + 1) = P := ⟨_, rfl⟩
  rw [PH] at f3
  obtain ⟨⟨tb, tl, tg, tc, te⟩, tr⟩ := P
  have TQ := Lib.hid PH; clear PH
  dsimp only at f3
  have f3' : (tr == 0) = false := beq_false_of_ne f3
  have hneg : ¬ z1 < 0 := by omega
  have F4 := Lib.hid f4'; have F5 := Lib.hid f5'; have F2 := Lib.hid f2; clear f4' f5' f2
  refine (wput_any x0 R52 n0 d54 H55 m0 q57 y0 z1 l0 p0 _ s73 s74 (by omega) z1 a1 n1 c1 l1 hz1 s72 (by omega)).mono ?_
  rintro e w97 h98
  rw [PQ.out] at h98
  obtain ⟨R88, m89, d90, H91, k92, q93, rfl, sb94, sq95, hb96⟩ := h98
  have b99 := b75.trans (hb96.mono b75.size)
  have x100 := x68'.kept hb96
  have s101 := s70.keep hb96
  have s102 := s71.keep hb96
  have s103 := s72.keep hb96
  have s104 := s73.keep hb96
  have s105 := s74.keep hb96
  dsimp only
  have x106 := Bx.new w97 25 [.int .i64 pb, .slice R88 m89 d90, .slice H91 k92 q93, .int .i64 pc, .int .i64 pe]
  have x107 := x100.alloc (.cells #[.int .i64 pb, .slice R88 m89 d90, .slice H91 k92 q93, .int .i64 pc, .int .i64 pe] 25)
  have s108 := s101.alloc (.cells #[.int .i64 pb, .slice R88 m89 d90, .slice H91 k92 q93, .int .i64 pc, .int .i64 pe] 25)
  have s109 := s102.alloc (.cells #[.int .i64 pb, .slice R88 m89 d90, .slice H91 k92 q93, .int .i64 pc, .int .i64 pe] 25)
  have s110 := s103.alloc (.cells #[.int .i64 pb, .slice R88 m89 d90, .slice H91 k92 q93, .int .i64 pc, .int .i64 pe] 25)
  have s111 := s104.alloc (.cells #[.int .i64 pb, .slice R88 m89 d90, .slice H91 k92 q93, .int .i64 pc, .int .i64 pe] 25)
  have s112 := s105.alloc (.cells #[.int .i64 pb, .slice R88 m89 d90, .slice H91 k92 q93, .int .i64 pc, .int .i64 pe] 25)
  have b113 := b99.alloc b99.size (.cells #[.int .i64 pb, .slice R88 m89 d90, .slice H91 k92 q93, .int .i64 pc, .int .i64 pe] 25)
  have c114 := x106.cell 0 rfl
  have c115 := x106.cell 1 rfl
  have c116 := x106.cell 2 rfl
  have c117 := x106.cell 3 rfl
  have c118 := x106.cell 4 rfl
  have c119 := x107.cell 0 rfl
  have c120 := x107.cell 1 rfl
  have c121 := x107.cell 2 rfl
  have c122 := x107.cell 3 rfl
  have c123 := x107.cell 4 rfl
  go_wp2_with fail
  clear c114 c115 c116 c117 c118 c119 c120 c121 c122 c123
  obtain ⟨v124, hv125⟩ : ∃ v124, w97.alloc (.cells #[.int .i64 pb, .slice R88 m89 d90, .slice H91 k92 q93, .int .i64 pc, .int .i64 pe] 25) = v124 := ⟨_, rfl⟩
  have x106' : Bx v124 w97.heap.size 25 [.int .i64 pb, .slice R88 m89 d90, .slice H91 k92 q93, .int .i64 pc, .int .i64 pe] := by rw [← hv125]; exact x106
  rw [hv125] at b113 x107 s108 s109 s110 s111 s112 ⊢
  clear hv125 x106
  refine (wshut_any x0 R52 n0 d54 H55 m0 q57 y0 z1 l0 p0 _ s111 s112 (by omega) z1 hz1).mono ?_
  rintro e w135 h136
  rw [F2.out] at h136
  obtain ⟨R126, m127, d128, H129, k130, q131, rfl, sb132, sq133, hb134⟩ := h136
  have b137 := b113.trans (hb134.mono b113.size)
  have x138 := x107.kept hb134
  have s139 := s108.keep hb134
  have s140 := s109.keep hb134
  have s141 := s110.keep hb134
  have s142 := s111.keep hb134
  have s143 := s112.keep hb134
  dsimp only
  have x144 := Bx.new w135 25 [.int .i64 x0, .slice R126 m127 d128, .slice H129 k130 q131, .int .i64 y0, .int .i64 z1]
  have x145 := x138.alloc (.cells #[.int .i64 x0, .slice R126 m127 d128, .slice H129 k130 q131, .int .i64 y0, .int .i64 z1] 25)
  have s146 := s139.alloc (.cells #[.int .i64 x0, .slice R126 m127 d128, .slice H129 k130 q131, .int .i64 y0, .int .i64 z1] 25)
  have s147 := s140.alloc (.cells #[.int .i64 x0, .slice R126 m127 d128, .slice H129 k130 q131, .int .i64 y0, .int .i64 z1] 25)
  have s148 := s141.alloc (.cells #[.int .i64 x0, .slice R126 m127 d128, .slice H129 k130 q131, .int .i64 y0, .int .i64 z1] 25)
  have s149 := s142.alloc (.cells #[.int .i64 x0, .slice R126 m127 d128, .slice H129 k130 q131, .int .i64 y0, .int .i64 z1] 25)
  have s150 := s143.alloc (.cells #[.int .i64 x0, .slice R126 m127 d128, .slice H129 k130 q131, .int .i64 y0, .int .i64 z1] 25)
  have b151 := b137.alloc b137.size (.cells #[.int .i64 x0, .slice R126 m127 d128, .slice H129 k130 q131, .int .i64 y0, .int .i64 z1] 25)
  have c152 := x144.cell 0 rfl
  have c153 := x144.cell 1 rfl
  have c154 := x144.cell 2 rfl
  have c155 := x144.cell 3 rfl
  have c156 := x144.cell 4 rfl
  have c157 := x145.cell 0 rfl
  have c158 := x145.cell 1 rfl
  have c159 := x145.cell 2 rfl
  have c160 := x145.cell 3 rfl
  have c161 := x145.cell 4 rfl
  have hw : IntKind.i64.wrap (z1 + 1) = z1 + 1 := IntWalk.i64_in _ (by omega)
  go_wp2_with fail
  clear c152 c153 c154 c155 c156 c157 c158 c159 c160 c161
  obtain ⟨v162, hv163⟩ : ∃ v162, w135.alloc (.cells #[.int .i64 x0, .slice R126 m127 d128, .slice H129 k130 q131, .int .i64 y0, .int .i64 z1] 25) = v162 := ⟨_, rfl⟩
  have x144' : Bx v162 w135.heap.size 25 [.int .i64 x0, .slice R126 m127 d128, .slice H129 k130 q131, .int .i64 y0, .int .i64 z1] := by rw [← hv163]; exact x144
  rw [hv163] at b151 x145 s146 s147 s148 s149 s150 ⊢
  clear hv163 x144
  refine (wshut_any x0 R52 n0 d54 H55 m0 q57 y0 z1 l0 p0 _ s149 s150 (by omega) (z1 + 1) (by unfold W64; omega)).mono ?_
  rintro e w173 h174
  rw [TQ.out] at h174
  obtain ⟨R164, m165, d166, H167, k168, q169, rfl, sb170, sq171, hb172⟩ := h174
  have b175 := b151.trans (hb172.mono b151.size)
  have x176 := x145.kept hb172
  have s177 := s146.keep hb172
  have s178 := s147.keep hb172
  have s179 := s148.keep hb172
  have s180 := s149.keep hb172
  have s181 := s150.keep hb172
  dsimp only
  have x182 := Bx.new w173 25 [.int .i64 tb, .slice R164 m165 d166, .slice H167 k168 q169, .int .i64 tc, .int .i64 te]
  have x183 := x176.alloc (.cells #[.int .i64 tb, .slice R164 m165 d166, .slice H167 k168 q169, .int .i64 tc, .int .i64 te] 25)
  have s184 := s177.alloc (.cells #[.int .i64 tb, .slice R164 m165 d166, .slice H167 k168 q169, .int .i64 tc, .int .i64 te] 25)
  have s185 := s178.alloc (.cells #[.int .i64 tb, .slice R164 m165 d166, .slice H167 k168 q169, .int .i64 tc, .int .i64 te] 25)
  have s186 := s179.alloc (.cells #[.int .i64 tb, .slice R164 m165 d166, .slice H167 k168 q169, .int .i64 tc, .int .i64 te] 25)
  have s187 := s180.alloc (.cells #[.int .i64 tb, .slice R164 m165 d166, .slice H167 k168 q169, .int .i64 tc, .int .i64 te] 25)
  have s188 := s181.alloc (.cells #[.int .i64 tb, .slice R164 m165 d166, .slice H167 k168 q169, .int .i64 tc, .int .i64 te] 25)
  have b189 := b175.alloc b175.size (.cells #[.int .i64 tb, .slice R164 m165 d166, .slice H167 k168 q169, .int .i64 tc, .int .i64 te] 25)
  have c190 := x182.cell 0 rfl
  have c191 := x182.cell 1 rfl
  have c192 := x182.cell 2 rfl
  have c193 := x182.cell 3 rfl
  have c194 := x182.cell 4 rfl
  have c195 := x183.cell 0 rfl
  have c196 := x183.cell 1 rfl
  have c197 := x183.cell 2 rfl
  have c198 := x183.cell 3 rfl
  have c199 := x183.cell 4 rfl
  go_wp2_with fail
  clear c190 c191 c192 c193 c194 c195 c196 c197 c198 c199
  obtain ⟨v200, hv201⟩ : ∃ v200, w173.alloc (.cells #[.int .i64 tb, .slice R164 m165 d166, .slice H167 k168 q169, .int .i64 tc, .int .i64 te] 25) = v200 := ⟨_, rfl⟩
  have x182' : Bx v200 w173.heap.size 25 [.int .i64 tb, .slice R164 m165 d166, .slice H167 k168 q169, .int .i64 tc, .int .i64 te] := by rw [← hv201]; exact x182
  rw [hv201] at b189 x183 s184 s185 s186 s187 s188 ⊢
  clear hv201 x182
  refine (wread_any x0 R52 n0 d54 H55 m0 q57 y0 z1 l0 p0 _ s187 s188 (by omega) 70000 (by unfold W64; omega)).mono ?_
  rintro e w211 h212
  rw [F4.out] at h212
  obtain ⟨R202, m203, d204, H205, k206, q207, S213, t214, u215, rfl, sb208, sq209, sc216, hb210⟩ := h212
  have b217 := b189.trans (hb210.mono b189.size)
  have x218 := x183.kept hb210
  have s219 := s184.keep hb210
  have s220 := s185.keep hb210
  have s221 := s186.keep hb210
  have s222 := s187.keep hb210
  have s223 := s188.keep hb210
  dsimp only
  have S5 := sb208.sl
  have S6 := sq209.ss
  have hmr : m203 ≤ n0 := by rw [← S5.rd.len, List.length_drop]; omega
  obtain ⟨rb, hrb⟩ : ∃ rb, x0 + (rk : Int) = rb := ⟨_, rfl⟩
  rw [hrb] at F5 f6' ⊢
  have F6 := Lib.hid f6'; clear f6'
  clear hrb
  have x224 := Bx.new w211 25 [.int .i64 rb, .slice R202 m203 d204, .slice H205 k206 q207, .int .i64 y0, .int .i64 z1]
  have x225 := x218.alloc (.cells #[.int .i64 rb, .slice R202 m203 d204, .slice H205 k206 q207, .int .i64 y0, .int .i64 z1] 25)
  have s226 := s219.alloc (.cells #[.int .i64 rb, .slice R202 m203 d204, .slice H205 k206 q207, .int .i64 y0, .int .i64 z1] 25)
  have s227 := s220.alloc (.cells #[.int .i64 rb, .slice R202 m203 d204, .slice H205 k206 q207, .int .i64 y0, .int .i64 z1] 25)
  have s228 := s221.alloc (.cells #[.int .i64 rb, .slice R202 m203 d204, .slice H205 k206 q207, .int .i64 y0, .int .i64 z1] 25)
  have s229 := s222.alloc (.cells #[.int .i64 rb, .slice R202 m203 d204, .slice H205 k206 q207, .int .i64 y0, .int .i64 z1] 25)
  have s230 := s223.alloc (.cells #[.int .i64 rb, .slice R202 m203 d204, .slice H205 k206 q207, .int .i64 y0, .int .i64 z1] 25)
  have s231 := S5.alloc (.cells #[.int .i64 rb, .slice R202 m203 d204, .slice H205 k206 q207, .int .i64 y0, .int .i64 z1] 25)
  have s232 := S6.alloc (.cells #[.int .i64 rb, .slice R202 m203 d204, .slice H205 k206 q207, .int .i64 y0, .int .i64 z1] 25)
  have b233 := b217.alloc b217.size (.cells #[.int .i64 rb, .slice R202 m203 d204, .slice H205 k206 q207, .int .i64 y0, .int .i64 z1] 25)
  have c234 := x224.cell 0 rfl
  have c235 := x224.cell 1 rfl
  have c236 := x224.cell 2 rfl
  have c237 := x224.cell 3 rfl
  have c238 := x224.cell 4 rfl
  have c239 := x225.cell 0 rfl
  have c240 := x225.cell 1 rfl
  have c241 := x225.cell 2 rfl
  have c242 := x225.cell 3 rfl
  have c243 := x225.cell 4 rfl
  go_wp2_with fail
  clear c234 c235 c236 c237 c238 c239 c240 c241 c242 c243
  obtain ⟨v244, hv245⟩ : ∃ v244, w211.alloc (.cells #[.int .i64 rb, .slice R202 m203 d204, .slice H205 k206 q207, .int .i64 y0, .int .i64 z1] 25) = v244 := ⟨_, rfl⟩
  have x224' : Bx v244 w211.heap.size 25 [.int .i64 rb, .slice R202 m203 d204, .slice H205 k206 q207, .int .i64 y0, .int .i64 z1] := by rw [← hv245]; exact x224
  rw [hv245] at b233 x225 s226 s227 s228 s229 s230 s231 s232 ⊢
  clear hv245 x224
  by_cases H0 : rb = z1
  case neg =>
    have F7 := F5.out; rw [decide_eq_false H0] at F7
    have H1 : (rb == z1) = false := beq_false_of_ne H0
    have H2 := Lib.hid H0; clear H0
    refine (wover_any rb R202 m203 d204 H205 k206 q207 y0 z1 (l0.drop rk) (cutK p0 x0 rk) _ s231 s232 (by omega)).mono ?_
    rintro e w247 ⟨h248, hb246⟩
    rw [F7] at h248
    subst h248
    have b249 := b233.trans (hb246.mono b233.size)
    have x250 := x225.kept hb246
    have x251 := x224'.kept hb246
    have s252 := s226.keep hb246
    have s253 := s227.keep hb246
    have s254 := s228.keep hb246
    have s255 := s229.keep hb246
    have s256 := s230.keep hb246
    have s257 := s231.keep hb246
    have s258 := s232.keep hb246
    by_cases E0 : n1 = 0
    case neg =>
      have e1 : (pr == 0) = false := beq_false_of_ne (f1 (by omega))
      have e2 : (0 : Int) < (n1 : Int) := by omega
      have c259 := x251.cell 0 rfl
      have c260 := x251.cell 1 rfl
      have c261 := x251.cell 2 rfl
      have c262 := x251.cell 3 rfl
      have c263 := x251.cell 4 rfl
      have c264 := x250.cell 0 rfl
      have c265 := x250.cell 1 rfl
      have c266 := x250.cell 2 rfl
      have c267 := x250.cell 3 rfl
      have c268 := x250.cell 4 rfl
      go_wp2_with fail
      go_ret
      exact ⟨rfl, b249⟩
    case pos =>
    subst E0
    have c259 := x251.cell 0 rfl
    have c260 := x251.cell 1 rfl
    have c261 := x251.cell 2 rfl
    have c262 := x251.cell 3 rfl
    have c263 := x251.cell 4 rfl
    have c264 := x250.cell 0 rfl
    have c265 := x250.cell 1 rfl
    have c266 := x250.cell 2 rfl
    have c267 := x250.cell 3 rfl
    have c268 := x250.cell 4 rfl
    go_wp2_with fail
    go_ret
    exact ⟨rfl, b249⟩
  case pos =>
  have F7 := F5.out; rw [decide_eq_true H0] at F7
  have H1 : (rb == z1) = true := beq_iff_eq.2 H0
  have H2 := Lib.hid H0; clear H0
  refine (wover_any rb R202 m203 d204 H205 k206 q207 y0 z1 (l0.drop rk) (cutK p0 x0 rk) _ s231 s232 (by omega)).mono ?_
  rintro e w247 ⟨h248, hb246⟩
  rw [F7] at h248
  subst h248
  have b249 := b233.trans (hb246.mono b233.size)
  have x250 := x225.kept hb246
  have x251 := x224'.kept hb246
  have s252 := s226.keep hb246
  have s253 := s227.keep hb246
  have s254 := s228.keep hb246
  have s255 := s229.keep hb246
  have s256 := s230.keep hb246
  have s257 := s231.keep hb246
  have s258 := s232.keep hb246
  by_cases E0 : n1 = 0
  case neg =>
    have e1 : (pr == 0) = false := beq_false_of_ne (f1 (by omega))
    have e2 : (0 : Int) < (n1 : Int) := by omega
    have c259 := x251.cell 0 rfl
    have c260 := x251.cell 1 rfl
    have c261 := x251.cell 2 rfl
    have c262 := x251.cell 3 rfl
    have c263 := x251.cell 4 rfl
    have c264 := x250.cell 0 rfl
    have c265 := x250.cell 1 rfl
    have c266 := x250.cell 2 rfl
    have c267 := x250.cell 3 rfl
    have c268 := x250.cell 4 rfl
    go_wp2_with fail
    have f7 := F6.out H2.out
    refine (wready_any rb R202 m203 d204 H205 k206 q207 y0 z1 (l0.drop rk) (cutK p0 x0 rk) _ s257 s258 (by omega)).mono ?_
    rintro e w270 ⟨h271, hb269⟩
    rw [f7] at h271
    subst h271
    clear c259 c260 c261 c262 c263 c264 c265 c266 c267 c268
    have b272 := b249.trans (hb269.mono b249.size)
    have x273 := x250.kept hb269
    have x274 := x251.kept hb269
    have s275 := s252.keep hb269
    have s276 := s253.keep hb269
    have s277 := s254.keep hb269
    have s278 := s255.keep hb269
    have s279 := s256.keep hb269
    have s280 := s257.keep hb269
    have s281 := s258.keep hb269
    go_wp2_with fail
    go_ret
    exact ⟨rfl, b272⟩
  case pos =>
  subst E0
  have c259 := x251.cell 0 rfl
  have c260 := x251.cell 1 rfl
  have c261 := x251.cell 2 rfl
  have c262 := x251.cell 3 rfl
  have c263 := x251.cell 4 rfl
  have c264 := x250.cell 0 rfl
  have c265 := x250.cell 1 rfl
  have c266 := x250.cell 2 rfl
  have c267 := x250.cell 3 rfl
  have c268 := x250.cell 4 rfl
  go_wp2_with fail
  have f7 := F6.out H2.out
  refine (wready_any rb R202 m203 d204 H205 k206 q207 y0 z1 (l0.drop rk) (cutK p0 x0 rk) _ s257 s258 (by omega)).mono ?_
  rintro e w270 ⟨h271, hb269⟩
  rw [f7] at h271
  subst h271
  clear c259 c260 c261 c262 c263 c264 c265 c266 c267 c268
  have b272 := b249.trans (hb269.mono b249.size)
  have x273 := x250.kept hb269
  have x274 := x251.kept hb269
  have s275 := s252.keep hb269
  have s276 := s253.keep hb269
  have s277 := s254.keep hb269
  have s278 := s255.keep hb269
  have s279 := s256.keep hb269
  have s280 := s257.keep hb269
  have s281 := s258.keep hb269
  go_wp2_with fail
  go_ret
  exact ⟨rfl, b272⟩
end Go.Proofs.Ytgiknfmagmfniaa.weaveShut
