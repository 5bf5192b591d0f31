/- The reference of package weave: Put as contracts of the calls. -/
import Derived.Test.YtgiknfmagmfniaaProg
import Derived.Test.YtgiknfmagmfniaaWeRef5
import Derived.Test.YtgiknfmagmfniaaWvStep
import Derived.Test.YtgiknfmagmfniaaTail
import Derived.Laws.OwnMore
import Derived.OneCell
import Derived.IntWalk
import Derived.Deep.LoopGhost
import Derived.Deep.DeepCutAuto
import Derived.Deep.AppendLies
import Derived.WalkKit
import Derived.WalkSpells
import Derived.WalkSmall
import Derived.Lib.Hide
import Derived.Below
import Derived.Outline
namespace Go.Proofs.Ytgiknfmagmfniaa
open Go.RowKit
set_option linter.unusedSimpArgs false
set_option linter.unusedVariables false

/-- what Put tells -/
def TellP (w w' : World) (e : Ending) (x : Wv × Int × Int) : Prop := ∃ R m d G k q, e = .returned (.tuple #[.agg #[.int .i64 x.1.base, .slice R m d, .slice G k q, .int .i64 x.1.cap, .int .i64 x.1.en], .int .i64 x.2.1, .int .i64 x.2.2]) ∧ Sb w' w.heap.size R m d x.1.b ∧ Sq w' w.heap.size G k q x.1.got ∧ Below w.heap.size w w'

set_option maxRecDepth 100000 in
set_option maxHeartbeats 8000000 in
theorem rwput_any (base : Int) (A : Option Addr) (n c : Nat) (G : Option Addr) (m d : Nat) (cap en : Int) (bl : List Int) (gl : List Sp) (p : Int) (A2 : Option Addr) (n2 c2 : Nat) (l2 : List Int) (w : World) (hb : Sl w A n c bl) (hg : Ss w G m d gl) (hn : n ≤ 140737488355328) (hp0 : -9223372036854775808 ≤ p) (hp1 : p ≤ 9223372036854775807) (hs2 : Sl w A2 n2 c2 l2) (hn2 : n2 ≤ 140737488355328) :
    Calls Try.prog 12 #[.agg #[.int .i64 base, .slice A n c, .slice G m d, .int .i64 cap, .int .i64 en], .int .i64 p, .slice A2 n2 c2] w fun e w' => TellP w w' e (putR ⟨base, bl, gl, cap, en⟩ p l2) := by
  unfold TellP
  have hbl := hb.rd.len
  have hgl := hg.rd.len
  obtain ⟨B, hB⟩ : ∃ B, w.heap.size = B := ⟨_, rfl⟩
  have e0 := (Bx.new w 25 [.int .i64 base, .slice A n c, .slice G m d, .int .i64 cap, .int .i64 en]).alloc (.cells #[.int .i64 0, .slice none 0 0, .slice none 0 0, .int .i64 0, .int .i64 0] 25)
  have r0 := Bx.new (w.alloc (.cells #[.int .i64 base, .slice A n c, .slice G m d, .int .i64 cap, .int .i64 en] 25)) 25 [.int .i64 0, .slice none 0 0, .slice none 0 0, .int .i64 0, .int .i64 0]
  have hb0 : Below w.heap.size w ((w.alloc (.cells #[.int .i64 base, .slice A n c, .slice G m d, .int .i64 cap, .int .i64 en] 25)).alloc (.cells #[.int .i64 0, .slice none 0 0, .slice none 0 0, .int .i64 0, .int .i64 0] 25)) := ((Below.refl _ _).alloc (Nat.le_refl _) _).alloc (by simp) _
  rw [World.size_alloc] at r0
  rw [hB] at e0 r0 hb0
  obtain ⟨w0, hw0⟩ : ∃ w0, (w.alloc (.cells #[.int .i64 base, .slice A n c, .slice G m d, .int .i64 cap, .int .i64 en] 25)).alloc (.cells #[.int .i64 0, .slice none 0 0, .slice none 0 0, .int .i64 0, .int .i64 0] 25) = w0 := ⟨_, rfl⟩
  have e0' : Bx w0 B 25 [.int .i64 base, .slice A n c, .slice G m d, .int .i64 cap, .int .i64 en] := by rw [← hw0]; exact e0
  have r0' : Bx w0 (B + 1) 25 [.int .i64 0, .slice none 0 0, .slice none 0 0, .int .i64 0, .int .i64 0] := by rw [← hw0]; exact r0
  have hb0' : Below B w w0 := by rw [← hw0]; exact hb0
  clear e0 r0 hb0
  have hbk : ∀ {w' : World}, Below B w w' → Sl w' A n c bl := fun h => hb.keep (by rw [hB]; exact h)
  have hgk : ∀ {w' : World}, Below B w w' → Ss w' G m d gl := fun h => hg.keep (by rw [hB]; exact h)
  have hmay := rwmay_any base A n c G m d cap en bl gl _ (hbk hb0') (hgk hb0') hn
  have x0 := e0'.cell 0 rfl
  have x1 := e0'.cell 1 rfl
  have x2 := e0'.cell 2 rfl
  have x3 := e0'.cell 3 rfl
  have x4 := e0'.cell 4 rfl
  have hbk2 : ∀ {w' : World}, Below B w w' → Sl w' A2 n2 c2 l2 := fun h => hs2.keep (by rw [hB]; exact h)
  have hl2 := hs2.rd.len
  by_cases hval : Va ⟨base, bl, gl, cap, en⟩ ∧ 0 ≤ p ∧ p ≤ 2305843009213693952
  case neg =>
    have hx : putR ⟨base, bl, gl, cap, en⟩ p l2 = (⟨0, [], [], 0, 0⟩, 0, 1) := by
      rcases put_cases ⟨base, bl, gl, cap, en⟩ p l2 with h | h | h | h | h
      · exact h.1
      · exact absurd h.2.1 hval
      · exact absurd h.2.1 hval
      · exact absurd h.2.1 hval
      · exact absurd ⟨h.2.va, h.2.p0, h.2.p1⟩ hval
    rw [hx]
    clear hx
    have HN := Lib.hid hval; clear hval
    go_enter Try.func12, Try.ntmps12
    rw [hB]
    go_wp2_with fail
    refine hmay.mono ?_
    rintro e w1 ⟨he, hb1⟩
    clear x0 x1 x2 x3 x4
    have e1 := e0'.kept hb1
    have r1 := r0'.kept hb1
    have b1 := hb0'.trans (hb1.mono (Nat.le_of_lt e0'.lt))
    have x0 := e1.cell 0 rfl
    have x1 := e1.cell 1 rfl
    have x2 := e1.cell 2 rfl
    have x3 := e1.cell 3 rfl
    have x4 := e1.cell 4 rfl
    cases hk : wmay ⟨base, bl, gl, cap, en⟩ with
    | false =>
      rw [hk] at he; subst he
      have t0 := r1.cell 0 rfl
      have t1 := r1.cell 1 rfl
      have t2 := r1.cell 2 rfl
      have t3 := r1.cell 3 rfl
      have t4 := r1.cell 4 rfl
      have tf0 := r1.free 0
      have tf1 := r1.free 1
      have tf2 := r1.free 2
      have tf3 := r1.free 3
      have tf4 := r1.free 4
      go_wp2_with fail
      have OV := (((((r1.set 0 (.int .i64 0)).set 1 (.slice none 0 0)).set 2 (.slice none 0 0)).set 3 (.int .i64 0)).set 4 (.int .i64 0))
      have y0 := OV.cell 0 rfl
      have y1 := OV.cell 1 rfl
      have y2 := OV.cell 2 rfl
      have y3 := OV.cell 3 rfl
      have y4 := OV.cell 4 rfl
      have bz := (((((b1.setCell (p := ⟨B + 1, 0, none⟩) (by simp) (.int .i64 0)).setCell (p := ⟨B + 1, 1, none⟩) (by simp) (.slice none 0 0)).setCell (p := ⟨B + 1, 2, none⟩) (by simp) (.slice none 0 0)).setCell (p := ⟨B + 1, 3, none⟩) (by simp) (.int .i64 0)).setCell (p := ⟨B + 1, 4, none⟩) (by simp) (.int .i64 0))
      exact bodyPost_ret (v := .tuple #[.agg #[.int .i64 0, .slice none 0 0, .slice none 0 0, .int .i64 0, .int .i64 0], .int .i64 0, .int .i64 1]) (by simp [results, Try.results12, go_sem, y0, y1, y2, y3, y4]) rfl ⟨none, 0, 0, none, 0, 0, rfl, Sb.none _ _, Sq.none _ _, bz⟩
    | true =>
      rw [hk] at he; subst he
      have hnp : p < 0 ∨ 2305843009213693952 < p := by
        have := HN.out
        have hv := (wmay_iff _).1 hk
        rcases Int.lt_or_le p 0 with h | h
        · exact .inl h
        · rcases Int.lt_or_le 2305843009213693952 p with h2 | h2
          · exact .inr h2
          · exact absurd ⟨hv, h, h2⟩ this
      have HK := Lib.hid hk; clear hk
      have t0 := r1.cell 0 rfl
      have t1 := r1.cell 1 rfl
      have t2 := r1.cell 2 rfl
      have t3 := r1.cell 3 rfl
      have t4 := r1.cell 4 rfl
      have tf0 := r1.free 0
      have tf1 := r1.free 1
      have tf2 := r1.free 2
      have tf3 := r1.free 3
      have tf4 := r1.free 4
      rcases hnp with hp | hp
      · go_wp2_with fail
        have OV := (((((r1.set 0 (.int .i64 0)).set 1 (.slice none 0 0)).set 2 (.slice none 0 0)).set 3 (.int .i64 0)).set 4 (.int .i64 0))
        have y0 := OV.cell 0 rfl
        have y1 := OV.cell 1 rfl
        have y2 := OV.cell 2 rfl
        have y3 := OV.cell 3 rfl
        have y4 := OV.cell 4 rfl
        have bz := (((((b1.setCell (p := ⟨B + 1, 0, none⟩) (by simp) (.int .i64 0)).setCell (p := ⟨B + 1, 1, none⟩) (by simp) (.slice none 0 0)).setCell (p := ⟨B + 1, 2, none⟩) (by simp) (.slice none 0 0)).setCell (p := ⟨B + 1, 3, none⟩) (by simp) (.int .i64 0)).setCell (p := ⟨B + 1, 4, none⟩) (by simp) (.int .i64 0))
        exact bodyPost_ret (v := .tuple #[.agg #[.int .i64 0, .slice none 0 0, .slice none 0 0, .int .i64 0, .int .i64 0], .int .i64 0, .int .i64 1]) (by simp [results, Try.results12, go_sem, y0, y1, y2, y3, y4]) rfl ⟨none, 0, 0, none, 0, 0, rfl, Sb.none _ _, Sq.none _ _, bz⟩
      · have hp' : ¬ p < 0 := by omega
        go_wp2_with fail
        have OV := (((((r1.set 0 (.int .i64 0)).set 1 (.slice none 0 0)).set 2 (.slice none 0 0)).set 3 (.int .i64 0)).set 4 (.int .i64 0))
        have y0 := OV.cell 0 rfl
        have y1 := OV.cell 1 rfl
        have y2 := OV.cell 2 rfl
        have y3 := OV.cell 3 rfl
        have y4 := OV.cell 4 rfl
        have bz := (((((b1.setCell (p := ⟨B + 1, 0, none⟩) (by simp) (.int .i64 0)).setCell (p := ⟨B + 1, 1, none⟩) (by simp) (.slice none 0 0)).setCell (p := ⟨B + 1, 2, none⟩) (by simp) (.slice none 0 0)).setCell (p := ⟨B + 1, 3, none⟩) (by simp) (.int .i64 0)).setCell (p := ⟨B + 1, 4, none⟩) (by simp) (.int .i64 0))
        exact bodyPost_ret (v := .tuple #[.agg #[.int .i64 0, .slice none 0 0, .slice none 0 0, .int .i64 0, .int .i64 0], .int .i64 0, .int .i64 1]) (by simp [results, Try.results12, go_sem, y0, y1, y2, y3, y4]) rfl ⟨none, 0, 0, none, 0, 0, rfl, Sb.none _ _, Sq.none _ _, bz⟩
  case pos =>
  obtain ⟨hv, p0, p1⟩ := hval
  have hmt : wmay ⟨base, bl, gl, cap, en⟩ = true := (wmay_iff _).2 hv
  rw [hmt] at hmay
  clear hmt
  by_cases hov : 0 ≤ en ∧ en < p + n2
  case pos =>
    have hx : putR ⟨base, bl, gl, cap, en⟩ p l2 = (⟨0, [], [], 0, 0⟩, 0, 5) := by
      rcases put_cases ⟨base, bl, gl, cap, en⟩ p l2 with h | h | h | h | h
      · exact absurd ⟨hv, p0, p1⟩ h.2
      · exact h.1
      · exact absurd (by rw [hl2]; exact hov) h.2.2.1
      · exact absurd (by rw [hl2]; exact hov) h.2.2.1
      · exfalso; have h1 := h.2.en; rw [hl2] at h1; have h2 : (⟨base, bl, gl, cap, en⟩ : Wv).en = en := rfl; rw [h2] at h1; omega
    rw [hx]
    clear hx hv
    obtain ⟨hov1, hov2⟩ := hov
    go_enter Try.func12, Try.ntmps12
    rw [hB]
    go_wp2_with fail
    refine hmay.mono ?_
    rintro e w1 ⟨rfl, hb1⟩
    clear x0 x1 x2 x3 x4
    have e1 := e0'.kept hb1
    have r1 := r0'.kept hb1
    have b1 := hb0'.trans (hb1.mono (Nat.le_of_lt e0'.lt))
    have x0 := e1.cell 0 rfl
    have x1 := e1.cell 1 rfl
    have x2 := e1.cell 2 rfl
    have x3 := e1.cell 3 rfl
    have x4 := e1.cell 4 rfl
    have t0 := r1.cell 0 rfl
    have t1 := r1.cell 1 rfl
    have t2 := r1.cell 2 rfl
    have t3 := r1.cell 3 rfl
    have t4 := r1.cell 4 rfl
    have tf0 := r1.free 0
    have tf1 := r1.free 1
    have tf2 := r1.free 2
    have tf3 := r1.free 3
    have tf4 := r1.free 4
    go_wp2_with fail
    have OV := (((((r1.set 0 (.int .i64 0)).set 1 (.slice none 0 0)).set 2 (.slice none 0 0)).set 3 (.int .i64 0)).set 4 (.int .i64 0))
    have y0 := OV.cell 0 rfl
    have y1 := OV.cell 1 rfl
    have y2 := OV.cell 2 rfl
    have y3 := OV.cell 3 rfl
    have y4 := OV.cell 4 rfl
    have bz := (((((b1.setCell (p := ⟨B + 1, 0, none⟩) (by simp) (.int .i64 0)).setCell (p := ⟨B + 1, 1, none⟩) (by simp) (.slice none 0 0)).setCell (p := ⟨B + 1, 2, none⟩) (by simp) (.slice none 0 0)).setCell (p := ⟨B + 1, 3, none⟩) (by simp) (.int .i64 0)).setCell (p := ⟨B + 1, 4, none⟩) (by simp) (.int .i64 0))
    exact bodyPost_ret (v := .tuple #[.agg #[.int .i64 0, .slice none 0 0, .slice none 0 0, .int .i64 0, .int .i64 0], .int .i64 0, .int .i64 5]) (by simp [results, Try.results12, go_sem, y0, y1, y2, y3, y4]) rfl ⟨none, 0, 0, none, 0, 0, rfl, Sb.none _ _, Sq.none _ _, bz⟩
  case neg =>
  have hns : n ≤ 65536 := by have := b_small hv; rw [show (⟨base, bl, gl, cap, en⟩ : Wv).b = bl from rfl, hbl] at this; exact this
  have hms : m ≤ 1000000 := by have := hv.len; rw [show (⟨base, bl, gl, cap, en⟩ : Wv).got = gl from rfl, hgl] at this; omega
  have v0 : 0 ≤ base := hv.base0
  have v1 : base ≤ 2305843009213693952 := hv.base1
  have v2 : 0 ≤ cap := hv.cap0
  have v3 : cap ≤ 65536 := hv.cap1
  have hedge := fun (w' : World) => redge_any base A n c G m d cap en w' v0 v1 v2 v3
  obtain ⟨E, hE⟩ : ∃ E, min (base + cap) 2305843009213693952 = E := ⟨_, rfl⟩
  rw [hE] at hedge
  obtain ⟨L, hL⟩ : ∃ L, lowP ⟨base, bl, gl, cap, en⟩ p = L := ⟨_, rfl⟩
  obtain ⟨Z, hZ⟩ : ∃ Z, highP ⟨base, bl, gl, cap, en⟩ p l2.length = Z := ⟨_, rfl⟩
  have hL' : L = max p base := by rw [← hL]; rfl
  have hZ' : Z = min (p + n2) E := by rw [← hZ, ← hl2, ← hE]; rfl
  have HLV := Lib.hid hL'; clear hL'
  have HZV := Lib.hid hZ'; clear hZ'
  have h3x : Z ≤ L → putR ⟨base, bl, gl, cap, en⟩ p l2 = (⟨base, bl, gl, cap, en⟩, 0, 0) := fun h => by
    rw [← hL, ← hZ] at h
    rcases put_cases ⟨base, bl, gl, cap, en⟩ p l2 with k | k | k | k | k
    · exact absurd ⟨hv, p0, p1⟩ k.2
    · exact absurd (by have h1 := k.2.2; rw [hl2] at h1; exact h1) hov
    · exact k.1
    · exact absurd h k.2.2.2.1
    · have := k.2.lt; omega
  have hvld : L < Z → vld L Z = true := fun h => by
    rw [vld_iff]
    have h1 := low_ge ⟨base, bl, gl, cap, en⟩ p
    have h2 := high_top ⟨base, bl, gl, cap, en⟩ p l2.length
    rw [hL] at h1
    rw [hZ] at h2
    have h4 : (⟨base, bl, gl, cap, en⟩ : Wv).base = base := rfl
    rw [h4] at h1
    omega
  have haddL : L < Z → addR gl (L, Z) = told true (ins gl (L, Z)) := fun h => by
    unfold addR; rw [show mayB gl = true from hv.may, hvld h, addL_ins (show chain (-1) gl = true from hv.chm)]; rfl
  have h4x : L < Z → 1000 < (ins gl (L, Z)).length → putR ⟨base, bl, gl, cap, en⟩ p l2 = (zw, 0, 4) ∧ addR gl (L, Z) = ([], 4) := fun h h1 => by
    refine ⟨?_, by rw [haddL h]; unfold told; rw [if_pos rfl, if_neg (by omega)]⟩
    rcases put_cases ⟨base, bl, gl, cap, en⟩ p l2 with k | k | k | k | k
    · exact absurd ⟨hv, p0, p1⟩ k.2
    · exact absurd (by have h1 := k.2.2; rw [hl2] at h1; exact h1) hov
    · have h5 := k.2.2.2; rw [hL, hZ] at h5; omega
    · exact k.1
    · have h5 := k.2.few; rw [hL, hZ] at h5; rw [show (⟨base, bl, gl, cap, en⟩ : Wv).got = gl from rfl] at h5; omega
  have h5x : L < Z → (ins gl (L, Z)).length ≤ 1000 → (putR ⟨base, bl, gl, cap, en⟩ p l2 = (⟨base, putB ⟨base, bl, gl, cap, en⟩ p l2, ins gl (L, Z), cap, en⟩, ((putN gl L Z : Nat) : Int), 0) ∧ addR gl (L, Z) = (ins gl (L, Z), 0)) ∧ ∀ l, Pz ⟨base, bl, gl, cap, en⟩ p L l2 (Z - L).toNat l → l = putB ⟨base, bl, gl, cap, en⟩ p l2 := fun h h1 => by
    refine ⟨⟨?_, by rw [haddL h]; unfold told; rw [if_pos rfl, if_pos h1]⟩, fun l hl => ?_⟩
    · rcases put_cases ⟨base, bl, gl, cap, en⟩ p l2 with k | k | k | k | k
      · exact absurd ⟨hv, p0, p1⟩ k.2
      · exact absurd (by have h1 := k.2.2; rw [hl2] at h1; exact h1) hov
      · have h5 := k.2.2.2; rw [hL, hZ] at h5; omega
      · have h5 := k.2.2.2.2; rw [hL, hZ] at h5; rw [show (⟨base, bl, gl, cap, en⟩ : Wv).got = gl from rfl] at h5; omega
      · rw [k.1]; unfold putW; rw [hL, hZ]
    · rw [← hL, ← hZ] at hl
      exact pz_end hv (by rw [hL, hZ]; exact h) hl
  have HX3 := Lib.hid h3x; clear h3x
  have HX4 := Lib.hid h4x; clear h4x
  have HX5 := Lib.hid h5x; clear h5x
  have HVL := Lib.hid hvld; clear hvld haddL
  have HL := Lib.hid hL; clear hL
  have HZ := Lib.hid hZ; clear hZ
  have HE := Lib.hid hE; clear hE
  go_enter Try.func12, Try.ntmps12
  rw [hB]
  go_wp2_with fail
  refine hmay.mono ?_
  rintro e w1 ⟨rfl, hb1⟩
  clear x0 x1 x2 x3 x4
  have e1 := e0'.kept hb1
  have r1 := r0'.kept hb1
  have b1 := hb0'.trans (hb1.mono (Nat.le_of_lt e0'.lt))
  have x0 := e1.cell 0 rfl
  have x1 := e1.cell 1 rfl
  have x2 := e1.cell 2 rfl
  have x3 := e1.cell 3 rfl
  have x4 := e1.cell 4 rfl
  have HV := Lib.hid hv; clear hv
  go_upto_region 4 with fail
  go_cut [41] (fun s41 wx => s41 = .bool false ∧ wx = w1)
  case first =>
    rcases Int.lt_or_le en 0 with h | h
    · have h' : ¬ (0 ≤ en) := by omega
      clear hov
      go_wp2_with fail
      go_meet
      case rel => exact ⟨rfl, rfl⟩
    · have h' : ¬ (en < p + (n2 : Int)) := by omega
      clear hov
      go_wp2_with fail
      go_meet
      case rel => exact ⟨rfl, rfl⟩
  case rest =>
  obtain ⟨rfl, rfl⟩ := hcut
  rename World => wx1
  go_upto_if 47 with fail
  go_cut [10] (fun s10 wx => s10 = .int .i64 L ∧ wx = wx1)
  case first =>
    by_cases hpb : p < base
    · obtain rfl : L = base := by have := HLV.out; omega
      go_wp2_with fail
      go_meet
      case rel => exact ⟨rfl, rfl⟩
    · obtain rfl : L = p := by have := HLV.out; omega
      go_wp2_with fail
      go_meet
      case rel => exact ⟨rfl, rfl⟩
  case rest =>
  obtain ⟨rfl, rfl⟩ := hcut
  rename World => wx2
  go_upto_if 57 with (go_at_call 35; refine (hedge _).mono ?_; rintro e w2 ⟨rfl, hb2⟩; have e2 := e1.kept hb2; have r2 := r1.kept hb2; have b2 := b1.trans (hb2.mono (Nat.le_of_lt e1.lt)); clear x0 x1 x2 x3 x4; have x0 := e2.cell 0 rfl; have x1 := e2.cell 1 rfl; have x2 := e2.cell 2 rfl; have x3 := e2.cell 3 rfl; have x4 := e2.cell 4 rfl)
  have hs12 := e2.lt
  go_cut [11] (fun s11 wx => s11 = .int .i64 Z ∧ Below w2.heap.size w2 wx)
  case first =>
    by_cases hEp : E < p + (n2 : Int)
    · obtain rfl : Z = E := by have := HZV.out; omega
      go_wp2_with (go_at_call 35; refine (hedge _).mono ?_; rintro e w3 ⟨rfl, hb3⟩)
      go_meet
      case rel => exact ⟨rfl, hb3⟩
    · obtain rfl : Z = p + n2 := by have := HZV.out; omega
      have hEp' : ¬ (E < p + (n2 : Int)) := hEp
      go_wp2_with fail
      go_meet
      case rel => exact ⟨rfl, Below.refl _ _⟩
  case rest =>
  obtain ⟨rfl, hb3⟩ := hcut
  rename World => w3
  have e3 := e2.kept hb3
  have r3 := r2.kept hb3
  have b3 := b2.trans (hb3.mono (Nat.le_of_lt e2.lt))
  clear x0 x1 x2 x3 x4
  have x0 := e3.cell 0 rfl
  have x1 := e3.cell 1 rfl
  have x2 := e3.cell 2 rfl
  have x3 := e3.cell 3 rfl
  have x4 := e3.cell 4 rfl
  go_wp2_with fail
  refine (rwown_any base A n c G m d cap en bl gl _ (hbk b3) (hgk b3) (by omega) hms).mono ?_
  rintro e w4 ⟨R, q, H, r, rfl, gt, sq, hb4⟩
  clear x0 x1 x2 x3 x4
  have e4 := e3.kept hb4
  have r4 := r3.kept hb4
  have b4 := b3.trans (hb4.mono (Nat.le_of_lt e3.lt))
  have o4 := Bx.new w4 25 [.int .i64 base, .slice R n q, .slice H m r, .int .i64 cap, .int .i64 en]
  have hba := (Below.refl w4.heap.size w4).alloc (Nat.le_refl _) (.cells #[.int .i64 base, .slice R n q, .slice H m r, .int .i64 cap, .int .i64 en] 25)
  have e5 := e4.alloc (.cells #[.int .i64 base, .slice R n q, .slice H m r, .int .i64 cap, .int .i64 en] 25)
  have r5 := r4.alloc (.cells #[.int .i64 base, .slice R n q, .slice H m r, .int .i64 cap, .int .i64 en] 25)
  have b5 := b4.alloc (Nat.le_of_lt e4.lt) (.cells #[.int .i64 base, .slice R n q, .slice H m r, .int .i64 cap, .int .i64 en] 25)
  have hr3 := r3.lt
  by_cases hZL : Z ≤ L
  case pos =>
    have hx := HX3.out hZL
    have HX := Lib.hid hx; clear hx
    have s5 := gt.sb'.keep hba
    have q5 := sq.keep hba
    have z0 := o4.cell 0 rfl
    have z1 := o4.cell 1 rfl
    have z2 := o4.cell 2 rfl
    have z3 := o4.cell 3 rfl
    have z4 := o4.cell 4 rfl
    have t0 := r5.cell 0 rfl
    have t1 := r5.cell 1 rfl
    have t2 := r5.cell 2 rfl
    have t3 := r5.cell 3 rfl
    have t4 := r5.cell 4 rfl
    have tf0 := r5.free 0
    have tf1 := r5.free 1
    have tf2 := r5.free 2
    have tf3 := r5.free 3
    have tf4 := r5.free 4
    go_wp2_with fail
    have OV := (((((r5.set 0 (.int .i64 base)).set 1 (.slice R n q)).set 2 (.slice H m r)).set 3 (.int .i64 cap)).set 4 (.int .i64 en))
    have y0 := OV.cell 0 rfl
    have y1 := OV.cell 1 rfl
    have y2 := OV.cell 2 rfl
    have y3 := OV.cell 3 rfl
    have y4 := OV.cell 4 rfl
    have bz := (((((b5.setCell (p := ⟨B + 1, 0, none⟩) (by simp) (.int .i64 base)).setCell (p := ⟨B + 1, 1, none⟩) (by simp) (.slice R n q)).setCell (p := ⟨B + 1, 2, none⟩) (by simp) (.slice H m r)).setCell (p := ⟨B + 1, 3, none⟩) (by simp) (.int .i64 cap)).setCell (p := ⟨B + 1, 4, none⟩) (by simp) (.int .i64 en))
    have sz := (((((s5.set (p := ⟨B + 1, 0, none⟩) hr3 (.int .i64 base)).set (p := ⟨B + 1, 1, none⟩) hr3 (.slice R n q)).set (p := ⟨B + 1, 2, none⟩) hr3 (.slice H m r)).set (p := ⟨B + 1, 3, none⟩) hr3 (.int .i64 cap)).set (p := ⟨B + 1, 4, none⟩) hr3 (.int .i64 en))
    have qz := (((((q5.set (p := ⟨B + 1, 0, none⟩) hr3 (.int .i64 base)).set (p := ⟨B + 1, 1, none⟩) hr3 (.slice R n q)).set (p := ⟨B + 1, 2, none⟩) hr3 (.slice H m r)).set (p := ⟨B + 1, 3, none⟩) hr3 (.int .i64 cap)).set (p := ⟨B + 1, 4, none⟩) hr3 (.int .i64 en))
    exact bodyPost_ret (v := .tuple #[.agg #[.int .i64 base, .slice R n q, .slice H m r, .int .i64 cap, .int .i64 en], .int .i64 0, .int .i64 0]) (by simp [results, Try.results12, go_sem, y0, y1, y2, y3, y4]) rfl ⟨R, n, q, H, m, r, by rw [HX.out], by rw [HX.out]; exact sz.mono (Nat.le_of_lt e3.lt), by rw [HX.out]; exact qz.mono (Nat.le_of_lt e3.lt), bz⟩
  case neg =>
  have hLZ : L < Z := by omega
  have hLZ' : ¬ (Z ≤ L) := hZL
  have L0 : 0 ≤ L := by have := HLV.out; omega
  have Z0 : Z ≤ 4611686018427387904 := (vld_iff.1 (HVL.out hLZ)).2.2
  have wl : W64 L := by unfold W64; omega
  have wz : W64 Z := by unfold W64; omega
  have x0 := e5.cell 0 rfl
  have x1 := e5.cell 1 rfl
  have x2 := e5.cell 2 rfl
  have x3 := e5.cell 3 rfl
  have x4 := e5.cell 4 rfl
  go_wp2_with fail
  refine (radd_sq G m d gl L Z _ (hgk b5) wl wz).mono ?_
  rintro e w6 ⟨G2, k2, d2, rfl, sg, hb6⟩
  clear x0 x1 x2 x3 x4
  have e6 := e5.kept hb6
  have r6 := r5.kept hb6
  have o6 := o4.kept hb6
  have b6 := b5.trans (hb6.mono (Nat.le_of_lt e5.lt))
  by_cases hfew : (ins gl (L, Z)).length ≤ 1000
  case neg =>
    obtain ⟨hx, ha⟩ := HX4.out hLZ (by omega)
    rw [zw_lit] at hx
    rw [ha]
    have HX := Lib.hid hx; clear hx ha
    have t0 := r6.cell 0 rfl
    have t1 := r6.cell 1 rfl
    have t2 := r6.cell 2 rfl
    have t3 := r6.cell 3 rfl
    have t4 := r6.cell 4 rfl
    have tf0 := r6.free 0
    have tf1 := r6.free 1
    have tf2 := r6.free 2
    have tf3 := r6.free 3
    have tf4 := r6.free 4
    go_wp2_with fail
    have OV := (((((r6.set 0 (.int .i64 0)).set 1 (.slice none 0 0)).set 2 (.slice none 0 0)).set 3 (.int .i64 0)).set 4 (.int .i64 0))
    have y0 := OV.cell 0 rfl
    have y1 := OV.cell 1 rfl
    have y2 := OV.cell 2 rfl
    have y3 := OV.cell 3 rfl
    have y4 := OV.cell 4 rfl
    have bz := (((((b6.setCell (p := ⟨B + 1, 0, none⟩) (by simp) (.int .i64 0)).setCell (p := ⟨B + 1, 1, none⟩) (by simp) (.slice none 0 0)).setCell (p := ⟨B + 1, 2, none⟩) (by simp) (.slice none 0 0)).setCell (p := ⟨B + 1, 3, none⟩) (by simp) (.int .i64 0)).setCell (p := ⟨B + 1, 4, none⟩) (by simp) (.int .i64 0))
    exact bodyPost_ret (v := .tuple #[.agg #[.int .i64 0, .slice none 0 0, .slice none 0 0, .int .i64 0, .int .i64 0], .int .i64 0, .int .i64 4]) (by simp [results, Try.results12, go_sem, y0, y1, y2, y3, y4]) rfl ⟨none, 0, 0, none, 0, 0, by rw [HX.out], by rw [HX.out]; exact Sb.none _ _, by rw [HX.out]; exact Sq.none _ _, bz⟩
  case pos =>
  obtain ⟨⟨hx, ha⟩, hend⟩ := HX5.out hLZ hfew
  rw [ha] at sg
  rw [ha]
  have HX := Lib.hid hx; clear hx ha
  have HEND := Lib.hid hend; clear hend
  have HFEW := Lib.hid hfew; clear hfew
  have h46 := hba.trans (hb6.mono hba.size)
  have hBo6 : w4.heap.size < w6.heap.size := o6.lt
  have hsz34 : w3.heap.size ≤ w4.heap.size := hb4.size
  have g6 := gt.below h46
  have hne6 : (Value.slice R n q).ownBlock ≠ some w4.heap.size := fun h => by have := (gt.own.lt _ h).2; omega
  have g7 := (Got.own g6 |> fun h => ownsRow_setCell_other h (a := ⟨w4.heap.size, 2, none⟩) hne6 (.slice G2 k2 d2))
  have g8 : Got (w6.setCell ⟨w4.heap.size, 2, none⟩ (.slice G2 k2 d2)) w3.heap.size (.slice R n q) n bl := ⟨g7, gt.small⟩
  have hal : w4.heap.size + 1 = (w4.alloc (.cells #[.int .i64 base, .slice R n q, .slice H m r, .int .i64 cap, .int .i64 en] 25)).heap.size := by simp
  have s8 := (sg.set (p := ⟨w4.heap.size, 2, none⟩) (by show w4.heap.size < _; omega) (.slice G2 k2 d2)).mono (base' := w4.heap.size + 1) (Nat.le_of_eq hal)
  have nb8 : ∀ g b o s, (Value.slice R n q).ownBlock = some g → G2 = some ⟨b, o, s⟩ → 0 < k2 → b ≠ g := fun g b o s h1 h2 _ => by
    have h3 := (gt.own.lt _ h1).2
    have h4 := sg.at_ b o s h2
    omega
  have o7 := o6.set 2 (.slice G2 k2 d2)
  have oc2 := o6.cell 2 rfl
  have of2 := o6.free 2
  have b8 := ((hb4.trans (h46.mono hsz34)).setCell (p := ⟨w4.heap.size, 2, none⟩) hsz34 (.slice G2 k2 d2))
  have hB1 : B + 1 < w3.heap.size := r3.lt
  have hB0 : B < w3.heap.size := e3.lt
  obtain ⟨Bo, hBo⟩ : ∃ Bo, w4.heap.size = Bo := ⟨_, rfl⟩
  rw [hBo] at g8 s8 o7 oc2 of2 b8 hsz34 hne6
  clear g6 g7 o4 o6 sg gt sq hal e4 e5 e6 r4 r5 r6
  go_wp2_with fail
  go_loopw [15, 16] (fun cn i wr => ∃ (j m' d' : Nat) (R' : Option Addr) (l : List Int), L + (j : Int) ≤ Z ∧ i = .int .i64 (L + (j : Int)) ∧ cn = .int .i64 ((putN gl L (L + (j : Int)) : Nat) : Int) ∧ Pz ⟨base, bl, gl, cap, en⟩ p L l2 j l ∧ Got wr w3.heap.size (.slice R' m' d') m' l ∧ (Value.slice R' m' d').ownBlock ≠ some Bo ∧ (∀ g b o s, (Value.slice R' m' d').ownBlock = some g → G2 = some ⟨b, o, s⟩ → 0 < k2 → b ≠ g) ∧ Sq wr (Bo + 1) G2 k2 d2 (ins gl (L, Z)) ∧ Bx wr Bo 25 [.int .i64 base, .slice R' m' d', .slice G2 k2 d2, .int .i64 cap, .int .i64 en] ∧ Below w3.heap.size w3 wr) (fun _ i _ => (Z - intOf i).toNat)
  case atStart => exact ⟨0, n, q, R, bl, by omega, by simp, by rw [putN_zero']; rfl, pz_zero _ _ _ _, g8, hne6, nb8, s8, o7, b8⟩
  case round =>
    clear g8 hne6 nb8 s8 o7 oc2 of2 b8
    obtain ⟨j, m', d', R', l, hjZ, rfl, rfl, hpz, hgl', hnb, hnB, hsg, hox, hbw⟩ := hrel
    have PZ := Lib.hid hpz; clear hpz
    have bw := b3.trans (hbw.mono (Nat.le_of_lt hB0))
    have e7 := e3.below hbw hB0
    have r7 := r3.below hbw hB1
    by_cases hlt : L + (j : Int) < Z
    · have y2 := e7.cell 2 rfl
      cases hin : inB gl (L + (j : Int)) with
      | true =>
        go_wp2_with fail
        refine (rin_any G m d gl (L + j) _ (hgk bw)).mono ?_
        rintro e w8 ⟨he, rfl⟩
        rw [hin] at he
        subst he
        have HI := Lib.hid hin; clear hin
        go_wp2_with fail
        go_roundw
        case rel =>
          refine ⟨j + 1, m', d', R', l, by omega, by rw [show L + ((j + 1 : Nat) : Int) = L + (j : Int) + 1 by omega], ?_, pz_skip PZ.out ((inB_iff _ _).1 HI.out), hgl', hnb, hnB, hsg, hox, hbw⟩
          rw [putN_succ, HI.out, if_pos rfl, Nat.add_zero]
        case measure => simp [intOf]; omega
      | false =>
        go_wp2_with fail
        refine (rin_any G m d gl (L + j) _ (hgk bw)).mono ?_
        rintro e w8 ⟨he, rfl⟩
        rw [hin] at he
        subst he
        have HI := Lib.hid hin; clear hin
        have hup : base ≤ L := by have := HLV.out; omega
        obtain ⟨Kk, hKk⟩ : ∃ Kk : Nat, L + (j : Int) - base = Kk := ⟨(L + (j : Int) - base).toNat, by omega⟩
        have hKs : Kk ≤ 65536 := by have h1 := HZV.out; have h2 := HE.out; omega
        have HK := Lib.hid hKk
        have HLT := Lib.hid hlt
        have hll := hgl'.sb'.sl.rd.len
        go_wp2_with fail
        go_loopg [] (Kk + 1 - m') (fun g wi => ∃ (t m2 dd2 : Nat) (R2 : Option Addr), t + g = Kk + 1 - m' ∧ m2 = m' + t ∧ Got wi w3.heap.size (.slice R2 m2 dd2) m2 (l ++ List.replicate t 0) ∧ (Value.slice R2 m2 dd2).ownBlock ≠ some Bo ∧ (∀ g b o s, (Value.slice R2 m2 dd2).ownBlock = some g → G2 = some ⟨b, o, s⟩ → 0 < k2 → b ≠ g) ∧ Sq wi (Bo + 1) G2 k2 d2 (ins gl (L, Z)) ∧ Bx wi Bo 25 [.int .i64 base, .slice R2 m2 dd2, .slice G2 k2 d2, .int .i64 cap, .int .i64 en] ∧ Below w3.heap.size w3 wi)
        case atStart => exact ⟨0, m', d', R', by omega, rfl, by simpa using hgl', hnb, hnB, hsg, hox, hbw⟩
        case round =>
          clear hgl' hnb hnB hsg hox hbw y2 bw e7 r7 hlt
          obtain ⟨t, m2, dd2, R2, htg, hm2, hg2, hnb2, hnB2, hsg2, hox2, hbw2⟩ := hrel
          have e9 := e3.below hbw2 hB0
          have bw2 := b3.trans (hbw2.mono (Nat.le_of_lt hB0))
          have y0 := e9.cell 0 rfl
          have z1 := hox2.cell 1 rfl
          have hsz := hbw2.size
          by_cases hg0 : 0 < gk
          · have cnd : (m2 : Int) ≤ L + (j : Int) - base := by rw [hKk]; omega
            have HM2 := Lib.hid hm2; clear hm2
            have hba2 := hbw2.alloc hsz (.cells #[.int .u8 0] 5)
            have oxa := hox2.alloc (.cells #[.int .u8 0] 5)
            have sga := hsg2.keep ((Below.refl _ _).alloc (Nat.le_refl _) (.cells #[.int .u8 0] 5))
            clear hKk
            go_wp2_with (at_builtin; go_loud (refine wpList_app _ rfl (.tmp 100) (.tmp 101) 22 rfl w3.heap.size 5 Try.underlying22 info_u8 _ m2 (l ++ List.replicate t 0) rfl (hg2.own.alloc _) rfl (fun e => by cases e) (rd_single wr (x := 0) (by omega) (by omega)) (by have := HM2.out; omega) hba2.size ?_); intro v1 u1 hown1 hgrow1 hat1; have hgu : Got u1 w3.heap.size v1 (m2 + 1) ((l ++ List.replicate t 0) ++ [0]) := ⟨hown1, small_app hg2.small (by intro y hy; simp at hy; omega)⟩; obtain ⟨R5, d5, rfl, hsu⟩ := hgu.sl; have oxu := oxa.grown hgrow1 (fun e => hnb2 e.symm); have p1 := oxu.cell 1 rfl; have pf := oxu.free 1)
            have hne5 : (Value.slice R5 (m2 + 1) d5).ownBlock ≠ some Bo := by
              rcases hat1 with h | h
              · rw [h]; exact hnb2
              · rw [h]; intro h1; have h2 := hox2.lt; simp at h1; omega
            have nB5 : ∀ g b o s, (Value.slice R5 (m2 + 1) d5).ownBlock = some g → G2 = some ⟨b, o, s⟩ → 0 < k2 → b ≠ g := by
              intro g b o s h1 h2 h3
              rcases hat1 with h | h
              · rw [h] at h1; exact hnB2 g b o s h1 h2 h3
              · rw [h] at h1
                obtain ⟨b', o', h4, h5, _⟩ := hsg2.ss.rd.at_ h3
                rw [h2] at h4
                cases h4
                simp at h1; omega
            have sgu := (sga.grown hgrow1 (fun h0 b o h1 h2 => hnB2 b b o none h2.symm h1 h0 rfl)).set (p := ⟨Bo, 1, none⟩) (Nat.lt_succ_self _) (.slice R5 (m2 + 1) d5)
            have hbu := (hba2.grown hgrow1 hba2.size (fun g hg' => (hg2.own.lt g hg').1)).setCell (p := ⟨Bo, 1, none⟩) hsz34 (.slice R5 (m2 + 1) d5)
            have ggu : Got (u1.setCell ⟨Bo, 1, none⟩ (.slice R5 (m2 + 1) d5)) w3.heap.size (.slice R5 (m2 + 1) d5) (m2 + 1) (l ++ List.replicate (t + 1) 0) := by
              rw [List.replicate_succ', ← List.append_assoc]
              exact ⟨ownsRow_setCell_other hgu.own (a := ⟨Bo, 1, none⟩) hne5 _, hgu.small⟩
            have oxz := oxu.set 1 (.slice R5 (m2 + 1) d5)
            go_roundg (gk - 1)
            case rel => exact ⟨t + 1, m2 + 1, d5, R5, by omega, by have := HM2.out; omega, ggu, hne5, nB5, sgu, oxz, hbu⟩
            case measure => omega
          · have hm2K : m2 = max m' (Kk + 1) := by omega
            have htK : l.length + t = max l.length (Kk + 1) := by omega
            have cnd : ¬ ((m2 : Int) ≤ L + (j : Int) - base) := by rw [hKk]; omega
            obtain ⟨g, cp, hform, hgw, hgl2⟩ := hg2.own.form (by omega)
            cases hform
            have hK1 : Kk < m2 := by omega
            obtain ⟨b9, o9, hA9, _, hc9⟩ := hg2.sb'.sl.rd.at_ (by omega)
            cases hA9
            have hck := hc9 Kk hK1
            rw [Nat.zero_add] at hck
            have hfk := hg2.own.frozenAt Kk
            have hpl : p ≤ L := by have := HLV.out; omega
            have hjn : L + (j : Int) < p + n2 := by have h1 := HZV.out; have h2 := HLT.out; omega
            obtain ⟨I2, hI2⟩ : ∃ I2 : Nat, L + (j : Int) - p = I2 := ⟨(L + (j : Int) - p).toNat, by omega⟩
            have hI2n : I2 < n2 := by omega
            obtain ⟨bb2, bo2, hA2, hbb2, hcb2⟩ := hs2.rd.at_ (by omega)
            have hcx := (bw2.cell (p := ⟨bb2, bo2 + I2, none⟩) (by rw [← hB]; exact hbb2)).trans (hcb2 I2 hI2n)
            obtain ⟨bd0, bd1⟩ := byt_in hs2.rd.small (i := I2) (by omega)
            obtain ⟨x, hx9⟩ : ∃ x, byt l2 I2 = x := ⟨_, rfl⟩
            rw [hx9] at hcx bd0 bd1
            have hpp := pz_put PZ.out (fun h => by have := (inB_iff _ _).2 h; rw [HI.out] at this; cases this) (k := Kk) (t := t) (show base + (Kk : Int) = L + (j : Int) by omega) htK
            rw [show (L + (j : Int) - p).toNat = I2 by omega, hx9] at hpp
            have HPP := Lib.hid hpp; clear hpp
            have q1 : IntKind.i64.wrap (L + (j : Int) - base) = (Kk : Int) := by rw [hKk]; exact IntWalk.i64_in _ (by omega)
            have q2 : IntKind.i64.wrap (L + (j : Int) - p) = (I2 : Int) := by rw [hI2]; exact IntWalk.i64_in _ (by omega)
            have a1 : (0 : Int) ≤ (Kk : Int) := by omega
            have a2 : (Kk : Int) < (m2 : Int) := by omega
            have a3 : (0 : Int) ≤ (I2 : Int) := by omega
            have a4 : (I2 : Int) < (n2 : Int) := by omega
            have HM2 := Lib.hid hm2K
            have HTK := Lib.hid htK
            have HII := Lib.hid hI2
            subst hA2
            clear hc9 hcb2 hx9 hm2 hm2K htK htg hI2
            clear hKk
            go_wp2_with fail
            clear cnd
            refine wp_region_tail 13 14 (fun w' : World => w'.cell? ⟨Bo, 1, none⟩ = some (.slice (some ⟨g, 0, none⟩) m2 dd2) ∧ w'.cell? ⟨B, 0, none⟩ = some (.int .i64 base) ∧ w'.cell? ⟨bb2, bo2 + I2, none⟩ = some (.int .u8 x)) (by kernel_rfl) (by rfl) (by decide) ?_
            have HS : ((fun w' : World => w'.cell? ⟨Bo, 1, none⟩ = some (.slice (some ⟨g, 0, none⟩) m2 dd2) ∧ w'.cell? ⟨B, 0, none⟩ = some (.int .i64 base) ∧ w'.cell? ⟨bb2, bo2 + I2, none⟩ = some (.int .u8 x))) _ := ⟨z1, y0, hcx⟩
            refine wpAnyT_take (i := 0) (v := ?vv1) rfl (by kernel_rfl) (fun _ _ _ h => h) (Or.inl ⟨by rfl, fun w hSw => ?yy1⟩) HS ?rr1
            case yy1 =>
              (try dsimp only at hSw); go_simp
              try with_reducible rfl
            try simp only [Act.put, List.setIfInBounds_toArray, List.set_cons_zero, List.set_cons_succ]
            refine wpAnyT_take (i := 1) (v := ?vv2) rfl (by kernel_rfl) (fun _ _ _ h => h) (Or.inl ⟨by rfl, fun w hSw => ?yy2⟩) HS ?rr2
            case yy2 =>
              (try dsimp only at hSw); go_simp
              try with_reducible rfl
            try simp only [Act.put, List.setIfInBounds_toArray, List.set_cons_zero, List.set_cons_succ]
            refine wpAnyT_take (i := 2) (v := ?vv3) rfl (by kernel_rfl) (fun _ _ _ h => h) (Or.inl ⟨by rfl, fun w hSw => ?yy3⟩) HS ?rr3
            case yy3 =>
              (try dsimp only at hSw); go_simp
              try with_reducible rfl
            try simp only [Act.put, List.setIfInBounds_toArray, List.set_cons_zero, List.set_cons_succ]
            refine wpAnyT_take (i := 3) (v := ?vv4) rfl (by kernel_rfl) (fun _ _ _ h => h) (Or.inl ⟨by rfl, fun w hSw => ?yy4⟩) HS ?rr4
            case yy4 =>
              (try dsimp only at hSw); go_simp
              try with_reducible rfl
            try simp only [Act.put, List.setIfInBounds_toArray, List.set_cons_zero, List.set_cons_succ]
            refine wpAnyT_take (i := 4) (v := ?vv5) rfl (by kernel_rfl) (fun _ _ _ h => h) (Or.inl ⟨by rfl, fun w hSw => ?yy5⟩) HS ?rr5
            case yy5 =>
              (try dsimp only at hSw); go_simp
              try with_reducible rfl
            try simp only [Act.put, List.setIfInBounds_toArray, List.set_cons_zero, List.set_cons_succ]
            refine wpAnyT_take (i := 5) (v := ?vv6) rfl (by kernel_rfl) (fun _ _ _ h => h) (Or.inl ⟨by rfl, fun w hSw => ?yy6⟩) HS ?rr6
            case yy6 =>
              (try dsimp only at hSw); go_simp
              try with_reducible rfl
            try simp only [Act.put, List.setIfInBounds_toArray, List.set_cons_zero, List.set_cons_succ]
            refine wpAnyT_take (i := 6) (v := ?vv7) rfl (by kernel_rfl) (fun _ _ _ h => h) (Or.inl ⟨by rfl, fun w hSw => ?yy7⟩) HS ?rr7
            case yy7 =>
              (try dsimp only at hSw); go_simp
              try with_reducible rfl
            try simp only [Act.put, List.setIfInBounds_toArray, List.set_cons_zero, List.set_cons_succ]
            refine wpAnyT_take (i := 7) (v := ?vv8) rfl (by kernel_rfl) (fun _ _ _ h => h) (Or.inl ⟨by rfl, fun w hSw => ?yy8⟩) HS ?rr8
            case yy8 =>
              (try dsimp only at hSw); go_simp
              try with_reducible rfl
            try simp only [Act.put, List.setIfInBounds_toArray, List.set_cons_zero, List.set_cons_succ]
            refine wpAnyT_take (i := 8) (v := ?vv9) rfl (by kernel_rfl) (fun _ _ _ h => h) (Or.inl ⟨by rfl, fun w hSw => ?yy9⟩) HS ?rr9
            case yy9 =>
              (try dsimp only at hSw); go_simp
              try with_reducible rfl
            try simp only [Act.put, List.setIfInBounds_toArray, List.set_cons_zero, List.set_cons_succ]
            refine wpAnyT_take (i := 9) (v := ?vv10) rfl (by kernel_rfl) (fun _ _ _ h => h) (Or.inl ⟨by rfl, fun w hSw => ?yy10⟩) HS ?rr10
            case yy10 =>
              (try dsimp only at hSw); go_simp
              try with_reducible rfl
            try simp only [Act.put, List.setIfInBounds_toArray, List.set_cons_zero, List.set_cons_succ]
            refine wpAnyT_take (i := 10) (v := ?vv11) rfl (by kernel_rfl) (fun _ _ _ h => h) (Or.inl ⟨by rfl, fun w hSw => ?yy11⟩) HS ?rr11
            case yy11 =>
              (try dsimp only at hSw); go_simp
              try with_reducible rfl
            try simp only [Act.put, List.setIfInBounds_toArray, List.set_cons_zero, List.set_cons_succ]
            refine wpAnyT_take (i := 11) (v := ?vv12) rfl (by kernel_rfl) (fun _ _ _ h => h) (Or.inl ⟨by rfl, fun w hSw => ?yy12⟩) HS ?rr12
            case yy12 =>
              (try dsimp only at hSw); go_simp
              try with_reducible rfl
            try simp only [Act.put, List.setIfInBounds_toArray, List.set_cons_zero, List.set_cons_succ]
            refine wpAnyT_take (i := 12) (v := ?vv13) rfl (by kernel_rfl) (fun _ _ _ h => h) (Or.inl ⟨by rfl, fun w hSw => ?yy13⟩) HS ?rr13
            case yy13 =>
              (try dsimp only at hSw); go_simp
              try with_reducible rfl
            try simp only [Act.put, List.setIfInBounds_toArray, List.set_cons_zero, List.set_cons_succ]
            refine ⟨by kernel_rfl, ?_⟩
            simp only [List.drop_succ_cons, List.drop_zero]
            clear HS q1 q2
            have hst := (World.ownsRow.drew hg2.own).stored Kk (.int .u8 x)
            have gst : Got (wr.drew.setCell ⟨g, Kk, none⟩ (.int .u8 x)) w3.heap.size (.slice (some ⟨g, 0, none⟩) m2 dd2) m2 ((l ++ List.replicate t 0).set Kk x) := ⟨by rw [List.map_set]; exact hst.1, small_set hg2.small bd0 bd1⟩
            have sst := (hsg2.keep (Below.refl _ _).drew).grown hst.2 (fun h0 b o h1 h2 => hnB2 g b o none rfl h1 h0 (Option.some.inj h2))
            have oxs := hox2.drew.grown hst.2 (fun h => hnb2 h.symm)
            have bst := hbw2.drew.setCell (p := ⟨g, Kk, none⟩) (hg2.own.lt g rfl).1 (.int .u8 x)
            have hck' : wr.drew.cell? ⟨g, Kk, none⟩ = some (.int .u8 (byt (l ++ List.replicate t 0) Kk)) := hck
            have hfk' : wr.drew.frozen? ⟨g, Kk, none⟩ = false := hfk
            have hpn : ((putN gl L (L + (j : Int)) : Nat) : Int) ≤ 140737488355328 := by
              have h1 := putN_le gl L (L + (j : Int))
              have h2 := HLT.out
              have h3 := HZV.out
              omega
            obtain ⟨cN, hcN⟩ : ∃ cN, putN gl L (L + (j : Int)) = cN := ⟨_, rfl⟩
            rw [hcN] at hpn ⊢
            have HCN := Lib.hid hcN; clear hcN
            go_wp2_with fail
            have hlt9 := HLT.out
            go_roundw
            case rel =>
              refine ⟨j + 1, m2, dd2, some ⟨g, 0, none⟩, _, by omega, by rw [show L + ((j + 1 : Nat) : Int) = L + (j : Int) + 1 by omega], ?_, HPP.out, gst, hnb2, hnB2, sst, oxs, bst⟩
              rw [putN_succ, HI.out, if_neg (by simp), HCN.out]
              go_num
            case measure => simp [intOf]; omega
    · have hZj : L + (j : Int) = Z := by omega
      have hjD : (Z - L).toNat = j := by omega
      have hpz := PZ.out
      rw [← hjD] at hpz
      have hl9 := HEND.out l hpz
      have hlt' : ¬ (L + (j : Int) < Z) := hlt
      have HZJ := Lib.hid hZj
      clear hZj hjD hpz hlt
      have OFV := hox
      have q0 := OFV.cell 0 rfl
      have q1 := OFV.cell 1 rfl
      have q2 := OFV.cell 2 rfl
      have q3 := OFV.cell 3 rfl
      have q4 := OFV.cell 4 rfl
      have t0 := r7.cell 0 rfl
      have t1 := r7.cell 1 rfl
      have t2 := r7.cell 2 rfl
      have t3 := r7.cell 3 rfl
      have t4 := r7.cell 4 rfl
      have tf0 := r7.free 0
      have tf1 := r7.free 1
      have tf2 := r7.free 2
      have tf3 := r7.free 3
      have tf4 := r7.free 4
      have sb := hgl'.sb'
      have OV := (((((r7.set 0 (.int .i64 base)).set 1 (.slice R' m' d')).set 2 (.slice G2 k2 d2)).set 3 (.int .i64 cap)).set 4 (.int .i64 en))
      have y0 := OV.cell 0 rfl
      have y1 := OV.cell 1 rfl
      have y2 := OV.cell 2 rfl
      have y3 := OV.cell 3 rfl
      have y4 := OV.cell 4 rfl
      have bz := (((((bw.setCell (p := ⟨B + 1, 0, none⟩) (by simp) (.int .i64 base)).setCell (p := ⟨B + 1, 1, none⟩) (by simp) (.slice R' m' d')).setCell (p := ⟨B + 1, 2, none⟩) (by simp) (.slice G2 k2 d2)).setCell (p := ⟨B + 1, 3, none⟩) (by simp) (.int .i64 cap)).setCell (p := ⟨B + 1, 4, none⟩) (by simp) (.int .i64 en))
      have sz := (((((sb.set (p := ⟨B + 1, 0, none⟩) hB1 (.int .i64 base)).set (p := ⟨B + 1, 1, none⟩) hB1 (.slice R' m' d')).set (p := ⟨B + 1, 2, none⟩) hB1 (.slice G2 k2 d2)).set (p := ⟨B + 1, 3, none⟩) hB1 (.int .i64 cap)).set (p := ⟨B + 1, 4, none⟩) hB1 (.int .i64 en))
      have qz := (((((hsg.set (p := ⟨B + 1, 0, none⟩) (by show B + 1 < _; omega) (.int .i64 base)).set (p := ⟨B + 1, 1, none⟩) (by show B + 1 < _; omega) (.slice R' m' d')).set (p := ⟨B + 1, 2, none⟩) (by show B + 1 < _; omega) (.slice G2 k2 d2)).set (p := ⟨B + 1, 3, none⟩) (by show B + 1 < _; omega) (.int .i64 cap)).set (p := ⟨B + 1, 4, none⟩) (by show B + 1 < _; omega) (.int .i64 en))
      have WZ := Lib.hid (And.intro (And.intro y0 y1) (And.intro y2 (And.intro y3 y4)))
      clear y0 y1 y2 y3 y4
      go_wp2_with fail
      exact bodyPost_ret (v := .tuple #[.agg #[.int .i64 base, .slice R' m' d', .slice G2 k2 d2, .int .i64 cap, .int .i64 en], .int .i64 ((putN gl L (L + (j : Int)) : Nat) : Int), .int .i64 0]) (by simp [results, Try.results12, go_sem, WZ.out.1.1, WZ.out.1.2, WZ.out.2.1, WZ.out.2.2.1, WZ.out.2.2.2]) rfl ⟨R', m', d', G2, k2, d2, by rw [HX.out, HZJ.out], by rw [HX.out, ← hl9]; exact sz.mono (Nat.le_of_lt hB0), by rw [HX.out]; exact qz.mono (by omega), bz⟩
end Go.Proofs.Ytgiknfmagmfniaa
