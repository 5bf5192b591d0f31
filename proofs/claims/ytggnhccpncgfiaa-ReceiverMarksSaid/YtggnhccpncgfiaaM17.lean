/- The texts Wo7. -/
import Derived.Below
import Derived.IntWalk
import Derived.Lib.Hide
import Derived.Outline
import Derived.Test.YtggnhccpncgfiaaProg
import Derived.WalkKit
import Derived.WalkSmall
import Derived.WalkSpells
import Derived.Test.YtggnhccpncgfiaaM16
set_option linter.all false
namespace Go.Proofs.Ytggnhccpncgfiaa
open Go.RowKit
theorem put_diff {w : Wv} {p : Int} {bs : List Int} (h : PutOk w p bs) : sizeF (ins w.got (lowP w p, highP w p bs.length)) - sizeF w.got = (putN w.got (lowP w p) (highP w p bs.length) : Nat) := by
  have h1 : mayB (ins w.got (lowP w p, highP w p bs.length)) = true := h.res.may
  unfold sizeF
  rw [if_pos h1, if_pos h.va.may]
  exact size_put h.va.chm h.lt
theorem sizeF_range {l : List Sp} : 0 ≤ sizeF l ∧ sizeF l ≤ 4611686018427387905 := by
  unfold sizeF
  by_cases h : mayB l = true
  · rw [if_pos h]
    have := size_take (mayB_parts h).2 l.length
    rw [List.take_length] at this
    exact this
  · rw [if_neg h]; omega
set_option maxRecDepth 100000 in
set_option maxHeartbeats 8000000 in
theorem wput_any (base : Int) (A : Option Addr) (n c : Nat) (G : Option Addr) (m d : Nat) (cap en : Int) (bl : List Int) (gl : List Sp) (w : World) (hb : Sl w A n c bl) (hg : Ss w G m d gl) (hn : n ≤ 140737488355328) (p : Int) (A2 : Option Addr) (n2 c2 : Nat) (l2 : List Int) (hp : W64 p) (hb2 : Sl w A2 n2 c2 l2) (hn2 : n2 ≤ 140737488355328) :
    Calls Try.prog 60 #[.agg #[.int .i64 base, .slice A n c, .slice G m d, .int .i64 cap, .int .i64 en], .int .i64 p, .slice A2 n2 c2] w fun e w' => TellP w w' e (putR ⟨base, bl, gl, cap, en⟩ p l2) := by
  unfold TellP
  have hbl := hb.rd.len
  have hgl := hg.rd.len
  obtain ⟨B, hB⟩ : ∃ B, w.heap.size = B := ⟨_, rfl⟩
  have e0 := (Bx.new w 25 [.int .i64 base, .slice A n c, .slice G m d, .int .i64 cap, .int .i64 en]).alloc (.cells #[.int .i64 0, .slice none 0 0, .slice none 0 0, .int .i64 0, .int .i64 0] 25)
  have r0 := Bx.new (w.alloc (.cells #[.int .i64 base, .slice A n c, .slice G m d, .int .i64 cap, .int .i64 en] 25)) 25 [.int .i64 0, .slice none 0 0, .slice none 0 0, .int .i64 0, .int .i64 0]
  have hb0 : Below w.heap.size w ((w.alloc (.cells #[.int .i64 base, .slice A n c, .slice G m d, .int .i64 cap, .int .i64 en] 25)).alloc (.cells #[.int .i64 0, .slice none 0 0, .slice none 0 0, .int .i64 0, .int .i64 0] 25)) := ((Below.refl _ _).alloc (Nat.le_refl _) _).alloc (by simp) _
  rw [World.size_alloc] at r0
  rw [hB] at e0 r0 hb0
  obtain ⟨w0, hw0⟩ : ∃ w0, (w.alloc (.cells #[.int .i64 base, .slice A n c, .slice G m d, .int .i64 cap, .int .i64 en] 25)).alloc (.cells #[.int .i64 0, .slice none 0 0, .slice none 0 0, .int .i64 0, .int .i64 0] 25) = w0 := ⟨_, rfl⟩
  have e0' : Bx w0 B 25 [.int .i64 base, .slice A n c, .slice G m d, .int .i64 cap, .int .i64 en] := by rw [← hw0]; exact e0
  have r0' : Bx w0 (B + 1) 25 [.int .i64 0, .slice none 0 0, .slice none 0 0, .int .i64 0, .int .i64 0] := by rw [← hw0]; exact r0
  have hb0' : Below B w w0 := by rw [← hw0]; exact hb0
  clear e0 r0 hb0
  have hbk : ∀ {w' : World}, Below B w w' → Sl w' A n c bl := fun h => hb.keep (by rw [hB]; exact h)
  have hgk : ∀ {w' : World}, Below B w w' → Ss w' G m d gl := fun h => hg.keep (by rw [hB]; exact h)
  have hmay := wvmay_any base A n c G m d cap en bl gl _ (hbk hb0') (hgk hb0') hn
  have x0 := e0'.cell 0 rfl
  have x1 := e0'.cell 1 rfl
  have x2 := e0'.cell 2 rfl
  have x3 := e0'.cell 3 rfl
  have x4 := e0'.cell 4 rfl
  have hbk2 : ∀ {w' : World}, Below B w w' → Sl w' A2 n2 c2 l2 := fun h => hb2.keep (by rw [hB]; exact h)
  have hl2 := hb2.rd.len
  have hcap2 := hb2.le
  by_cases hval : Va ⟨base, bl, gl, cap, en⟩ ∧ 0 ≤ p ∧ p ≤ 2305843009213693952
  case neg =>
    have hx : putR ⟨base, bl, gl, cap, en⟩ p l2 = (⟨0, [], [], 0, 0⟩, 0, 1) := by
      rcases put_cases ⟨base, bl, gl, cap, en⟩ p l2 with h | h | h | h | h
      · exact h.1
      · exact absurd h.2.1 hval
      · exact absurd h.2.1 hval
      · exact absurd h.2.1 hval
      · exact absurd ⟨h.2.va, h.2.p0, h.2.p1⟩ hval
    rw [hx]
    clear hx
    have HN := Lib.hid hval; clear hval
    go_enter Try.func60, Try.ntmps60
    rw [hB]
    go_wp2_with fail
    refine hmay.mono ?_
    rintro e w1 ⟨he, hb1⟩
    clear x0 x1 x2 x3 x4
    have e1 := e0'.kept hb1
    have r1 := r0'.kept hb1
    have b1 := hb0'.trans (hb1.mono (Nat.le_of_lt e0'.lt))
    have x0 := e1.cell 0 rfl
    have x1 := e1.cell 1 rfl
    have x2 := e1.cell 2 rfl
    have x3 := e1.cell 3 rfl
    have x4 := e1.cell 4 rfl
    cases hk : wmay ⟨base, bl, gl, cap, en⟩ with
    | false =>
      rw [hk] at he; subst he
      have t0 := r1.cell 0 rfl
      have t1 := r1.cell 1 rfl
      have t2 := r1.cell 2 rfl
      have t3 := r1.cell 3 rfl
      have t4 := r1.cell 4 rfl
      have tf0 := r1.free 0
      have tf1 := r1.free 1
      have tf2 := r1.free 2
      have tf3 := r1.free 3
      have tf4 := r1.free 4
      go_wp2_with fail
      have OV := (((((r1.set 0 (.int .i64 0)).set 1 (.slice none 0 0)).set 2 (.slice none 0 0)).set 3 (.int .i64 0)).set 4 (.int .i64 0))
      have y0 := OV.cell 0 rfl
      have y1 := OV.cell 1 rfl
      have y2 := OV.cell 2 rfl
      have y3 := OV.cell 3 rfl
      have y4 := OV.cell 4 rfl
      have bz := (((((b1.setCell (p := ⟨B + 1, 0, none⟩) (by simp) (.int .i64 0)).setCell (p := ⟨B + 1, 1, none⟩) (by simp) (.slice none 0 0)).setCell (p := ⟨B + 1, 2, none⟩) (by simp) (.slice none 0 0)).setCell (p := ⟨B + 1, 3, none⟩) (by simp) (.int .i64 0)).setCell (p := ⟨B + 1, 4, none⟩) (by simp) (.int .i64 0))
      exact bodyPost_ret (v := .tuple #[.agg #[.int .i64 0, .slice none 0 0, .slice none 0 0, .int .i64 0, .int .i64 0], .int .i64 0, .int .i64 1]) (by simp [results, Try.results60, go_sem, y0, y1, y2, y3, y4]) rfl ⟨none, 0, 0, none, 0, 0, rfl, Sb.none _ _, Sq.none _ _, bz⟩
    | true =>
      rw [hk] at he; subst he
      have hpos : posB p = false := posB_not.2 (fun h => HN.out ⟨(wmay_iff _).1 hk, h.1, h.2⟩)
      have HK := Lib.hid hk; clear hk
      have t0 := r1.cell 0 rfl
      have t1 := r1.cell 1 rfl
      have t2 := r1.cell 2 rfl
      have t3 := r1.cell 3 rfl
      have t4 := r1.cell 4 rfl
      have tf0 := r1.free 0
      have tf1 := r1.free 1
      have tf2 := r1.free 2
      have tf3 := r1.free 3
      have tf4 := r1.free 4
      go_wp2_with fail
      refine (wpos_any p _).mono ?_
      rintro e w9 ⟨he, rfl⟩
      rw [hpos] at he
      subst he
      go_wp2_with fail
      have OV := (((((r1.set 0 (.int .i64 0)).set 1 (.slice none 0 0)).set 2 (.slice none 0 0)).set 3 (.int .i64 0)).set 4 (.int .i64 0))
      have y0 := OV.cell 0 rfl
      have y1 := OV.cell 1 rfl
      have y2 := OV.cell 2 rfl
      have y3 := OV.cell 3 rfl
      have y4 := OV.cell 4 rfl
      have bz := (((((b1.setCell (p := ⟨B + 1, 0, none⟩) (by simp) (.int .i64 0)).setCell (p := ⟨B + 1, 1, none⟩) (by simp) (.slice none 0 0)).setCell (p := ⟨B + 1, 2, none⟩) (by simp) (.slice none 0 0)).setCell (p := ⟨B + 1, 3, none⟩) (by simp) (.int .i64 0)).setCell (p := ⟨B + 1, 4, none⟩) (by simp) (.int .i64 0))
      exact bodyPost_ret (v := .tuple #[.agg #[.int .i64 0, .slice none 0 0, .slice none 0 0, .int .i64 0, .int .i64 0], .int .i64 0, .int .i64 1]) (by simp [results, Try.results60, go_sem, y0, y1, y2, y3, y4]) rfl ⟨none, 0, 0, none, 0, 0, rfl, Sb.none _ _, Sq.none _ _, bz⟩
  case pos =>
  obtain ⟨hv, p0, p1⟩ := hval
  have hpos : posB p = true := posB_iff.2 ⟨p0, p1⟩
  rw [(wmay_iff _).2 hv] at hmay
  have v0 : 0 ≤ base := hv.base0
  have v1 : base ≤ 2305843009213693952 := hv.base1
  have v2 : 0 ≤ cap := hv.cap0
  have v3 : cap ≤ 65536 := hv.cap1
  have hen : en = -1 ∨ 0 ≤ en := by
    rcases hv.en with h | h
    · exact .inl h
    · right; have h1 := up_ge hv; have h2 : (⟨base, bl, gl, cap, en⟩ : Wv).base = base := rfl; have h3 : (⟨base, bl, gl, cap, en⟩ : Wv).en = en := rfl; rw [h2] at h1; rw [h3] at h; omega
  by_cases hov : 0 ≤ en ∧ en < p + n2
  case pos =>
    have hx : putR ⟨base, bl, gl, cap, en⟩ p l2 = (⟨0, [], [], 0, 0⟩, 0, 5) := by
      rcases put_cases ⟨base, bl, gl, cap, en⟩ p l2 with h | h | h | h | h
      · exact absurd ⟨hv, p0, p1⟩ h.2
      · exact h.1
      · exact absurd (by rw [hl2]; exact hov) h.2.2.1
      · exact absurd (by rw [hl2]; exact hov) h.2.2.1
      · exfalso; have h1 := h.2.en; rw [hl2] at h1; have h2 : (⟨base, bl, gl, cap, en⟩ : Wv).en = en := rfl; rw [h2] at h1; omega
    rw [hx]
    clear hx hv hen
    obtain ⟨hov1, hov2⟩ := hov
    have h4' : (en != -1) = true := by simp; omega
    go_enter Try.func60, Try.ntmps60
    rw [hB]
    go_wp2_with fail
    refine hmay.mono ?_
    rintro e w1 ⟨rfl, hb1⟩
    clear x0 x1 x2 x3 x4
    have e1 := e0'.kept hb1
    have r1 := r0'.kept hb1
    have b1 := hb0'.trans (hb1.mono (Nat.le_of_lt e0'.lt))
    have x0 := e1.cell 0 rfl
    have x1 := e1.cell 1 rfl
    have x2 := e1.cell 2 rfl
    have x3 := e1.cell 3 rfl
    have x4 := e1.cell 4 rfl
    have t0 := r1.cell 0 rfl
    have t1 := r1.cell 1 rfl
    have t2 := r1.cell 2 rfl
    have t3 := r1.cell 3 rfl
    have t4 := r1.cell 4 rfl
    have tf0 := r1.free 0
    have tf1 := r1.free 1
    have tf2 := r1.free 2
    have tf3 := r1.free 3
    have tf4 := r1.free 4
    go_wp2_with fail
    refine (wpos_any p _).mono ?_
    rintro e w9 ⟨he, rfl⟩
    rw [hpos] at he
    subst he
    go_wp2_with fail
    have OV := (((((r1.set 0 (.int .i64 0)).set 1 (.slice none 0 0)).set 2 (.slice none 0 0)).set 3 (.int .i64 0)).set 4 (.int .i64 0))
    have y0 := OV.cell 0 rfl
    have y1 := OV.cell 1 rfl
    have y2 := OV.cell 2 rfl
    have y3 := OV.cell 3 rfl
    have y4 := OV.cell 4 rfl
    have bz := (((((b1.setCell (p := ⟨B + 1, 0, none⟩) (by simp) (.int .i64 0)).setCell (p := ⟨B + 1, 1, none⟩) (by simp) (.slice none 0 0)).setCell (p := ⟨B + 1, 2, none⟩) (by simp) (.slice none 0 0)).setCell (p := ⟨B + 1, 3, none⟩) (by simp) (.int .i64 0)).setCell (p := ⟨B + 1, 4, none⟩) (by simp) (.int .i64 0))
    exact bodyPost_ret (v := .tuple #[.agg #[.int .i64 0, .slice none 0 0, .slice none 0 0, .int .i64 0, .int .i64 0], .int .i64 0, .int .i64 5]) (by simp [results, Try.results60, go_sem, y0, y1, y2, y3, y4]) rfl ⟨none, 0, 0, none, 0, 0, rfl, Sb.none _ _, Sq.none _ _, bz⟩
  case neg =>
  have hns : n ≤ 65536 := by have := b_small hv; rw [show (⟨base, bl, gl, cap, en⟩ : Wv).b = bl from rfl, hbl] at this; exact this
  have hms : m ≤ 1000 := by have := hv.len; rw [show (⟨base, bl, gl, cap, en⟩ : Wv).got = gl from rfl, hgl] at this; exact this
  have hch : chain (base - 1) gl = true := hv.ch
  have hU : lastOf base gl = base + n := by
    have h1 := hv.blen
    have h2 : ((⟨base, bl, gl, cap, en⟩ : Wv).b.length : Int) = (n : Int) := by show (bl.length : Int) = _; rw [hbl]
    have h3 : upW ⟨base, bl, gl, cap, en⟩ = lastOf base gl := rfl
    have h4 : (⟨base, bl, gl, cap, en⟩ : Wv).base = base := rfl
    rw [h2, h3, h4] at h1; omega
  have hedge := fun (w' : World) => wedge_in base A n c G m d cap en w' v0 v1 v2 v3
  obtain ⟨E, hE⟩ : ∃ E, min (base + cap) 2305843009213693952 = E := ⟨_, rfl⟩
  rw [hE] at hedge
  obtain ⟨L, hL⟩ : ∃ L, lowP ⟨base, bl, gl, cap, en⟩ p = L := ⟨_, rfl⟩
  obtain ⟨Z, hZ⟩ : ∃ Z, highP ⟨base, bl, gl, cap, en⟩ p l2.length = Z := ⟨_, rfl⟩
  have hL' : L = max p base := by rw [← hL]; rfl
  have hZ' : Z = min (p + n2) E := by rw [← hZ, ← hl2, ← hE]; rfl
  have hEt : E ≤ 2305843009213693952 := by omega
  have hEc : E ≤ base + cap := by omega
  have h3x : Z ≤ L → putR ⟨base, bl, gl, cap, en⟩ p l2 = (⟨base, bl, gl, cap, en⟩, 0, 0) := fun h => by
    rw [← hL, ← hZ] at h
    rcases put_cases ⟨base, bl, gl, cap, en⟩ p l2 with k | k | k | k | k
    · exact absurd ⟨hv, p0, p1⟩ k.2
    · exact absurd (by have h1 := k.2.2; rw [hl2] at h1; exact h1) hov
    · exact k.1
    · exact absurd h k.2.2.2.1
    · have := k.2.lt; omega
  have hvld : L < Z → vld L Z = true := fun h => by rw [vld_iff]; omega
  have haddL : L < Z → addR gl (L, Z) = told true (ins gl (L, Z)) := fun h => by
    unfold addR; rw [show mayB gl = true from hv.may, hvld h, addL_ins (show chain (-1) gl = true from hv.chm)]; rfl
  have h4x : L < Z → 1000 < (ins gl (L, Z)).length → putR ⟨base, bl, gl, cap, en⟩ p l2 = (⟨0, [], [], 0, 0⟩, 0, 4) ∧ addR gl (L, Z) = ([], 4) := fun h h1 => by
    refine ⟨?_, by rw [haddL h]; unfold told; rw [if_pos rfl, if_neg (by omega)]⟩
    rcases put_cases ⟨base, bl, gl, cap, en⟩ p l2 with k | k | k | k | k
    · exact absurd ⟨hv, p0, p1⟩ k.2
    · exact absurd (by have h1 := k.2.2; rw [hl2] at h1; exact h1) hov
    · have h5 := k.2.2.2; rw [hL, hZ] at h5; omega
    · exact k.1
    · have h5 := k.2.few; rw [hL, hZ] at h5; rw [show (⟨base, bl, gl, cap, en⟩ : Wv).got = gl from rfl] at h5; omega
  have h5x : L < Z → (ins gl (L, Z)).length ≤ 1000 → (putR ⟨base, bl, gl, cap, en⟩ p l2 = (⟨base, putB ⟨base, bl, gl, cap, en⟩ p l2, ins gl (L, Z), cap, en⟩, ((putN gl L Z : Nat) : Int), 0) ∧ addR gl (L, Z) = (ins gl (L, Z), 0)) ∧ sizeF (ins gl (L, Z)) - sizeF gl = (putN gl L Z : Nat) := fun h h1 => by
    rcases put_cases ⟨base, bl, gl, cap, en⟩ p l2 with k | k | k | k | k
    · exact absurd ⟨hv, p0, p1⟩ k.2
    · exact absurd (by have h1 := k.2.2; rw [hl2] at h1; exact h1) hov
    · have h5 := k.2.2.2; rw [hL, hZ] at h5; omega
    · have h5 := k.2.2.2.2; rw [hL, hZ] at h5; rw [show (⟨base, bl, gl, cap, en⟩ : Wv).got = gl from rfl] at h5; omega
    · refine ⟨⟨by rw [k.1]; unfold putW; rw [hL, hZ], by rw [haddL h]; unfold told; rw [if_pos rfl, if_pos h1]⟩, ?_⟩
      have := put_diff k.2
      rw [hL, hZ] at this
      exact this
  have h6x : ∀ f N kk jj : Nat, L < Z → L = base + (f : Int) → N = max n (Z - base).toNat → L = p + (kk : Int) → Z = p + (jj : Int) → wovB gl gl.length base bl ((l2.take jj).drop kk) f N = putB ⟨base, bl, gl, cap, en⟩ p l2 := fun f N kk jj h1 h2 h3 h4 h5 =>
    wov_end (w := ⟨base, bl, gl, cap, en⟩) (p := p) (bs := l2) hv (by rw [hL, hZ]; exact h1) (by rw [hL]; exact h2) (by rw [hZ]; show N = max bl.length _; rw [hbl]; exact h3) (by rw [hL]; exact h4) (by rw [hZ]; exact h5)
  have HX3 := Lib.hid h3x; clear h3x
  have HX4 := Lib.hid h4x; clear h4x
  have HX5 := Lib.hid h5x; clear h5x
  have HX6 := Lib.hid h6x; clear h6x
  have HVL := Lib.hid hvld; clear hvld haddL
  have HL := Lib.hid hL; clear hL
  have HZ := Lib.hid hZ; clear hZ
  have HE := Lib.hid hE; clear hE
  have HV := Lib.hid hv; clear hv
  have HCH := Lib.hid hch; clear hch
  have HU := Lib.hid hU; clear hU
  have HLV := Lib.hid hL'
  have HZV := Lib.hid hZ'
  have q1 : IntKind.i64.wrap (p + (n2 : Int)) = p + (n2 : Int) := IntWalk.i64_in _ (by omega)
  have LB0 : base ≤ L ∧ p ≤ L := by omega
  have ZB : Z ≤ E ∧ Z ≤ p + n2 := by omega
  clear hL' hZ'
  go_enter Try.func60, Try.ntmps60
  rw [hB]
  go_wp2_with fail
  refine hmay.mono ?_
  rintro e w1 ⟨rfl, hb1⟩
  clear x0 x1 x2 x3 x4
  have e1 := e0'.kept hb1
  have r1 := r0'.kept hb1
  have b1 := hb0'.trans (hb1.mono (Nat.le_of_lt e0'.lt))
  have x0 := e1.cell 0 rfl
  have x1 := e1.cell 1 rfl
  have x2 := e1.cell 2 rfl
  have x3 := e1.cell 3 rfl
  have x4 := e1.cell 4 rfl
  go_wp2_with fail
  refine (wpos_any p _).mono ?_
  rintro e w9 ⟨he, rfl⟩
  rw [hpos] at he
  subst he
  go_upto_region 3 with fail
  go_cut [34] (fun s34 wx => s34 = .bool false ∧ wx = w1)
  case first =>
    rcases hen with h | h
    · have h' : (en != -1) = false := by simp [h]
      clear hov h
      go_wp2_with fail
      go_meet
      case rel => exact ⟨rfl, rfl⟩
    · have h' : (en != -1) = true := by simp; omega
      have h6 : ¬ (en < p + (n2 : Int)) := by omega
      clear hov h
      go_wp2_with fail
      go_meet
      case rel => exact ⟨rfl, rfl⟩
  case rest =>
  obtain ⟨rfl, rfl⟩ := hcut
  rename World => w3
  clear hen hov
  go_upto_region 5 with fail
  go_cut [9, 10] (fun s9 s10 wx => s9 = .int .i64 L ∧ s10 = .int .i64 Z ∧ Below w3.heap.size w3 wx)
  case first =>
    have e3 := e1.drew
    have b3 := b1.drew
    clear x0 x1 x2 x3 x4
    by_cases hpb : p < base
    · have hLb : base = L := by have := HLV.out; omega
      have HLb := Lib.hid hLb; clear hLb
      by_cases hEp : E < p + (n2 : Int)
      · have hZe : E = Z := by have := HZV.out; omega
        have HZe := Lib.hid hZe; clear hZe
        refine wp_region_tail 12 13 (fun w' : World => w'.cell? ⟨B, 0, none⟩ = some (.int .i64 base) ∧ w'.cell? ⟨B, 1, none⟩ = some (.slice A n c) ∧ w'.cell? ⟨B, 2, none⟩ = some (.slice G m d) ∧ w'.cell? ⟨B, 3, none⟩ = some (.int .i64 cap) ∧ w'.cell? ⟨B, 4, none⟩ = some (.int .i64 en)) (by kernel_rfl) (by rfl) (by decide) ?_
        have HS : ((fun w' : World => w'.cell? ⟨B, 0, none⟩ = some (.int .i64 base) ∧ w'.cell? ⟨B, 1, none⟩ = some (.slice A n c) ∧ w'.cell? ⟨B, 2, none⟩ = some (.slice G m d) ∧ w'.cell? ⟨B, 3, none⟩ = some (.int .i64 cap) ∧ w'.cell? ⟨B, 4, none⟩ = some (.int .i64 en))) _ := ⟨e3.cell 0 rfl, e3.cell 1 rfl, e3.cell 2 rfl, e3.cell 3 rfl, e3.cell 4 rfl⟩
        refine wpAnyT_take (i := 0) (v := ?vv22) rfl (by kernel_rfl) (fun _ _ _ h => h) (Or.inl ⟨by rfl, fun w hSw => ?yy22⟩) HS ?rr22
        case yy22 =>
          (try dsimp only at hSw); go_simp
          try with_reducible rfl
        try simp only [Act.put, List.setIfInBounds_toArray, List.set_cons_zero, List.set_cons_succ]
        refine wpAnyT_take (i := 1) (v := ?vv23) rfl (by kernel_rfl) (fun _ _ _ h => h) (Or.inl ⟨by rfl, fun w hSw => ?yy23⟩) HS ?rr23
        case yy23 =>
          (try dsimp only at hSw); go_simp
          try with_reducible rfl
        try simp only [Act.put, List.setIfInBounds_toArray, List.set_cons_zero, List.set_cons_succ]
        refine wpAnyT_take (i := 2) (v := ?vv24) rfl (by kernel_rfl) (fun _ _ _ h => h) (Or.inl ⟨by rfl, fun w hSw => ?yy24⟩) HS ?rr24
        case yy24 =>
          (try dsimp only at hSw); go_simp
          try with_reducible rfl
        try simp only [Act.put, List.setIfInBounds_toArray, List.set_cons_zero, List.set_cons_succ]
        refine wpAnyT_take (i := 3) (v := ?vv25) rfl (by kernel_rfl) (fun _ _ _ h => h) (Or.inl ⟨by rfl, fun w hSw => ?yy25⟩) HS ?rr25
        case yy25 =>
          (try dsimp only at hSw); go_simp
          try with_reducible rfl
        try simp only [Act.put, List.setIfInBounds_toArray, List.set_cons_zero, List.set_cons_succ]
        refine wpAnyT_take (i := 4) (v := ?vv26) rfl (by kernel_rfl) (fun _ _ _ h => h) (Or.inl ⟨by rfl, fun w hSw => ?yy26⟩) HS ?rr26
        case yy26 =>
          (try dsimp only at hSw); go_simp
          try with_reducible rfl
        try simp only [Act.put, List.setIfInBounds_toArray, List.set_cons_zero, List.set_cons_succ]
        refine wpAnyT_take (i := 5) (v := ?vv27) rfl (by kernel_rfl) (fun _ _ _ h => h) (Or.inl ⟨by rfl, fun w hSw => ?yy27⟩) HS ?rr27
        case yy27 =>
          (try dsimp only at hSw); go_simp
          try with_reducible rfl
        try simp only [Act.put, List.setIfInBounds_toArray, List.set_cons_zero, List.set_cons_succ]
        refine wpAnyT_take (i := 6) (v := ?vv28) rfl (by kernel_rfl) (fun _ _ _ h => h) (Or.inl ⟨by rfl, fun w hSw => ?yy28⟩) HS ?rr28
        case yy28 =>
          (try dsimp only at hSw); go_simp
          try with_reducible rfl
        try simp only [Act.put, List.setIfInBounds_toArray, List.set_cons_zero, List.set_cons_succ]
        refine wpAnyT_take (i := 7) (v := ?vv29) rfl (by kernel_rfl) (fun _ _ _ h => h) (Or.inl ⟨by rfl, fun w hSw => ?yy29⟩) HS ?rr29
        case yy29 =>
          (try dsimp only at hSw); go_simp
          try with_reducible rfl
        try simp only [Act.put, List.setIfInBounds_toArray, List.set_cons_zero, List.set_cons_succ]
        refine wpAnyT_take (i := 8) (v := ?vv30) rfl (by kernel_rfl) (fun _ _ _ h => h) (Or.inl ⟨by rfl, fun w hSw => ?yy30⟩) HS ?rr30
        case yy30 =>
          (try dsimp only at hSw); go_simp
          try with_reducible rfl
        try simp only [Act.put, List.setIfInBounds_toArray, List.set_cons_zero, List.set_cons_succ]
        refine wpAnyT_one (k := 9) rfl (by kernel_rfl) (by decide) (fun K hK => ?_)
        go_simp
        refine (hedge _).mono ?_
        rintro e w4 ⟨rfl, hb4⟩
        have e4 := e3.kept hb4
        have b4 := b3.trans (hb4.mono (Nat.le_of_lt e3.lt))
        have HS : ((fun w' : World => w'.cell? ⟨B, 0, none⟩ = some (.int .i64 base) ∧ w'.cell? ⟨B, 1, none⟩ = some (.slice A n c) ∧ w'.cell? ⟨B, 2, none⟩ = some (.slice G m d) ∧ w'.cell? ⟨B, 3, none⟩ = some (.int .i64 cap) ∧ w'.cell? ⟨B, 4, none⟩ = some (.int .i64 en))) _ := ⟨e4.cell 0 rfl, e4.cell 1 rfl, e4.cell 2 rfl, e4.cell 3 rfl, e4.cell 4 rfl⟩
        refine hK _ _ HS ?_
        clear hK K
        try simp only [Act.put, List.setIfInBounds_toArray, List.set_cons_zero, List.set_cons_succ]
        refine wpAnyT_take (i := 10) (v := ?vv31) rfl (by kernel_rfl) (fun _ _ _ h => h) (Or.inl ⟨by rfl, fun w hSw => ?yy31⟩) HS ?rr31
        case yy31 =>
          (try dsimp only at hSw); go_simp
          try with_reducible rfl
        try simp only [Act.put, List.setIfInBounds_toArray, List.set_cons_zero, List.set_cons_succ]
        refine wpAnyT_take (i := 11) (v := ?vv32) rfl (by kernel_rfl) (fun _ _ _ h => h) (Or.inl ⟨by rfl, fun w hSw => ?yy32⟩) HS ?rr32
        case yy32 =>
          (try dsimp only at hSw); go_simp
          try with_reducible rfl
        try simp only [Act.put, List.setIfInBounds_toArray, List.set_cons_zero, List.set_cons_succ]
        refine ⟨by kernel_rfl, ?_⟩
        simp only [List.drop_succ_cons, List.drop_zero]
        clear HS
        go_wp2_with fail
        go_meet
        case rel => exact ⟨by rw [← HLb.out], by rw [← HZe.out], (Below.refl _ _).drew.trans hb4⟩
      · have hZe : p + (n2 : Int) = Z := by have := HZV.out; omega
        have HZe := Lib.hid hZe; clear hZe
        refine wp_region_tail 12 13 (fun w' : World => w'.cell? ⟨B, 0, none⟩ = some (.int .i64 base) ∧ w'.cell? ⟨B, 1, none⟩ = some (.slice A n c) ∧ w'.cell? ⟨B, 2, none⟩ = some (.slice G m d) ∧ w'.cell? ⟨B, 3, none⟩ = some (.int .i64 cap) ∧ w'.cell? ⟨B, 4, none⟩ = some (.int .i64 en)) (by kernel_rfl) (by rfl) (by decide) ?_
        have HS : ((fun w' : World => w'.cell? ⟨B, 0, none⟩ = some (.int .i64 base) ∧ w'.cell? ⟨B, 1, none⟩ = some (.slice A n c) ∧ w'.cell? ⟨B, 2, none⟩ = some (.slice G m d) ∧ w'.cell? ⟨B, 3, none⟩ = some (.int .i64 cap) ∧ w'.cell? ⟨B, 4, none⟩ = some (.int .i64 en))) _ := ⟨e3.cell 0 rfl, e3.cell 1 rfl, e3.cell 2 rfl, e3.cell 3 rfl, e3.cell 4 rfl⟩
        refine wpAnyT_take (i := 0) (v := ?vv33) rfl (by kernel_rfl) (fun _ _ _ h => h) (Or.inl ⟨by rfl, fun w hSw => ?yy33⟩) HS ?rr33
        case yy33 =>
          (try dsimp only at hSw); go_simp
          try with_reducible rfl
        try simp only [Act.put, List.setIfInBounds_toArray, List.set_cons_zero, List.set_cons_succ]
        refine wpAnyT_take (i := 1) (v := ?vv34) rfl (by kernel_rfl) (fun _ _ _ h => h) (Or.inl ⟨by rfl, fun w hSw => ?yy34⟩) HS ?rr34
        case yy34 =>
          (try dsimp only at hSw); go_simp
          try with_reducible rfl
        try simp only [Act.put, List.setIfInBounds_toArray, List.set_cons_zero, List.set_cons_succ]
        refine wpAnyT_take (i := 2) (v := ?vv35) rfl (by kernel_rfl) (fun _ _ _ h => h) (Or.inl ⟨by rfl, fun w hSw => ?yy35⟩) HS ?rr35
        case yy35 =>
          (try dsimp only at hSw); go_simp
          try with_reducible rfl
        try simp only [Act.put, List.setIfInBounds_toArray, List.set_cons_zero, List.set_cons_succ]
        refine wpAnyT_take (i := 3) (v := ?vv36) rfl (by kernel_rfl) (fun _ _ _ h => h) (Or.inl ⟨by rfl, fun w hSw => ?yy36⟩) HS ?rr36
        case yy36 =>
          (try dsimp only at hSw); go_simp
          try with_reducible rfl
        try simp only [Act.put, List.setIfInBounds_toArray, List.set_cons_zero, List.set_cons_succ]
        refine wpAnyT_take (i := 4) (v := ?vv37) rfl (by kernel_rfl) (fun _ _ _ h => h) (Or.inl ⟨by rfl, fun w hSw => ?yy37⟩) HS ?rr37
        case yy37 =>
          (try dsimp only at hSw); go_simp
          try with_reducible rfl
        try simp only [Act.put, List.setIfInBounds_toArray, List.set_cons_zero, List.set_cons_succ]
        refine wpAnyT_take (i := 5) (v := ?vv38) rfl (by kernel_rfl) (fun _ _ _ h => h) (Or.inl ⟨by rfl, fun w hSw => ?yy38⟩) HS ?rr38
        case yy38 =>
          (try dsimp only at hSw); go_simp
          try with_reducible rfl
        try simp only [Act.put, List.setIfInBounds_toArray, List.set_cons_zero, List.set_cons_succ]
        refine wpAnyT_take (i := 6) (v := ?vv39) rfl (by kernel_rfl) (fun _ _ _ h => h) (Or.inl ⟨by rfl, fun w hSw => ?yy39⟩) HS ?rr39
        case yy39 =>
          (try dsimp only at hSw); go_simp
          try with_reducible rfl
        try simp only [Act.put, List.setIfInBounds_toArray, List.set_cons_zero, List.set_cons_succ]
        refine wpAnyT_take (i := 7) (v := ?vv40) rfl (by kernel_rfl) (fun _ _ _ h => h) (Or.inl ⟨by rfl, fun w hSw => ?yy40⟩) HS ?rr40
        case yy40 =>
          (try dsimp only at hSw); go_simp
          try with_reducible rfl
        try simp only [Act.put, List.setIfInBounds_toArray, List.set_cons_zero, List.set_cons_succ]
        refine wpAnyT_take (i := 8) (v := ?vv41) rfl (by kernel_rfl) (fun _ _ _ h => h) (Or.inl ⟨by rfl, fun w hSw => ?yy41⟩) HS ?rr41
        case yy41 =>
          (try dsimp only at hSw); go_simp
          try with_reducible rfl
        try simp only [Act.put, List.setIfInBounds_toArray, List.set_cons_zero, List.set_cons_succ]
        refine wpAnyT_one (k := 9) rfl (by kernel_rfl) (by decide) (fun K hK => ?_)
        go_simp
        refine (hedge _).mono ?_
        rintro e w4 ⟨rfl, hb4⟩
        have e4 := e3.kept hb4
        have b4 := b3.trans (hb4.mono (Nat.le_of_lt e3.lt))
        have HS : ((fun w' : World => w'.cell? ⟨B, 0, none⟩ = some (.int .i64 base) ∧ w'.cell? ⟨B, 1, none⟩ = some (.slice A n c) ∧ w'.cell? ⟨B, 2, none⟩ = some (.slice G m d) ∧ w'.cell? ⟨B, 3, none⟩ = some (.int .i64 cap) ∧ w'.cell? ⟨B, 4, none⟩ = some (.int .i64 en))) _ := ⟨e4.cell 0 rfl, e4.cell 1 rfl, e4.cell 2 rfl, e4.cell 3 rfl, e4.cell 4 rfl⟩
        refine hK _ _ HS ?_
        clear hK K
        try simp only [Act.put, List.setIfInBounds_toArray, List.set_cons_zero, List.set_cons_succ]
        refine wpAnyT_take (i := 10) (v := ?vv42) rfl (by kernel_rfl) (fun _ _ _ h => h) (Or.inl ⟨by rfl, fun w hSw => ?yy42⟩) HS ?rr42
        case yy42 =>
          (try dsimp only at hSw); go_simp
          try with_reducible rfl
        try simp only [Act.put, List.setIfInBounds_toArray, List.set_cons_zero, List.set_cons_succ]
        refine wpAnyT_take (i := 11) (v := ?vv43) rfl (by kernel_rfl) (fun _ _ _ h => h) (Or.inl ⟨by rfl, fun w hSw => ?yy43⟩) HS ?rr43
        case yy43 =>
          (try dsimp only at hSw); go_simp
          try with_reducible rfl
        try simp only [Act.put, List.setIfInBounds_toArray, List.set_cons_zero, List.set_cons_succ]
        refine ⟨by kernel_rfl, ?_⟩
        simp only [List.drop_succ_cons, List.drop_zero]
        clear HS
        go_wp2_with fail
        go_meet
        case rel => exact ⟨by rw [← HLb.out], by rw [← HZe.out], (Below.refl _ _).drew.trans hb4⟩
    · have hLb : p = L := by have := HLV.out; omega
      have HLb := Lib.hid hLb; clear hLb
      by_cases hEp : E < p + (n2 : Int)
      · have hZe : E = Z := by have := HZV.out; omega
        have HZe := Lib.hid hZe; clear hZe
        refine wp_region_tail 12 13 (fun w' : World => w'.cell? ⟨B, 0, none⟩ = some (.int .i64 base) ∧ w'.cell? ⟨B, 1, none⟩ = some (.slice A n c) ∧ w'.cell? ⟨B, 2, none⟩ = some (.slice G m d) ∧ w'.cell? ⟨B, 3, none⟩ = some (.int .i64 cap) ∧ w'.cell? ⟨B, 4, none⟩ = some (.int .i64 en)) (by kernel_rfl) (by rfl) (by decide) ?_
        have HS : ((fun w' : World => w'.cell? ⟨B, 0, none⟩ = some (.int .i64 base) ∧ w'.cell? ⟨B, 1, none⟩ = some (.slice A n c) ∧ w'.cell? ⟨B, 2, none⟩ = some (.slice G m d) ∧ w'.cell? ⟨B, 3, none⟩ = some (.int .i64 cap) ∧ w'.cell? ⟨B, 4, none⟩ = some (.int .i64 en))) _ := ⟨e3.cell 0 rfl, e3.cell 1 rfl, e3.cell 2 rfl, e3.cell 3 rfl, e3.cell 4 rfl⟩
        refine wpAnyT_take (i := 0) (v := ?vv44) rfl (by kernel_rfl) (fun _ _ _ h => h) (Or.inl ⟨by rfl, fun w hSw => ?yy44⟩) HS ?rr44
        case yy44 =>
          (try dsimp only at hSw); go_simp
          try with_reducible rfl
        try simp only [Act.put, List.setIfInBounds_toArray, List.set_cons_zero, List.set_cons_succ]
        refine wpAnyT_take (i := 1) (v := ?vv45) rfl (by kernel_rfl) (fun _ _ _ h => h) (Or.inl ⟨by rfl, fun w hSw => ?yy45⟩) HS ?rr45
        case yy45 =>
          (try dsimp only at hSw); go_simp
          try with_reducible rfl
        try simp only [Act.put, List.setIfInBounds_toArray, List.set_cons_zero, List.set_cons_succ]
        refine wpAnyT_take (i := 2) (v := ?vv46) rfl (by kernel_rfl) (fun _ _ _ h => h) (Or.inl ⟨by rfl, fun w hSw => ?yy46⟩) HS ?rr46
        case yy46 =>
          (try dsimp only at hSw); go_simp
          try with_reducible rfl
        try simp only [Act.put, List.setIfInBounds_toArray, List.set_cons_zero, List.set_cons_succ]
        refine wpAnyT_take (i := 3) (v := ?vv47) rfl (by kernel_rfl) (fun _ _ _ h => h) (Or.inl ⟨by rfl, fun w hSw => ?yy47⟩) HS ?rr47
        case yy47 =>
          (try dsimp only at hSw); go_simp
          try with_reducible rfl
        try simp only [Act.put, List.setIfInBounds_toArray, List.set_cons_zero, List.set_cons_succ]
        refine wpAnyT_take (i := 4) (v := ?vv48) rfl (by kernel_rfl) (fun _ _ _ h => h) (Or.inl ⟨by rfl, fun w hSw => ?yy48⟩) HS ?rr48
        case yy48 =>
          (try dsimp only at hSw); go_simp
          try with_reducible rfl
        try simp only [Act.put, List.setIfInBounds_toArray, List.set_cons_zero, List.set_cons_succ]
        refine wpAnyT_take (i := 5) (v := ?vv49) rfl (by kernel_rfl) (fun _ _ _ h => h) (Or.inl ⟨by rfl, fun w hSw => ?yy49⟩) HS ?rr49
        case yy49 =>
          (try dsimp only at hSw); go_simp
          try with_reducible rfl
        try simp only [Act.put, List.setIfInBounds_toArray, List.set_cons_zero, List.set_cons_succ]
        refine wpAnyT_take (i := 6) (v := ?vv50) rfl (by kernel_rfl) (fun _ _ _ h => h) (Or.inl ⟨by rfl, fun w hSw => ?yy50⟩) HS ?rr50
        case yy50 =>
          (try dsimp only at hSw); go_simp
          try with_reducible rfl
        try simp only [Act.put, List.setIfInBounds_toArray, List.set_cons_zero, List.set_cons_succ]
        refine wpAnyT_take (i := 7) (v := ?vv51) rfl (by kernel_rfl) (fun _ _ _ h => h) (Or.inl ⟨by rfl, fun w hSw => ?yy51⟩) HS ?rr51
        case yy51 =>
          (try dsimp only at hSw); go_simp
          try with_reducible rfl
        try simp only [Act.put, List.setIfInBounds_toArray, List.set_cons_zero, List.set_cons_succ]
        refine wpAnyT_take (i := 8) (v := ?vv52) rfl (by kernel_rfl) (fun _ _ _ h => h) (Or.inl ⟨by rfl, fun w hSw => ?yy52⟩) HS ?rr52
        case yy52 =>
          (try dsimp only at hSw); go_simp
          try with_reducible rfl
        try simp only [Act.put, List.setIfInBounds_toArray, List.set_cons_zero, List.set_cons_succ]
        refine wpAnyT_one (k := 9) rfl (by kernel_rfl) (by decide) (fun K hK => ?_)
        go_simp
        refine (hedge _).mono ?_
        rintro e w4 ⟨rfl, hb4⟩
        have e4 := e3.kept hb4
        have b4 := b3.trans (hb4.mono (Nat.le_of_lt e3.lt))
        have HS : ((fun w' : World => w'.cell? ⟨B, 0, none⟩ = some (.int .i64 base) ∧ w'.cell? ⟨B, 1, none⟩ = some (.slice A n c) ∧ w'.cell? ⟨B, 2, none⟩ = some (.slice G m d) ∧ w'.cell? ⟨B, 3, none⟩ = some (.int .i64 cap) ∧ w'.cell? ⟨B, 4, none⟩ = some (.int .i64 en))) _ := ⟨e4.cell 0 rfl, e4.cell 1 rfl, e4.cell 2 rfl, e4.cell 3 rfl, e4.cell 4 rfl⟩
        refine hK _ _ HS ?_
        clear hK K
        try simp only [Act.put, List.setIfInBounds_toArray, List.set_cons_zero, List.set_cons_succ]
        refine wpAnyT_take (i := 10) (v := ?vv53) rfl (by kernel_rfl) (fun _ _ _ h => h) (Or.inl ⟨by rfl, fun w hSw => ?yy53⟩) HS ?rr53
        case yy53 =>
          (try dsimp only at hSw); go_simp
          try with_reducible rfl
        try simp only [Act.put, List.setIfInBounds_toArray, List.set_cons_zero, List.set_cons_succ]
        refine wpAnyT_take (i := 11) (v := ?vv54) rfl (by kernel_rfl) (fun _ _ _ h => h) (Or.inl ⟨by rfl, fun w hSw => ?yy54⟩) HS ?rr54
        case yy54 =>
          (try dsimp only at hSw); go_simp
          try with_reducible rfl
        try simp only [Act.put, List.setIfInBounds_toArray, List.set_cons_zero, List.set_cons_succ]
        refine ⟨by kernel_rfl, ?_⟩
        simp only [List.drop_succ_cons, List.drop_zero]
        clear HS
        go_wp2_with fail
        go_meet
        case rel => exact ⟨by rw [← HLb.out], by rw [← HZe.out], (Below.refl _ _).drew.trans hb4⟩
      · have hZe : p + (n2 : Int) = Z := by have := HZV.out; omega
        have HZe := Lib.hid hZe; clear hZe
        refine wp_region_tail 12 13 (fun w' : World => w'.cell? ⟨B, 0, none⟩ = some (.int .i64 base) ∧ w'.cell? ⟨B, 1, none⟩ = some (.slice A n c) ∧ w'.cell? ⟨B, 2, none⟩ = some (.slice G m d) ∧ w'.cell? ⟨B, 3, none⟩ = some (.int .i64 cap) ∧ w'.cell? ⟨B, 4, none⟩ = some (.int .i64 en)) (by kernel_rfl) (by rfl) (by decide) ?_
        have HS : ((fun w' : World => w'.cell? ⟨B, 0, none⟩ = some (.int .i64 base) ∧ w'.cell? ⟨B, 1, none⟩ = some (.slice A n c) ∧ w'.cell? ⟨B, 2, none⟩ = some (.slice G m d) ∧ w'.cell? ⟨B, 3, none⟩ = some (.int .i64 cap) ∧ w'.cell? ⟨B, 4, none⟩ = some (.int .i64 en))) _ := ⟨e3.cell 0 rfl, e3.cell 1 rfl, e3.cell 2 rfl, e3.cell 3 rfl, e3.cell 4 rfl⟩
        refine wpAnyT_take (i := 0) (v := ?vv55) rfl (by kernel_rfl) (fun _ _ _ h => h) (Or.inl ⟨by rfl, fun w hSw => ?yy55⟩) HS ?rr55
        case yy55 =>
          (try dsimp only at hSw); go_simp
          try with_reducible rfl
        try simp only [Act.put, List.setIfInBounds_toArray, List.set_cons_zero, List.set_cons_succ]
        refine wpAnyT_take (i := 1) (v := ?vv56) rfl (by kernel_rfl) (fun _ _ _ h => h) (Or.inl ⟨by rfl, fun w hSw => ?yy56⟩) HS ?rr56
        case yy56 =>
          (try dsimp only at hSw); go_simp
          try with_reducible rfl
        try simp only [Act.put, List.setIfInBounds_toArray, List.set_cons_zero, List.set_cons_succ]
        refine wpAnyT_take (i := 2) (v := ?vv57) rfl (by kernel_rfl) (fun _ _ _ h => h) (Or.inl ⟨by rfl, fun w hSw => ?yy57⟩) HS ?rr57
        case yy57 =>
          (try dsimp only at hSw); go_simp
          try with_reducible rfl
        try simp only [Act.put, List.setIfInBounds_toArray, List.set_cons_zero, List.set_cons_succ]
        refine wpAnyT_take (i := 3) (v := ?vv58) rfl (by kernel_rfl) (fun _ _ _ h => h) (Or.inl ⟨by rfl, fun w hSw => ?yy58⟩) HS ?rr58
        case yy58 =>
          (try dsimp only at hSw); go_simp
          try with_reducible rfl
        try simp only [Act.put, List.setIfInBounds_toArray, List.set_cons_zero, List.set_cons_succ]
        refine wpAnyT_take (i := 4) (v := ?vv59) rfl (by kernel_rfl) (fun _ _ _ h => h) (Or.inl ⟨by rfl, fun w hSw => ?yy59⟩) HS ?rr59
        case yy59 =>
          (try dsimp only at hSw); go_simp
          try with_reducible rfl
        try simp only [Act.put, List.setIfInBounds_toArray, List.set_cons_zero, List.set_cons_succ]
        refine wpAnyT_take (i := 5) (v := ?vv60) rfl (by kernel_rfl) (fun _ _ _ h => h) (Or.inl ⟨by rfl, fun w hSw => ?yy60⟩) HS ?rr60
        case yy60 =>
          (try dsimp only at hSw); go_simp
          try with_reducible rfl
        try simp only [Act.put, List.setIfInBounds_toArray, List.set_cons_zero, List.set_cons_succ]
        refine wpAnyT_take (i := 6) (v := ?vv61) rfl (by kernel_rfl) (fun _ _ _ h => h) (Or.inl ⟨by rfl, fun w hSw => ?yy61⟩) HS ?rr61
        case yy61 =>
          (try dsimp only at hSw); go_simp
          try with_reducible rfl
        try simp only [Act.put, List.setIfInBounds_toArray, List.set_cons_zero, List.set_cons_succ]
        refine wpAnyT_take (i := 7) (v := ?vv62) rfl (by kernel_rfl) (fun _ _ _ h => h) (Or.inl ⟨by rfl, fun w hSw => ?yy62⟩) HS ?rr62
        case yy62 =>
          (try dsimp only at hSw); go_simp
          try with_reducible rfl
        try simp only [Act.put, List.setIfInBounds_toArray, List.set_cons_zero, List.set_cons_succ]
        refine wpAnyT_take (i := 8) (v := ?vv63) rfl (by kernel_rfl) (fun _ _ _ h => h) (Or.inl ⟨by rfl, fun w hSw => ?yy63⟩) HS ?rr63
        case yy63 =>
          (try dsimp only at hSw); go_simp
          try with_reducible rfl
        try simp only [Act.put, List.setIfInBounds_toArray, List.set_cons_zero, List.set_cons_succ]
        refine wpAnyT_one (k := 9) rfl (by kernel_rfl) (by decide) (fun K hK => ?_)
        go_simp
        refine (hedge _).mono ?_
        rintro e w4 ⟨rfl, hb4⟩
        have e4 := e3.kept hb4
        have b4 := b3.trans (hb4.mono (Nat.le_of_lt e3.lt))
        have HS : ((fun w' : World => w'.cell? ⟨B, 0, none⟩ = some (.int .i64 base) ∧ w'.cell? ⟨B, 1, none⟩ = some (.slice A n c) ∧ w'.cell? ⟨B, 2, none⟩ = some (.slice G m d) ∧ w'.cell? ⟨B, 3, none⟩ = some (.int .i64 cap) ∧ w'.cell? ⟨B, 4, none⟩ = some (.int .i64 en))) _ := ⟨e4.cell 0 rfl, e4.cell 1 rfl, e4.cell 2 rfl, e4.cell 3 rfl, e4.cell 4 rfl⟩
        refine hK _ _ HS ?_
        clear hK K
        try simp only [Act.put, List.setIfInBounds_toArray, List.set_cons_zero, List.set_cons_succ]
        refine wpAnyT_take (i := 10) (v := ?vv64) rfl (by kernel_rfl) (fun _ _ _ h => h) (Or.inl ⟨by rfl, fun w hSw => ?yy64⟩) HS ?rr64
        case yy64 =>
          (try dsimp only at hSw); go_simp
          try with_reducible rfl
        try simp only [Act.put, List.setIfInBounds_toArray, List.set_cons_zero, List.set_cons_succ]
        refine wpAnyT_take (i := 11) (v := ?vv65) rfl (by kernel_rfl) (fun _ _ _ h => h) (Or.inl ⟨by rfl, fun w hSw => ?yy65⟩) HS ?rr65
        case yy65 =>
          (try dsimp only at hSw); go_simp
          try with_reducible rfl
        try simp only [Act.put, List.setIfInBounds_toArray, List.set_cons_zero, List.set_cons_succ]
        refine ⟨by kernel_rfl, ?_⟩
        simp only [List.drop_succ_cons, List.drop_zero]
        clear HS
        go_wp2_with fail
        go_meet
        case rel => exact ⟨by rw [← HLb.out], by rw [← HZe.out], (Below.refl _ _).drew.trans hb4⟩
  case rest =>
  obtain ⟨rfl, rfl, hb4⟩ := hcut
  rename World => w4
  clear x0 x1 x2 x3 x4 q1 hedge
  have e4 := e1.kept hb4
  have r4 := r1.kept hb4
  have b4 := b1.trans (hb4.mono (Nat.le_of_lt e1.lt))
  have x0 := e4.cell 0 rfl
  have x1 := e4.cell 1 rfl
  have x2 := e4.cell 2 rfl
  have x3 := e4.cell 3 rfl
  have x4 := e4.cell 4 rfl
  have hr4 := r4.lt
  have he4 := e4.lt
  by_cases hZL : Z ≤ L
  · have hx := HX3.out hZL
    have HX := Lib.hid hx; clear hx
    go_wp2_with fail
    refine (wowned_any base A n c G m d cap en bl gl _ (hbk b4) (hgk b4) (by omega) (by omega)).mono ?_
    rintro e w5 ⟨R, q, H, r, rfl, sb, sq, hb5⟩
    clear x0 x1 x2 x3 x4
    have r5 := r4.kept hb5
    have b5 := b4.trans (hb5.mono (Nat.le_of_lt e4.lt))
    have t0 := r5.cell 0 rfl
    have t1 := r5.cell 1 rfl
    have t2 := r5.cell 2 rfl
    have t3 := r5.cell 3 rfl
    have t4 := r5.cell 4 rfl
    have tf0 := r5.free 0
    have tf1 := r5.free 1
    have tf2 := r5.free 2
    have tf3 := r5.free 3
    have tf4 := r5.free 4
    go_wp2_with fail
    have OV := (((((r5.set 0 (.int .i64 base)).set 1 (.slice R n q)).set 2 (.slice H m r)).set 3 (.int .i64 cap)).set 4 (.int .i64 en))
    have y0 := OV.cell 0 rfl
    have y1 := OV.cell 1 rfl
    have y2 := OV.cell 2 rfl
    have y3 := OV.cell 3 rfl
    have y4 := OV.cell 4 rfl
    have bz := (((((b5.setCell (p := ⟨B + 1, 0, none⟩) (by simp) (.int .i64 base)).setCell (p := ⟨B + 1, 1, none⟩) (by simp) (.slice R n q)).setCell (p := ⟨B + 1, 2, none⟩) (by simp) (.slice H m r)).setCell (p := ⟨B + 1, 3, none⟩) (by simp) (.int .i64 cap)).setCell (p := ⟨B + 1, 4, none⟩) (by simp) (.int .i64 en))
    have sz := (((((sb.set (p := ⟨B + 1, 0, none⟩) hr4 (.int .i64 base)).set (p := ⟨B + 1, 1, none⟩) hr4 (.slice R n q)).set (p := ⟨B + 1, 2, none⟩) hr4 (.slice H m r)).set (p := ⟨B + 1, 3, none⟩) hr4 (.int .i64 cap)).set (p := ⟨B + 1, 4, none⟩) hr4 (.int .i64 en))
    have qz := (((((sq.set (p := ⟨B + 1, 0, none⟩) hr4 (.int .i64 base)).set (p := ⟨B + 1, 1, none⟩) hr4 (.slice R n q)).set (p := ⟨B + 1, 2, none⟩) hr4 (.slice H m r)).set (p := ⟨B + 1, 3, none⟩) hr4 (.int .i64 cap)).set (p := ⟨B + 1, 4, none⟩) hr4 (.int .i64 en))
    exact bodyPost_ret (v := .tuple #[.agg #[.int .i64 base, .slice R n q, .slice H m r, .int .i64 cap, .int .i64 en], .int .i64 0, .int .i64 0]) (by simp [results, Try.results60, go_sem, y0, y1, y2, y3, y4]) rfl (by rw [HX.out]; exact ⟨R, n, q, H, m, r, rfl, sz.mono (Nat.le_of_lt he4), qz.mono (Nat.le_of_lt he4), bz⟩)
  · have hLZ : L < Z := by omega
    have wL : W64 L := ⟨by omega, by omega⟩
    have wZ : W64 Z := ⟨by omega, by omega⟩
    have hadd := add_own G m d gl L Z w4 (hgk b4) wL wZ
    rcases Nat.lt_or_ge 1000 (ins gl (L, Z)).length with hbig | hfit
    · obtain ⟨hx, ha⟩ := HX4.out hLZ hbig
      rw [ha] at hadd
      simp only at hadd
      have HX := Lib.hid hx; clear hx ha
      go_wp2_with fail
      refine hadd.mono ?_
      rintro e w5 ⟨H, m2, r, rfl, sq5, hb5⟩
      clear x0 x1 x2 x3 x4
      have r5 := r4.kept hb5
      have b5 := b4.trans (hb5.mono (Nat.le_of_lt e4.lt))
      have t0 := r5.cell 0 rfl
      have t1 := r5.cell 1 rfl
      have t2 := r5.cell 2 rfl
      have t3 := r5.cell 3 rfl
      have t4 := r5.cell 4 rfl
      have tf0 := r5.free 0
      have tf1 := r5.free 1
      have tf2 := r5.free 2
      have tf3 := r5.free 3
      have tf4 := r5.free 4
      go_wp2_with fail
      have OV := (((((r5.set 0 (.int .i64 0)).set 1 (.slice none 0 0)).set 2 (.slice none 0 0)).set 3 (.int .i64 0)).set 4 (.int .i64 0))
      have y0 := OV.cell 0 rfl
      have y1 := OV.cell 1 rfl
      have y2 := OV.cell 2 rfl
      have y3 := OV.cell 3 rfl
      have y4 := OV.cell 4 rfl
      have bz := (((((b5.setCell (p := ⟨B + 1, 0, none⟩) (by simp) (.int .i64 0)).setCell (p := ⟨B + 1, 1, none⟩) (by simp) (.slice none 0 0)).setCell (p := ⟨B + 1, 2, none⟩) (by simp) (.slice none 0 0)).setCell (p := ⟨B + 1, 3, none⟩) (by simp) (.int .i64 0)).setCell (p := ⟨B + 1, 4, none⟩) (by simp) (.int .i64 0))
      exact bodyPost_ret (v := .tuple #[.agg #[.int .i64 0, .slice none 0 0, .slice none 0 0, .int .i64 0, .int .i64 0], .int .i64 0, .int .i64 4]) (by simp [results, Try.results60, go_sem, y0, y1, y2, y3, y4]) rfl (by rw [HX.out]; exact ⟨none, 0, 0, none, 0, 0, rfl, Sb.none _ _, Sq.none _ _, bz⟩)
    · obtain ⟨⟨hx, ha⟩, hdiff⟩ := HX5.out hLZ hfit
      rw [ha] at hadd
      simp only at hadd
      have HX := Lib.hid hx; clear hx ha
      obtain ⟨gl2, hgl2⟩ : ∃ gl2, ins gl (L, Z) = gl2 := ⟨_, rfl⟩
      rw [hgl2] at hadd hdiff
      have HG2 := Lib.hid hgl2; clear hgl2
      obtain ⟨s2, hs2⟩ : ∃ s2, sizeF gl2 = s2 := ⟨_, rfl⟩
      obtain ⟨s1, hs1⟩ : ∃ s1, sizeF gl = s1 := ⟨_, rfl⟩
      have hr1 := sizeF_range (l := gl)
      have hr2 := sizeF_range (l := gl2)
      rw [hs1] at hdiff hr1
      rw [hs2] at hdiff hr2
      obtain ⟨NP, hNP⟩ : ∃ NP, putN gl L Z = NP := ⟨_, rfl⟩
      rw [hNP] at hdiff
      have q2 : IntKind.i64.wrap (s2 - s1) = (NP : Int) := by rw [IntWalk.i64_in _ (by omega)]; exact hdiff
      have HNP := Lib.hid hNP; clear hNP
      have HD := Lib.hid hdiff; clear hdiff hr1 hr2
      have HS1 := Lib.hid hs1; clear hs1
      have HS2 := Lib.hid hs2; clear hs2
      obtain ⟨f, hf⟩ : ∃ f : Nat, L = base + (f : Int) := ⟨(L - base).toNat, by omega⟩
      obtain ⟨kk, hkk⟩ : ∃ kk : Nat, L = p + (kk : Int) := ⟨(L - p).toNat, by omega⟩
      obtain ⟨jj, hjj⟩ : ∃ jj : Nat, Z = p + (jj : Int) := ⟨(Z - p).toNat, by omega⟩
      have hjn : jj ≤ n2 := by omega
      have hkj : kk < jj := by omega
      have q3 : IntKind.i64.wrap (L - p) = (kk : Int) := by rw [IntWalk.i64_in _ (by omega)]; omega
      have q4 : IntKind.i64.wrap (Z - p) = (jj : Int) := by rw [IntWalk.i64_in _ (by omega)]; omega
      have hfN : (Z - base).toNat = f + (jj - kk) := by omega
      have hput := HX6.out f (max n (f + (jj - kk))) kk jj hLZ hf (by rw [hfN]) hkk hjj
      have hwov := fun (w' : World) (h : Below B w w') => wwoven_any base A n c G m d cap en bl gl L f (cutA A2 kk c2) (jj - kk) (c2 - kk) ((l2.take jj).drop kk) w' (hbk h) (hgk h) ((hbk2 h).cut2 hjn (by omega)) v0 v1 HCH.out HU.out hns hms hf (by omega)
      rw [hput] at hwov
      obtain ⟨NN, hNN⟩ : ∃ NN, max n (f + (jj - kk)) = NN := ⟨_, rfl⟩
      rw [hNN] at hwov
      obtain ⟨PB, hPB⟩ : ∃ PB, putB ⟨base, bl, gl, cap, en⟩ p l2 = PB := ⟨_, rfl⟩
      rw [hPB] at hwov
      have HPB := Lib.hid hPB; clear hPB hput hNN hfN
      have HF := Lib.hid hf; clear hf
      have HKK := Lib.hid hkk; clear hkk
      have HJJ := Lib.hid hjj; clear hjj
      have hcutS := fun w => run_cut2 Try.prog 22 5 Try.underlying22 info_u8 A2 n2 c2 kk jj (jj - kk) w (by omega) (by omega)
      go_wp2_with fail
      refine hadd.mono ?_
      rintro e w5 ⟨H, m2, r, rfl, sq5', hb5⟩
      have e5 := e4.kept hb5
      have r5 := r4.kept hb5
      have b5 := b4.trans (hb5.mono (Nat.le_of_lt e4.lt))
      have sq5 := sq5'.mono (base' := B + 1 + 1) (by omega)
      clear x0 x1 x2 x3 x4 sq5'
      go_upto_region 11 with fail
      have e6 := e5.drew
      have r6 := r5.drew
      have b6 := b5.drew
      have sq6 : Sq w5.drew (B + 1 + 1) H m2 r gl2 := sq5.keep (Below.refl _ _).drew
      rw [← HS2.out, ← HS1.out] at q2
      refine wp_region_tail 6 7 (fun w' : World => w'.cell? ⟨B, 2, none⟩ = some (.slice G m d)) (by kernel_rfl) (by rfl) (by decide) ?_
      have HS : ((fun w' : World => w'.cell? ⟨B, 2, none⟩ = some (.slice G m d))) _ := e6.cell 2 rfl
      refine wpAnyT_take (i := 0) (v := ?vv8) rfl (by kernel_rfl) (fun _ _ _ h => h) (Or.inl ⟨by rfl, fun w hSw => ?yy8⟩) HS ?rr8
      case yy8 =>
        (try dsimp only at hSw); go_simp
        try with_reducible rfl
      try simp only [Act.put, List.setIfInBounds_toArray, List.set_cons_zero, List.set_cons_succ]
      refine wpAnyT_take (i := 2) (v := ?vv9) rfl (by kernel_rfl) (fun _ _ _ h => h) (Or.inl ⟨by rfl, fun w hSw => ?yy9⟩) HS ?rr9
      case yy9 =>
        (try dsimp only at hSw); go_simp
        try with_reducible rfl
      try simp only [Act.put, List.setIfInBounds_toArray, List.set_cons_zero, List.set_cons_succ]
      refine wpAnyT_take (i := 3) (v := ?vv10) rfl (by kernel_rfl) (fun _ _ _ h => h) (Or.inl ⟨by rfl, fun w hSw => ?yy10⟩) HS ?rr10
      case yy10 =>
        (try dsimp only at hSw); go_simp
        try with_reducible rfl
      try simp only [Act.put, List.setIfInBounds_toArray, List.set_cons_zero, List.set_cons_succ]
      refine wpAnyT_one (k := 1) rfl (by kernel_rfl) (by decide) (fun K hK => ?_)
      go_simp
      refine (size_any H m2 r gl2 _ sq6.ss).mono ?_
      rintro e w7 ⟨rfl, hb7⟩
      have e7 := e6.kept hb7
      have r7 := r6.kept hb7
      have b7 := b6.trans (hb7.mono (Nat.le_of_lt e6.lt))
      have sq7 := sq6.keep hb7
      have HS : ((fun w' : World => w'.cell? ⟨B, 2, none⟩ = some (.slice G m d))) _ := e7.cell 2 rfl
      refine hK _ _ HS ?_
      clear hK K
      try simp only [Act.put, List.setIfInBounds_toArray, List.set_cons_zero, List.set_cons_succ]
      refine wpAnyT_one (k := 4) rfl (by kernel_rfl) (by decide) (fun K hK => ?_)
      go_simp
      refine (size_any G m d gl _ (hgk b7)).mono ?_
      rintro e w8 ⟨rfl, hb8⟩
      have e8 := e7.kept hb8
      have r8 := r7.kept hb8
      have b8 := b7.trans (hb8.mono (Nat.le_of_lt e7.lt))
      have sq8 := sq7.keep hb8
      have HS : ((fun w' : World => w'.cell? ⟨B, 2, none⟩ = some (.slice G m d))) _ := e8.cell 2 rfl
      refine hK _ _ HS ?_
      clear hK K
      try simp only [Act.put, List.setIfInBounds_toArray, List.set_cons_zero, List.set_cons_succ]
      refine wpAnyT_take (i := 5) (v := ?vv11) rfl (by kernel_rfl) (fun _ _ _ h => h) (Or.inl ⟨by rfl, fun w hSw => ?yy11⟩) HS ?rr11
      case yy11 =>
        (try dsimp only at hSw); go_simp
        try with_reducible rfl
      try simp only [Act.put, List.setIfInBounds_toArray, List.set_cons_zero, List.set_cons_succ]
      refine ⟨by kernel_rfl, ?_⟩
      simp only [List.drop_succ_cons, List.drop_zero]
      clear HS
      go_upto_region 12 with fail
      have e9 := e8.drew
      have r9 := r8.drew
      have b9 := b8.drew
      have sq9 := sq8.keep (Below.refl _ _).drew
      refine wp_region_tail 11 13 (fun w' : World => w'.cell? ⟨B, 0, none⟩ = some (.int .i64 base) ∧ w'.cell? ⟨B, 1, none⟩ = some (.slice A n c) ∧ w'.cell? ⟨B, 2, none⟩ = some (.slice G m d) ∧ w'.cell? ⟨B, 3, none⟩ = some (.int .i64 cap) ∧ w'.cell? ⟨B, 4, none⟩ = some (.int .i64 en)) (by kernel_rfl) (by rfl) (by decide) ?_
      have HS : ((fun w' : World => w'.cell? ⟨B, 0, none⟩ = some (.int .i64 base) ∧ w'.cell? ⟨B, 1, none⟩ = some (.slice A n c) ∧ w'.cell? ⟨B, 2, none⟩ = some (.slice G m d) ∧ w'.cell? ⟨B, 3, none⟩ = some (.int .i64 cap) ∧ w'.cell? ⟨B, 4, none⟩ = some (.int .i64 en))) _ := ⟨e9.cell 0 rfl, e9.cell 1 rfl, e9.cell 2 rfl, e9.cell 3 rfl, e9.cell 4 rfl⟩
      refine wpAnyT_take (i := 0) (v := ?vv12) rfl (by kernel_rfl) (fun _ _ _ h => h) (Or.inl ⟨by rfl, fun w hSw => ?yy12⟩) HS ?rr12
      case yy12 =>
        (try dsimp only at hSw); go_simp
        try with_reducible rfl
      try simp only [Act.put, List.setIfInBounds_toArray, List.set_cons_zero, List.set_cons_succ]
      refine wpAnyT_take (i := 1) (v := ?vv13) rfl (by kernel_rfl) (fun _ _ _ h => h) (Or.inl ⟨by rfl, fun w hSw => ?yy13⟩) HS ?rr13
      case yy13 =>
        (try dsimp only at hSw); go_simp
        try with_reducible rfl
      try simp only [Act.put, List.setIfInBounds_toArray, List.set_cons_zero, List.set_cons_succ]
      refine wpAnyT_take (i := 2) (v := ?vv14) rfl (by kernel_rfl) (fun _ _ _ h => h) (Or.inl ⟨by rfl, fun w hSw => ?yy14⟩) HS ?rr14
      case yy14 =>
        (try dsimp only at hSw); go_simp
        try with_reducible rfl
      try simp only [Act.put, List.setIfInBounds_toArray, List.set_cons_zero, List.set_cons_succ]
      refine wpAnyT_take (i := 3) (v := ?vv15) rfl (by kernel_rfl) (fun _ _ _ h => h) (Or.inl ⟨by rfl, fun w hSw => ?yy15⟩) HS ?rr15
      case yy15 =>
        (try dsimp only at hSw); go_simp
        try with_reducible rfl
      try simp only [Act.put, List.setIfInBounds_toArray, List.set_cons_zero, List.set_cons_succ]
      refine wpAnyT_take (i := 4) (v := ?vv16) rfl (by kernel_rfl) (fun _ _ _ h => h) (Or.inl ⟨by rfl, fun w hSw => ?yy16⟩) HS ?rr16
      case yy16 =>
        (try dsimp only at hSw); go_simp
        try with_reducible rfl
      try simp only [Act.put, List.setIfInBounds_toArray, List.set_cons_zero, List.set_cons_succ]
      refine wpAnyT_take (i := 5) (v := ?vv17) rfl (by kernel_rfl) (fun _ _ _ h => h) (Or.inl ⟨by rfl, fun w hSw => ?yy17⟩) HS ?rr17
      case yy17 =>
        (try dsimp only at hSw); go_simp
        try with_reducible rfl
      try simp only [Act.put, List.setIfInBounds_toArray, List.set_cons_zero, List.set_cons_succ]
      refine wpAnyT_take (i := 6) (v := ?vv18) rfl (by kernel_rfl) (fun _ _ _ h => h) (Or.inl ⟨by rfl, fun w hSw => ?yy18⟩) HS ?rr18
      case yy18 =>
        (try dsimp only at hSw); go_simp
        try with_reducible rfl
      try simp only [Act.put, List.setIfInBounds_toArray, List.set_cons_zero, List.set_cons_succ]
      refine wpAnyT_take (i := 7) (v := ?vv19) rfl (by kernel_rfl) (fun _ _ _ h => h) (Or.inl ⟨by rfl, fun w hSw => ?yy19⟩) HS ?rr19
      case yy19 =>
        (try dsimp only at hSw); go_simp
        try with_reducible rfl
      try simp only [Act.put, List.setIfInBounds_toArray, List.set_cons_zero, List.set_cons_succ]
      refine wpAnyT_take (i := 8) (v := ?vv20) rfl (by kernel_rfl) (fun _ _ _ h => h) (Or.inl ⟨by rfl, fun w hSw => ?yy20⟩) HS ?rr20
      case yy20 =>
        (try dsimp only at hSw); go_simp
        try with_reducible rfl
      try simp only [Act.put, List.setIfInBounds_toArray, List.set_cons_zero, List.set_cons_succ]
      refine wpAnyT_take (i := 9) (v := ?vv21) rfl (by kernel_rfl) (fun _ _ _ h => h) (Or.inl ⟨by rfl, fun w hSw => ?yy21⟩) HS ?rr21
      case yy21 =>
        (try dsimp only at hSw); go_simp
        try with_reducible rfl
      try simp only [Act.put, List.setIfInBounds_toArray, List.set_cons_zero, List.set_cons_succ]
      refine wpAnyT_one (k := 10) rfl (by kernel_rfl) (by decide) (fun K hK => ?_)
      go_simp
      refine (hwov _ b9).mono ?_
      rintro e w10 ⟨R2, q2, rfl, sb10, hb10⟩
      have e10 := e9.kept hb10
      have r10 := r9.kept hb10
      have b10 := b9.trans (hb10.mono (Nat.le_of_lt e9.lt))
      have sq10 := sq9.keep hb10
      have HS : ((fun w' : World => w'.cell? ⟨B, 0, none⟩ = some (.int .i64 base) ∧ w'.cell? ⟨B, 1, none⟩ = some (.slice A n c) ∧ w'.cell? ⟨B, 2, none⟩ = some (.slice G m d) ∧ w'.cell? ⟨B, 3, none⟩ = some (.int .i64 cap) ∧ w'.cell? ⟨B, 4, none⟩ = some (.int .i64 en))) _ := ⟨e10.cell 0 rfl, e10.cell 1 rfl, e10.cell 2 rfl, e10.cell 3 rfl, e10.cell 4 rfl⟩
      refine hK _ _ HS ?_
      clear hK K
      try simp only [Act.put, List.setIfInBounds_toArray, List.set_cons_zero, List.set_cons_succ]
      refine ⟨by kernel_rfl, ?_⟩
      simp only [List.drop_succ_cons, List.drop_zero]
      clear HS
      have sb11 := sb10.mono (base' := B + 1 + 1) (by have := r9.lt; omega)
      have z1 := e10.free 1
      have z2 := e10.free 2
      have hbB : B < B + 1 + 1 := by omega
      have x0 := e10.cell 0 rfl
      have x1 := e10.cell 1 rfl
      have x2 := e10.cell 2 rfl
      have x3 := e10.cell 3 rfl
      have x4 := e10.cell 4 rfl
      go_upto_region 13 with fail
      go_cut [84] (fun s84 wx => Bx wx B 25 [.int .i64 base, .slice R2 NN q2, .slice H m2 r, .int .i64 cap, .int .i64 en] ∧ Bx wx (B + 1) 25 [.int .i64 0, .slice none 0 0, .slice none 0 0, .int .i64 0, .int .i64 0] ∧ Below B w wx ∧ Sb wx (B + 1 + 1) R2 NN q2 PB ∧ Sq wx (B + 1 + 1) H m2 r gl2)
      case first =>
        go_wp2_with fail
        go_meet
        case rel =>
          exact ⟨(e10.set 1 (.slice R2 NN q2)).set 2 (.slice H m2 r), (r10.far (p := ⟨B, 1, none⟩) (by simp) (.slice R2 NN q2)).far (p := ⟨B, 2, none⟩) (by simp) (.slice H m2 r), (b10.setCell (p := ⟨B, 1, none⟩) (by simp) (.slice R2 NN q2)).setCell (p := ⟨B, 2, none⟩) (by simp) (.slice H m2 r), (sb11.set (p := ⟨B, 1, none⟩) hbB (.slice R2 NN q2)).set (p := ⟨B, 2, none⟩) hbB (.slice H m2 r), (sq10.set (p := ⟨B, 1, none⟩) hbB (.slice R2 NN q2)).set (p := ⟨B, 2, none⟩) hbB (.slice H m2 r)⟩
      case rest =>
      obtain ⟨e11, r11, b11, sb12, sq12⟩ := hcut
      rename World => w11
      clear x0 x1 x2 x3 x4 z1 z2
      have x0 := e11.cell 0 rfl
      have x1 := e11.cell 1 rfl
      have x2 := e11.cell 2 rfl
      have x3 := e11.cell 3 rfl
      have x4 := e11.cell 4 rfl
      have t0 := r11.cell 0 rfl
      have t1 := r11.cell 1 rfl
      have t2 := r11.cell 2 rfl
      have t3 := r11.cell 3 rfl
      have t4 := r11.cell 4 rfl
      have tf0 := r11.free 0
      have tf1 := r11.free 1
      have tf2 := r11.free 2
      have tf3 := r11.free 3
      have tf4 := r11.free 4
      go_wp2_with fail
      have OV := (((((r11.set 0 (.int .i64 base)).set 1 (.slice R2 NN q2)).set 2 (.slice H m2 r)).set 3 (.int .i64 cap)).set 4 (.int .i64 en))
      have y0 := OV.cell 0 rfl
      have y1 := OV.cell 1 rfl
      have y2 := OV.cell 2 rfl
      have y3 := OV.cell 3 rfl
      have y4 := OV.cell 4 rfl
      have bz := (((((b11.setCell (p := ⟨B + 1, 0, none⟩) (by simp) (.int .i64 base)).setCell (p := ⟨B + 1, 1, none⟩) (by simp) (.slice R2 NN q2)).setCell (p := ⟨B + 1, 2, none⟩) (by simp) (.slice H m2 r)).setCell (p := ⟨B + 1, 3, none⟩) (by simp) (.int .i64 cap)).setCell (p := ⟨B + 1, 4, none⟩) (by simp) (.int .i64 en))
      have sz := (((((sb12.set (p := ⟨B + 1, 0, none⟩) (by simp) (.int .i64 base)).set (p := ⟨B + 1, 1, none⟩) (by simp) (.slice R2 NN q2)).set (p := ⟨B + 1, 2, none⟩) (by simp) (.slice H m2 r)).set (p := ⟨B + 1, 3, none⟩) (by simp) (.int .i64 cap)).set (p := ⟨B + 1, 4, none⟩) (by simp) (.int .i64 en))
      have qz := (((((sq12.set (p := ⟨B + 1, 0, none⟩) (by simp) (.int .i64 base)).set (p := ⟨B + 1, 1, none⟩) (by simp) (.slice R2 NN q2)).set (p := ⟨B + 1, 2, none⟩) (by simp) (.slice H m2 r)).set (p := ⟨B + 1, 3, none⟩) (by simp) (.int .i64 cap)).set (p := ⟨B + 1, 4, none⟩) (by simp) (.int .i64 en))
      exact bodyPost_ret (v := .tuple #[.agg #[.int .i64 base, .slice R2 NN q2, .slice H m2 r, .int .i64 cap, .int .i64 en], .int .i64 (NP : Int), .int .i64 0]) (by simp [results, Try.results60, go_sem, y0, y1, y2, y3, y4]) rfl (by rw [HX.out, HNP.out, HPB.out, HG2.out]; exact ⟨R2, NN, q2, H, m2, r, rfl, sz.mono (by omega), qz.mono (by omega), bz⟩)
end Go.Proofs.Ytggnhccpncgfiaa
