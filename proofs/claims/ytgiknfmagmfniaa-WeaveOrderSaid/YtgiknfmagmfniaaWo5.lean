/- Package weave: Read as contracts of the calls. -/
import Derived.Test.YtgiknfmagmfniaaProg
import Derived.Test.YtgiknfmagmfniaaWo4
import Derived.Test.YtgiknfmagmfniaaWeCut
import Derived.WalkKit
import Derived.WalkSpells
import Derived.WalkSmall
import Derived.Lib.Hide
import Derived.Below
import Derived.Outline
namespace Go.Proofs.Ytgiknfmagmfniaa
open Go.RowKit
set_option linter.unusedSimpArgs false
set_option linter.unusedVariables false


theorem cut_all {w : Wv} {k : Nat} (h : Va w) (hk : k ≤ rdyW w) (h0 : 0 < k) : cutR w.got (w.base, w.base + k) = ((cutW w k).got, 0) := by
  have hrl := rdy_le w
  have hbl := h.blen
  have htop := up_top h
  have hb0 := h.base0
  have hvl : vld w.base (w.base + k) = true := by rw [vld_iff]; omega
  have e : (cutW w k).got = cutL w.got (w.base, w.base + k) := by show cutK w.got w.base k = _; unfold cutK; rw [if_neg (by omega)]
  have hl := cut_len h hk
  have h3 := h.len
  rw [e] at hl ⊢
  unfold cutR told
  rw [h.may, hvl, Bool.and_self, if_pos rfl, if_pos (by omega)]
theorem run_cutB (P : Program) (t e : TypeId) (ht : P.underlying t = some (.slice e)) (hinfo : (P.info? e).map (fun i => (i.zero, i.size, i.bytes)) = some (some (.int .u8 0), 1, 1)) (A : Option Addr) (k m d : Nat) (w : World) (hk : k ≤ 1000000) (_ : m ≤ d) :
    (Instr.slice t (.slice A (m + k) (d + k)) (some (.int .i64 (k : Int))) none none).run P w = .ok (.slice (cutA A k (d + k)) m d) w := by
  obtain ⟨i0, hi, hz0, hz1, hz2⟩ := info_parts hinfo
  have ht' : P.underlying t = some (.slice (P.elem t)) := by simp [Program.elem, ht]
  have he : P.elem t = e := by simp [Program.elem, ht]
  have hz : ∀ w, (Go.sizeOf e).run P w = .ok 1 w := fun w => by simp [Go.sizeOf, typeInfo, hi, hz1]
  rw [run_slice_l w t _ _ _ ht' .i64 _ (by omega) (by omega), he, hz]
  simp [Result.andThen, sliced, cutA]
theorem Sl.cutB {w : World} {A : Option Addr} {k m d : Nat} {l : List Int} (h : Sl w A (m + k) (d + k) l) : Sl w (cutA A k (d + k)) m d (l.drop k) :=
  ⟨by have := h.le; omega, by have := h.big; omega, (fun e => by
    unfold cutA at e
    split at e
    · omega
    · cases hA : A with
      | none => have := h.nil hA; omega
      | some a => rw [hA] at e; cases e), h.rd.cut rfl h.le⟩

set_option maxRecDepth 100000 in
set_option maxHeartbeats 4000000 in
theorem wread_any (base : Int) (A : Option Addr) (n c : Nat) (G : Option Addr) (m d : Nat) (cap en : Int) (bl : List Int) (gl : List Sp) (w : World) (hb : Sl w A n c bl) (hg : Ss w G m d gl) (hn : n ≤ 140737488355328) (z : Int) (hz : W64 z) :
    Calls Try.prog 16 #[.agg #[.int .i64 base, .slice A n c, .slice G m d, .int .i64 cap, .int .i64 en], .int .i64 z] w fun e w' => TellR w w' e (readR ⟨base, bl, gl, cap, en⟩ z) := by
  unfold TellR
  have hbl := hb.rd.len
  have hgl := hg.rd.len
  obtain ⟨B, hB⟩ : ∃ B, w.heap.size = B := ⟨_, rfl⟩
  have e0 := (Bx.new w 25 [.int .i64 base, .slice A n c, .slice G m d, .int .i64 cap, .int .i64 en]).alloc (.cells #[.int .i64 0, .slice none 0 0, .slice none 0 0, .int .i64 0, .int .i64 0] 25)
  have r0 := Bx.new (w.alloc (.cells #[.int .i64 base, .slice A n c, .slice G m d, .int .i64 cap, .int .i64 en] 25)) 25 [.int .i64 0, .slice none 0 0, .slice none 0 0, .int .i64 0, .int .i64 0]
  have hb0 : Below w.heap.size w ((w.alloc (.cells #[.int .i64 base, .slice A n c, .slice G m d, .int .i64 cap, .int .i64 en] 25)).alloc (.cells #[.int .i64 0, .slice none 0 0, .slice none 0 0, .int .i64 0, .int .i64 0] 25)) := ((Below.refl _ _).alloc (Nat.le_refl _) _).alloc (by simp) _
  rw [World.size_alloc] at r0
  rw [hB] at e0 r0 hb0
  obtain ⟨w0, hw0⟩ : ∃ w0, (w.alloc (.cells #[.int .i64 base, .slice A n c, .slice G m d, .int .i64 cap, .int .i64 en] 25)).alloc (.cells #[.int .i64 0, .slice none 0 0, .slice none 0 0, .int .i64 0, .int .i64 0] 25) = w0 := ⟨_, rfl⟩
  have e0' : Bx w0 B 25 [.int .i64 base, .slice A n c, .slice G m d, .int .i64 cap, .int .i64 en] := by rw [← hw0]; exact e0
  have r0' : Bx w0 (B + 1) 25 [.int .i64 0, .slice none 0 0, .slice none 0 0, .int .i64 0, .int .i64 0] := by rw [← hw0]; exact r0
  have hb0' : Below B w w0 := by rw [← hw0]; exact hb0
  clear e0 r0 hb0
  have hbk : ∀ {w' : World}, Below B w w' → Sl w' A n c bl := fun h => hb.keep (by rw [hB]; exact h)
  have hgk : ∀ {w' : World}, Below B w w' → Ss w' G m d gl := fun h => hg.keep (by rw [hB]; exact h)
  have hmay := wvmay_any base A n c G m d cap en bl gl _ (hbk hb0') (hgk hb0') hn
  have x0 := e0'.cell 0 rfl
  have x1 := e0'.cell 1 rfl
  have x2 := e0'.cell 2 rfl
  have x3 := e0'.cell 3 rfl
  have x4 := e0'.cell 4 rfl
  rcases read_cases ⟨base, bl, gl, cap, en⟩ z with ⟨hx, hnv⟩ | ⟨hx, hv, hz0⟩
  · rw [zw_lit] at hx
    rw [hx]
    clear hx
    have HN := Lib.hid hnv; clear hnv
    go_enter Try.func16, Try.ntmps16
    rw [hB]
    go_wp2_with fail
    refine hmay.mono ?_
    rintro e w1 ⟨he, hb1⟩
    clear x0 x1 x2 x3 x4
    have e1 := e0'.kept hb1
    have r1 := r0'.kept hb1
    have b1 := hb0'.trans (hb1.mono (Nat.le_of_lt e0'.lt))
    have x0 := e1.cell 0 rfl
    have x1 := e1.cell 1 rfl
    have x2 := e1.cell 2 rfl
    have x3 := e1.cell 3 rfl
    have x4 := e1.cell 4 rfl
    cases hk : wmay ⟨base, bl, gl, cap, en⟩ with
    | false =>
      rw [hk] at he; subst he
      have t0 := r1.cell 0 rfl
      have t1 := r1.cell 1 rfl
      have t2 := r1.cell 2 rfl
      have t3 := r1.cell 3 rfl
      have t4 := r1.cell 4 rfl
      have tf0 := r1.free 0
      have tf1 := r1.free 1
      have tf2 := r1.free 2
      have tf3 := r1.free 3
      have tf4 := r1.free 4
      go_wp2_with fail
      have OV := (((((r1.set 0 (.int .i64 0)).set 1 (.slice none 0 0)).set 2 (.slice none 0 0)).set 3 (.int .i64 0)).set 4 (.int .i64 0))
      have y0 := OV.cell 0 rfl
      have y1 := OV.cell 1 rfl
      have y2 := OV.cell 2 rfl
      have y3 := OV.cell 3 rfl
      have y4 := OV.cell 4 rfl
      have bz := (((((b1.setCell (p := ⟨B + 1, 0, none⟩) (by simp) (.int .i64 0)).setCell (p := ⟨B + 1, 1, none⟩) (by simp) (.slice none 0 0)).setCell (p := ⟨B + 1, 2, none⟩) (by simp) (.slice none 0 0)).setCell (p := ⟨B + 1, 3, none⟩) (by simp) (.int .i64 0)).setCell (p := ⟨B + 1, 4, none⟩) (by simp) (.int .i64 0))
      exact bodyPost_ret (v := .tuple #[.agg #[.int .i64 0, .slice none 0 0, .slice none 0 0, .int .i64 0, .int .i64 0], .slice none 0 0, .int .i64 1]) (by simp [results, Try.results16, go_sem, y0, y1, y2, y3, y4]) rfl ⟨none, 0, 0, none, 0, 0, none, 0, 0, rfl, Sb.none _ _, Sq.none _ _, Sb.none _ _, bz⟩
    | true =>
      rw [hk] at he; subst he
      have hzn : z < 0 := by
        rcases Int.lt_or_le z 0 with h | h
        · exact h
        · exact absurd ⟨(wmay_iff _).1 hk, h⟩ HN.out
      have HK := Lib.hid hk; clear hk
      have t0 := r1.cell 0 rfl
      have t1 := r1.cell 1 rfl
      have t2 := r1.cell 2 rfl
      have t3 := r1.cell 3 rfl
      have t4 := r1.cell 4 rfl
      have tf0 := r1.free 0
      have tf1 := r1.free 1
      have tf2 := r1.free 2
      have tf3 := r1.free 3
      have tf4 := r1.free 4
      go_wp2_with fail
      have OV := (((((r1.set 0 (.int .i64 0)).set 1 (.slice none 0 0)).set 2 (.slice none 0 0)).set 3 (.int .i64 0)).set 4 (.int .i64 0))
      have y0 := OV.cell 0 rfl
      have y1 := OV.cell 1 rfl
      have y2 := OV.cell 2 rfl
      have y3 := OV.cell 3 rfl
      have y4 := OV.cell 4 rfl
      have bz := (((((b1.setCell (p := ⟨B + 1, 0, none⟩) (by simp) (.int .i64 0)).setCell (p := ⟨B + 1, 1, none⟩) (by simp) (.slice none 0 0)).setCell (p := ⟨B + 1, 2, none⟩) (by simp) (.slice none 0 0)).setCell (p := ⟨B + 1, 3, none⟩) (by simp) (.int .i64 0)).setCell (p := ⟨B + 1, 4, none⟩) (by simp) (.int .i64 0))
      exact bodyPost_ret (v := .tuple #[.agg #[.int .i64 0, .slice none 0 0, .slice none 0 0, .int .i64 0, .int .i64 0], .slice none 0 0, .int .i64 1]) (by simp [results, Try.results16, go_sem, y0, y1, y2, y3, y4]) rfl ⟨none, 0, 0, none, 0, 0, none, 0, 0, rfl, Sb.none _ _, Sq.none _ _, Sb.none _ _, bz⟩
  · obtain ⟨K, hK⟩ : ∃ K, min (rdyW ⟨base, bl, gl, cap, en⟩) z.toNat = K := ⟨_, rfl⟩
    rw [hK] at hx
    rw [hx]
    clear hx
    have hready : readyR ⟨base, bl, gl, cap, en⟩ = (rdyW ⟨base, bl, gl, cap, en⟩ : Int) := by unfold readyR; rw [if_pos ((wmay_iff _).2 hv)]
    have hrl : rdyW ⟨base, bl, gl, cap, en⟩ ≤ n := by rw [← hbl]; exact rdy_le ⟨base, bl, gl, cap, en⟩
    have hKr : K ≤ rdyW ⟨base, bl, gl, cap, en⟩ := by omega
    have hns : n ≤ 1000000 := by have := b_small hv; rw [show (⟨base, bl, gl, cap, en⟩ : Wv).b = bl from rfl, hbl] at this; omega
    have hms : m ≤ 1000000 := by have := hv.len; rw [show (⟨base, bl, gl, cap, en⟩ : Wv).got = gl from rfl, hgl] at this; omega
    have v0 : 0 ≤ base := hv.base0
    have v1 : base ≤ 2305843009213693952 := hv.base1
    have hcutall : 0 < K → cutR gl (base, base + (K : Int)) = ((cutW ⟨base, bl, gl, cap, en⟩ K).got, 0) := fun h => cut_all hv hKr h
    have hrdy := fun (w' : World) (h : Below B w w') => wready_any base A n c G m d cap en bl gl w' (hbk h) (hgk h) hn
    rw [hready] at hrdy
    obtain ⟨R0, hR0⟩ : ∃ R0, rdyW ⟨base, bl, gl, cap, en⟩ = R0 := ⟨_, rfl⟩
    rw [hR0] at hrdy hK hKr hrl
    have hmt : wmay ⟨base, bl, gl, cap, en⟩ = true := (wmay_iff _).2 hv
    rw [hmt] at hmay
    have HV := Lib.hid hv; clear hv hmt hready
    have HR0 := Lib.hid hR0; clear hR0
    have HCA := Lib.hid hcutall; clear hcutall
    have hKn : K ≤ n := Nat.le_trans hKr hrl
    go_enter Try.func16, Try.ntmps16
    rw [hB]
    go_wp2_with fail
    refine hmay.mono ?_
    rintro e w1 ⟨rfl, hb1⟩
    clear x0 x1 x2 x3 x4
    have e1 := e0'.kept hb1
    have r1 := r0'.kept hb1
    have b1 := hb0'.trans (hb1.mono (Nat.le_of_lt e0'.lt))
    have x0 := e1.cell 0 rfl
    have x1 := e1.cell 1 rfl
    have x2 := e1.cell 2 rfl
    have x3 := e1.cell 3 rfl
    have x4 := e1.cell 4 rfl
    go_upto_region 3 with fail
    go_cut [1] (fun s1 wx => s1 = .int .i64 (K : Int) ∧ Below w1.heap.size w1 wx)
    case first =>
      go_wp2_with fail
      refine (hrdy _ b1).mono ?_
      rintro e w2 ⟨rfl, hb2⟩
      by_cases hmin : z ≤ (R0 : Int)
      · have hKz : z = (K : Int) := by omega
        have HKZ := Lib.hid hKz; clear hKz hK
        go_wp2_with fail
        go_meet
        case rel => exact ⟨by rw [← HKZ.out], hb2⟩
      · have hKz : (R0 : Int) = (K : Int) := by omega
        have HKZ := Lib.hid hKz; clear hKz hK
        go_wp2_with fail
        go_meet
        case rel => exact ⟨by rw [← HKZ.out], hb2⟩
    case rest =>
    obtain ⟨rfl, hb2⟩ := hcut
    rename World => w2
    clear x0 x1 x2 x3 x4 hK hz0 hKr hrl hrdy
    have e2 := e1.kept hb2
    have r2 := r1.kept hb2
    have b2 := b1.trans (hb2.mono (Nat.le_of_lt e1.lt))
    have x0 := e2.cell 0 rfl
    have x1 := e2.cell 1 rfl
    have x2 := e2.cell 2 rfl
    have x3 := e2.cell 3 rfl
    have x4 := e2.cell 4 rfl
    have hr2 := r2.lt
    have he2 := e2.lt
    by_cases hK0 : K = 0
    · have hx : cutW ⟨base, bl, gl, cap, en⟩ K = ⟨base, bl, gl, cap, en⟩ := by subst hK0; unfold cutW cutK; simp
      have hx2 : bl.take K = [] := by subst hK0; rfl
      have k0 : (K : Int) = 0 := by omega
      have HX := Lib.hid hx; have HX2 := Lib.hid hx2
      clear hx hx2 hK0
      go_wp2_with fail
      refine (wowned_any base A n c G m d cap en bl gl _ (hbk b2) (hgk b2) hns hms).mono ?_
      rintro e w3 ⟨R, q, H, r, rfl, sb, sq, hb3⟩
      clear x0 x1 x2 x3 x4
      have r3 := r2.kept hb3
      have b3 := b2.trans (hb3.mono (Nat.le_of_lt e2.lt))
      have t0 := r3.cell 0 rfl
      have t1 := r3.cell 1 rfl
      have t2 := r3.cell 2 rfl
      have t3 := r3.cell 3 rfl
      have t4 := r3.cell 4 rfl
      have tf0 := r3.free 0
      have tf1 := r3.free 1
      have tf2 := r3.free 2
      have tf3 := r3.free 3
      have tf4 := r3.free 4
      go_wp2_with fail
      have OV := (((((r3.set 0 (.int .i64 base)).set 1 (.slice R n q)).set 2 (.slice H m r)).set 3 (.int .i64 cap)).set 4 (.int .i64 en))
      have y0 := OV.cell 0 rfl
      have y1 := OV.cell 1 rfl
      have y2 := OV.cell 2 rfl
      have y3 := OV.cell 3 rfl
      have y4 := OV.cell 4 rfl
      have bz := (((((b3.setCell (p := ⟨B + 1, 0, none⟩) (by simp) (.int .i64 base)).setCell (p := ⟨B + 1, 1, none⟩) (by simp) (.slice R n q)).setCell (p := ⟨B + 1, 2, none⟩) (by simp) (.slice H m r)).setCell (p := ⟨B + 1, 3, none⟩) (by simp) (.int .i64 cap)).setCell (p := ⟨B + 1, 4, none⟩) (by simp) (.int .i64 en))
      have sz := (((((sb.set (p := ⟨B + 1, 0, none⟩) hr2 (.int .i64 base)).set (p := ⟨B + 1, 1, none⟩) hr2 (.slice R n q)).set (p := ⟨B + 1, 2, none⟩) hr2 (.slice H m r)).set (p := ⟨B + 1, 3, none⟩) hr2 (.int .i64 cap)).set (p := ⟨B + 1, 4, none⟩) hr2 (.int .i64 en))
      have qz := (((((sq.set (p := ⟨B + 1, 0, none⟩) hr2 (.int .i64 base)).set (p := ⟨B + 1, 1, none⟩) hr2 (.slice R n q)).set (p := ⟨B + 1, 2, none⟩) hr2 (.slice H m r)).set (p := ⟨B + 1, 3, none⟩) hr2 (.int .i64 cap)).set (p := ⟨B + 1, 4, none⟩) hr2 (.int .i64 en))
      exact bodyPost_ret (v := .tuple #[.agg #[.int .i64 base, .slice R n q, .slice H m r, .int .i64 cap, .int .i64 en], .slice none 0 0, .int .i64 0]) (by simp [results, Try.results16, go_sem, y0, y1, y2, y3, y4]) rfl (by
        have h1 := HX.out
        have h2 := HX2.out
        try dsimp only
        rw [h1, h2]
        exact ⟨R, n, q, H, m, r, none, 0, 0, rfl, sz.mono (Nat.le_of_lt he2), qz.mono (Nat.le_of_lt he2), Sb.none _ _, bz⟩)
    · have hcr := HCA.out (by omega)
      have kpos : ¬ ((K : Int) = 0) := by omega
      have wB : W64 base := ⟨by omega, by omega⟩
      have wBK : W64 (base + (K : Int)) := ⟨by omega, by omega⟩
      have hsc := cut_own G m d gl base (base + (K : Int)) w2 (hgk b2) wB wBK
      rw [hcr] at hsc
      simp only at hsc
      obtain ⟨gl2, hgl2⟩ : ∃ gl2, (cutW ⟨base, bl, gl, cap, en⟩ K).got = gl2 := ⟨_, rfl⟩
      rw [hgl2] at hsc
      have HG2 := Lib.hid hgl2
      clear hcr hgl2 HCA
      have hcle := hb.le
      obtain ⟨n1, hn1⟩ : ∃ n1, n = n1 + K := ⟨n - K, by omega⟩
      obtain ⟨c1, hc1⟩ : ∃ c1, c = c1 + K := ⟨c - K, by omega⟩
      subst hn1 hc1
      have hhead := fun w => run_head2 Try.prog 22 5 Try.underlying22 info_u8 A (n1 + K) (c1 + K) K w (by omega)
      have hcutB := fun w => run_cutB Try.prog 22 5 Try.underlying22 info_u8 A K n1 c1 w (by omega) (by omega)
      go_wp2_with fail
      refine hsc.mono ?_
      rintro e w3 ⟨H, m2, r, rfl, sq3, hb3⟩
      have e3 := e2.kept hb3
      have r3 := r2.kept hb3
      have b3 := b2.trans (hb3.mono (Nat.le_of_lt e2.lt))
      clear x0 x1 x2 x3 x4
      have x1 := e3.cell 1 rfl
      go_wp2_with fail
      refine (clone_any A K (c1 + K) (bl.take K) _ ((hbk b3).head2 (by omega)) (by omega)).mono ?_
      rintro e w4 ⟨S, u, rfl, ss4, hb4⟩
      have e4 := e3.kept hb4
      have r4 := r3.kept hb4
      have b4 := b3.trans (hb4.mono (Nat.le_of_lt e3.lt))
      have sq4 := sq3.keep hb4
      clear x1
      have x1 := e4.cell 1 rfl
      go_wp2_with fail
      refine (clone_any (cutA A K (c1 + K)) n1 c1 (bl.drop K) _ (hbk b4).cutB (by omega)).mono ?_
      rintro e w5 ⟨R2, q2, rfl, sb5, hb5⟩
      have e5 := e4.kept hb5
      have r5 := r4.kept hb5
      have b5 := b4.trans (hb5.mono (Nat.le_of_lt e4.lt))
      have sq5 := (sq4.keep hb5).mono (base' := B + 1 + 1) (by omega)
      have ss5 := (ss4.keep hb5).mono (base' := B + 1 + 1) (by have := hb3.size; omega)
      have sb5' := sb5.mono (base' := B + 1 + 1) (by have := hb3.size; have := hb4.size; omega)
      have hbB : B < B + 1 + 1 := by omega
      clear x1
      have f1 := e5.free 1
      have f2 := e5.free 2
      have f0 := e5.free 0
      have x0 := e5.cell 0 rfl
      have x1 := e5.cell 1 rfl
      have x2 := e5.cell 2 rfl
      have x3 := e5.cell 3 rfl
      have x4 := e5.cell 4 rfl
      go_upto_region 12 with fail
      go_cut [60] (fun s60 wx => Bx wx B 25 [.int .i64 (base + (K : Int)), .slice R2 n1 q2, .slice H m2 r, .int .i64 cap, .int .i64 en] ∧ Bx wx (B + 1) 25 [.int .i64 0, .slice none 0 0, .slice none 0 0, .int .i64 0, .int .i64 0] ∧ Below B w wx ∧ Sb wx (B + 1 + 1) R2 n1 q2 (bl.drop K) ∧ Sq wx (B + 1 + 1) H m2 r gl2 ∧ Sb wx (B + 1 + 1) S K u (bl.take K))
      case first =>
        go_wp2_with fail
        go_meet
        case rel =>
          exact ⟨((e5.set 1 (.slice R2 n1 q2)).set 2 (.slice H m2 r)).set 0 (.int .i64 (base + (K : Int))), ((r5.far (p := ⟨B, 1, none⟩) (by simp) (.slice R2 n1 q2)).far (p := ⟨B, 2, none⟩) (by simp) (.slice H m2 r)).far (p := ⟨B, 0, none⟩) (by simp) (.int .i64 (base + (K : Int))), ((b5.setCell (p := ⟨B, 1, none⟩) (by simp) (.slice R2 n1 q2)).setCell (p := ⟨B, 2, none⟩) (by simp) (.slice H m2 r)).setCell (p := ⟨B, 0, none⟩) (by simp) (.int .i64 (base + (K : Int))), ((sb5'.set (p := ⟨B, 1, none⟩) hbB (.slice R2 n1 q2)).set (p := ⟨B, 2, none⟩) hbB (.slice H m2 r)).set (p := ⟨B, 0, none⟩) hbB (.int .i64 (base + (K : Int))), ((sq5.set (p := ⟨B, 1, none⟩) hbB (.slice R2 n1 q2)).set (p := ⟨B, 2, none⟩) hbB (.slice H m2 r)).set (p := ⟨B, 0, none⟩) hbB (.int .i64 (base + (K : Int))), ((ss5.set (p := ⟨B, 1, none⟩) hbB (.slice R2 n1 q2)).set (p := ⟨B, 2, none⟩) hbB (.slice H m2 r)).set (p := ⟨B, 0, none⟩) hbB (.int .i64 (base + (K : Int)))⟩
      case rest =>
      obtain ⟨e6, r6, b6, sb6, sq6, ss6⟩ := hcut
      rename World => w6
      clear x0 x1 x2 x3 x4 f0 f1 f2
      have x0 := e6.cell 0 rfl
      have x1 := e6.cell 1 rfl
      have x2 := e6.cell 2 rfl
      have x3 := e6.cell 3 rfl
      have x4 := e6.cell 4 rfl
      have t0 := r6.cell 0 rfl
      have t1 := r6.cell 1 rfl
      have t2 := r6.cell 2 rfl
      have t3 := r6.cell 3 rfl
      have t4 := r6.cell 4 rfl
      have tf0 := r6.free 0
      have tf1 := r6.free 1
      have tf2 := r6.free 2
      have tf3 := r6.free 3
      have tf4 := r6.free 4
      go_wp2_with fail
      have OV := (((((r6.set 0 (.int .i64 (base + (K : Int)))).set 1 (.slice R2 n1 q2)).set 2 (.slice H m2 r)).set 3 (.int .i64 cap)).set 4 (.int .i64 en))
      have y0 := OV.cell 0 rfl
      have y1 := OV.cell 1 rfl
      have y2 := OV.cell 2 rfl
      have y3 := OV.cell 3 rfl
      have y4 := OV.cell 4 rfl
      have bz := (((((b6.setCell (p := ⟨B + 1, 0, none⟩) (by simp) (.int .i64 (base + (K : Int)))).setCell (p := ⟨B + 1, 1, none⟩) (by simp) (.slice R2 n1 q2)).setCell (p := ⟨B + 1, 2, none⟩) (by simp) (.slice H m2 r)).setCell (p := ⟨B + 1, 3, none⟩) (by simp) (.int .i64 cap)).setCell (p := ⟨B + 1, 4, none⟩) (by simp) (.int .i64 en))
      have sz := (((((sb6.set (p := ⟨B + 1, 0, none⟩) (by simp) (.int .i64 (base + (K : Int)))).set (p := ⟨B + 1, 1, none⟩) (by simp) (.slice R2 n1 q2)).set (p := ⟨B + 1, 2, none⟩) (by simp) (.slice H m2 r)).set (p := ⟨B + 1, 3, none⟩) (by simp) (.int .i64 cap)).set (p := ⟨B + 1, 4, none⟩) (by simp) (.int .i64 en))
      have qz := (((((sq6.set (p := ⟨B + 1, 0, none⟩) (by simp) (.int .i64 (base + (K : Int)))).set (p := ⟨B + 1, 1, none⟩) (by simp) (.slice R2 n1 q2)).set (p := ⟨B + 1, 2, none⟩) (by simp) (.slice H m2 r)).set (p := ⟨B + 1, 3, none⟩) (by simp) (.int .i64 cap)).set (p := ⟨B + 1, 4, none⟩) (by simp) (.int .i64 en))
      have tz := (((((ss6.set (p := ⟨B + 1, 0, none⟩) (by simp) (.int .i64 (base + (K : Int)))).set (p := ⟨B + 1, 1, none⟩) (by simp) (.slice R2 n1 q2)).set (p := ⟨B + 1, 2, none⟩) (by simp) (.slice H m2 r)).set (p := ⟨B + 1, 3, none⟩) (by simp) (.int .i64 cap)).set (p := ⟨B + 1, 4, none⟩) (by simp) (.int .i64 en))
      exact bodyPost_ret (v := .tuple #[.agg #[.int .i64 (base + (K : Int)), .slice R2 n1 q2, .slice H m2 r, .int .i64 cap, .int .i64 en], .slice S K u, .int .i64 0]) (by simp [results, Try.results16, go_sem, y0, y1, y2, y3, y4]) rfl ⟨R2, n1, q2, H, m2, r, S, K, u, rfl, sz.mono (by omega), (by rw [show (cutW ⟨base, bl, gl, cap, en⟩ K).got = gl2 from HG2.out]; exact qz.mono (by omega)), tz.mono (by omega), bz⟩
end Go.Proofs.Ytgiknfmagmfniaa
