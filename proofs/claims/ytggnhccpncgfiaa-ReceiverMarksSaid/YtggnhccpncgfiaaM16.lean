/- The texts Wo5, Wo6. -/
import Derived.Below
import Derived.Lib.Hide
import Derived.Outline
import Derived.Test.YtggnhccpncgfiaaProg
import Derived.WalkKit
import Derived.WalkSmall
import Derived.WalkSpells
import Derived.Test.YtggnhccpncgfiaaM11
import Derived.Test.YtggnhccpncgfiaaM15
set_option linter.all false
namespace Go.Proofs.Ytggnhccpncgfiaa
open Go.RowKit
theorem cut_all {w : Wv} {k : Nat} (h : Va w) (hk : k ≤ rdyW w) (h0 : 0 < k) : cutR w.got (w.base, w.base + k) = ((cutW w k).got, 0) := by
  have hrl := rdy_le w
  have hbl := h.blen
  have htop := up_top h
  have hb0 := h.base0
  have hvl : vld w.base (w.base + k) = true := by rw [vld_iff]; omega
  have e : (cutW w k).got = cutL w.got (w.base, w.base + k) := by show cutK w.got w.base k = _; unfold cutK; rw [if_neg (by omega)]
  have hl := cut_len h hk
  have h3 := h.len
  rw [e] at hl ⊢
  unfold cutR told
  rw [h.may, hvl, Bool.and_self, if_pos rfl, if_pos (by omega)]
theorem run_cutB (P : Program) (t e : TypeId) (ht : P.underlying t = some (.slice e)) (hinfo : (P.info? e).map (fun i => (i.zero, i.size, i.bytes)) = some (some (.int .u8 0), 1, 1)) (A : Option Addr) (k m d : Nat) (w : World) (hk : k ≤ 1000000) (_ : m ≤ d) :
    (Instr.slice t (.slice A (m + k) (d + k)) (some (.int .i64 (k : Int))) none none).run P w = .ok (.slice (cutA A k (d + k)) m d) w := by
  obtain ⟨i0, hi, hz0, hz1, hz2⟩ := info_parts hinfo
  have ht' : P.underlying t = some (.slice (P.elem t)) := by simp [Program.elem, ht]
  have he : P.elem t = e := by simp [Program.elem, ht]
  have hz : ∀ w, (Go.sizeOf e).run P w = .ok 1 w := fun w => by simp [Go.sizeOf, typeInfo, hi, hz1]
  rw [run_slice_l w t _ _ _ ht' .i64 _ (by omega) (by omega), he, hz]
  simp [Result.andThen, sliced, cutA]
theorem Sl.cutB {w : World} {A : Option Addr} {k m d : Nat} {l : List Int} (h : Sl w A (m + k) (d + k) l) : Sl w (cutA A k (d + k)) m d (l.drop k) :=
  ⟨by have := h.le; omega, by have := h.big; omega, (fun e => by
    unfold cutA at e
    split at e
    · omega
    · cases hA : A with
      | none => have := h.nil hA; omega
      | some a => rw [hA] at e; cases e), h.rd.cut rfl h.le⟩
set_option maxRecDepth 100000 in
set_option maxHeartbeats 4000000 in
theorem wread_any (base : Int) (A : Option Addr) (n c : Nat) (G : Option Addr) (m d : Nat) (cap en : Int) (bl : List Int) (gl : List Sp) (w : World) (hb : Sl w A n c bl) (hg : Ss w G m d gl) (hn : n ≤ 140737488355328) (z : Int) (hz : W64 z) :
    Calls Try.prog 45 #[.agg #[.int .i64 base, .slice A n c, .slice G m d, .int .i64 cap, .int .i64 en], .int .i64 z] w fun e w' => TellR w w' e (readR ⟨base, bl, gl, cap, en⟩ z) := by
  unfold TellR
  have hbl := hb.rd.len
  have hgl := hg.rd.len
  obtain ⟨B, hB⟩ : ∃ B, w.heap.size = B := ⟨_, rfl⟩
  have e0 := (Bx.new w 25 [.int .i64 base, .slice A n c, .slice G m d, .int .i64 cap, .int .i64 en]).alloc (.cells #[.int .i64 0, .slice none 0 0, .slice none 0 0, .int .i64 0, .int .i64 0] 25)
  have r0 := Bx.new (w.alloc (.cells #[.int .i64 base, .slice A n c, .slice G m d, .int .i64 cap, .int .i64 en] 25)) 25 [.int .i64 0, .slice none 0 0, .slice none 0 0, .int .i64 0, .int .i64 0]
  have hb0 : Below w.heap.size w ((w.alloc (.cells #[.int .i64 base, .slice A n c, .slice G m d, .int .i64 cap, .int .i64 en] 25)).alloc (.cells #[.int .i64 0, .slice none 0 0, .slice none 0 0, .int .i64 0, .int .i64 0] 25)) := ((Below.refl _ _).alloc (Nat.le_refl _) _).alloc (by simp) _
  rw [World.size_alloc] at r0
  rw [hB] at e0 r0 hb0
  obtain ⟨w0, hw0⟩ : ∃ w0, (w.alloc (.cells #[.int .i64 base, .slice A n c, .slice G m d, .int .i64 cap, .int .i64 en] 25)).alloc (.cells #[.int .i64 0, .slice none 0 0, .slice none 0 0, .int .i64 0, .int .i64 0] 25) = w0 := ⟨_, rfl⟩
  have e0' : Bx w0 B 25 [.int .i64 base, .slice A n c, .slice G m d, .int .i64 cap, .int .i64 en] := by rw [← hw0]; exact e0
  have r0' : Bx w0 (B + 1) 25 [.int .i64 0, .slice none 0 0, .slice none 0 0, .int .i64 0, .int .i64 0] := by rw [← hw0]; exact r0
  have hb0' : Below B w w0 := by rw [← hw0]; exact hb0
  clear e0 r0 hb0
  have hbk : ∀ {w' : World}, Below B w w' → Sl w' A n c bl := fun h => hb.keep (by rw [hB]; exact h)
  have hgk : ∀ {w' : World}, Below B w w' → Ss w' G m d gl := fun h => hg.keep (by rw [hB]; exact h)
  have hmay := wvmay_any base A n c G m d cap en bl gl _ (hbk hb0') (hgk hb0') hn
  have x0 := e0'.cell 0 rfl
  have x1 := e0'.cell 1 rfl
  have x2 := e0'.cell 2 rfl
  have x3 := e0'.cell 3 rfl
  have x4 := e0'.cell 4 rfl
  rcases read_cases ⟨base, bl, gl, cap, en⟩ z with ⟨hx, hnv⟩ | ⟨hx, hv, hz0⟩
  · rw [zw_lit] at hx
    rw [hx]
    clear hx
    have HN := Lib.hid hnv; clear hnv
    go_enter Try.func45, Try.ntmps45
    rw [hB]
    go_wp2_with fail
    refine hmay.mono ?_
    rintro e w1 ⟨he, hb1⟩
    clear x0 x1 x2 x3 x4
    have e1 := e0'.kept hb1
    have r1 := r0'.kept hb1
    have b1 := hb0'.trans (hb1.mono (Nat.le_of_lt e0'.lt))
    have x0 := e1.cell 0 rfl
    have x1 := e1.cell 1 rfl
    have x2 := e1.cell 2 rfl
    have x3 := e1.cell 3 rfl
    have x4 := e1.cell 4 rfl
    cases hk : wmay ⟨base, bl, gl, cap, en⟩ with
    | false =>
      rw [hk] at he; subst he
      have t0 := r1.cell 0 rfl
      have t1 := r1.cell 1 rfl
      have t2 := r1.cell 2 rfl
      have t3 := r1.cell 3 rfl
      have t4 := r1.cell 4 rfl
      have tf0 := r1.free 0
      have tf1 := r1.free 1
      have tf2 := r1.free 2
      have tf3 := r1.free 3
      have tf4 := r1.free 4
      go_wp2_with fail
      have OV := (((((r1.set 0 (.int .i64 0)).set 1 (.slice none 0 0)).set 2 (.slice none 0 0)).set 3 (.int .i64 0)).set 4 (.int .i64 0))
      have y0 := OV.cell 0 rfl
      have y1 := OV.cell 1 rfl
      have y2 := OV.cell 2 rfl
      have y3 := OV.cell 3 rfl
      have y4 := OV.cell 4 rfl
      have bz := (((((b1.setCell (p := ⟨B + 1, 0, none⟩) (by simp) (.int .i64 0)).setCell (p := ⟨B + 1, 1, none⟩) (by simp) (.slice none 0 0)).setCell (p := ⟨B + 1, 2, none⟩) (by simp) (.slice none 0 0)).setCell (p := ⟨B + 1, 3, none⟩) (by simp) (.int .i64 0)).setCell (p := ⟨B + 1, 4, none⟩) (by simp) (.int .i64 0))
      exact bodyPost_ret (v := .tuple #[.agg #[.int .i64 0, .slice none 0 0, .slice none 0 0, .int .i64 0, .int .i64 0], .slice none 0 0, .int .i64 1]) (by simp [results, Try.results45, go_sem, y0, y1, y2, y3, y4]) rfl ⟨none, 0, 0, none, 0, 0, none, 0, 0, rfl, Sb.none _ _, Sq.none _ _, Sb.none _ _, bz⟩
    | true =>
      rw [hk] at he; subst he
      have hzn : z < 0 := by
        rcases Int.lt_or_le z 0 with h | h
        · exact h
        · exact absurd ⟨(wmay_iff _).1 hk, h⟩ HN.out
      have HK := Lib.hid hk; clear hk
      have t0 := r1.cell 0 rfl
      have t1 := r1.cell 1 rfl
      have t2 := r1.cell 2 rfl
      have t3 := r1.cell 3 rfl
      have t4 := r1.cell 4 rfl
      have tf0 := r1.free 0
      have tf1 := r1.free 1
      have tf2 := r1.free 2
      have tf3 := r1.free 3
      have tf4 := r1.free 4
      go_wp2_with fail
      have OV := (((((r1.set 0 (.int .i64 0)).set 1 (.slice none 0 0)).set 2 (.slice none 0 0)).set 3 (.int .i64 0)).set 4 (.int .i64 0))
      have y0 := OV.cell 0 rfl
      have y1 := OV.cell 1 rfl
      have y2 := OV.cell 2 rfl
      have y3 := OV.cell 3 rfl
      have y4 := OV.cell 4 rfl
      have bz := (((((b1.setCell (p := ⟨B + 1, 0, none⟩) (by simp) (.int .i64 0)).setCell (p := ⟨B + 1, 1, none⟩) (by simp) (.slice none 0 0)).setCell (p := ⟨B + 1, 2, none⟩) (by simp) (.slice none 0 0)).setCell (p := ⟨B + 1, 3, none⟩) (by simp) (.int .i64 0)).setCell (p := ⟨B + 1, 4, none⟩) (by simp) (.int .i64 0))
      exact bodyPost_ret (v := .tuple #[.agg #[.int .i64 0, .slice none 0 0, .slice none 0 0, .int .i64 0, .int .i64 0], .slice none 0 0, .int .i64 1]) (by simp [results, Try.results45, go_sem, y0, y1, y2, y3, y4]) rfl ⟨none, 0, 0, none, 0, 0, none, 0, 0, rfl, Sb.none _ _, Sq.none _ _, Sb.none _ _, bz⟩
  · obtain ⟨K, hK⟩ : ∃ K, min (rdyW ⟨base, bl, gl, cap, en⟩) z.toNat = K := ⟨_, rfl⟩
    rw [hK] at hx
    rw [hx]
    clear hx
    have hready : readyR ⟨base, bl, gl, cap, en⟩ = (rdyW ⟨base, bl, gl, cap, en⟩ : Int) := by unfold readyR; rw [if_pos ((wmay_iff _).2 hv)]
    have hrl : rdyW ⟨base, bl, gl, cap, en⟩ ≤ n := by rw [← hbl]; exact rdy_le ⟨base, bl, gl, cap, en⟩
    have hKr : K ≤ rdyW ⟨base, bl, gl, cap, en⟩ := by omega
    have hns : n ≤ 1000000 := by have := b_small hv; rw [show (⟨base, bl, gl, cap, en⟩ : Wv).b = bl from rfl, hbl] at this; omega
    have hms : m ≤ 1000000 := by have := hv.len; rw [show (⟨base, bl, gl, cap, en⟩ : Wv).got = gl from rfl, hgl] at this; omega
    have v0 : 0 ≤ base := hv.base0
    have v1 : base ≤ 2305843009213693952 := hv.base1
    have hcutall : 0 < K → cutR gl (base, base + (K : Int)) = ((cutW ⟨base, bl, gl, cap, en⟩ K).got, 0) := fun h => cut_all hv hKr h
    have hrdy := fun (w' : World) (h : Below B w w') => wready_any base A n c G m d cap en bl gl w' (hbk h) (hgk h) hn
    rw [hready] at hrdy
    obtain ⟨R0, hR0⟩ : ∃ R0, rdyW ⟨base, bl, gl, cap, en⟩ = R0 := ⟨_, rfl⟩
    rw [hR0] at hrdy hK hKr hrl
    have hmt : wmay ⟨base, bl, gl, cap, en⟩ = true := (wmay_iff _).2 hv
    rw [hmt] at hmay
    have HV := Lib.hid hv; clear hv hmt hready
    have HR0 := Lib.hid hR0; clear hR0
    have HCA := Lib.hid hcutall; clear hcutall
    have hKn : K ≤ n := Nat.le_trans hKr hrl
    go_enter Try.func45, Try.ntmps45
    rw [hB]
    go_wp2_with fail
    refine hmay.mono ?_
    rintro e w1 ⟨rfl, hb1⟩
    clear x0 x1 x2 x3 x4
    have e1 := e0'.kept hb1
    have r1 := r0'.kept hb1
    have b1 := hb0'.trans (hb1.mono (Nat.le_of_lt e0'.lt))
    have x0 := e1.cell 0 rfl
    have x1 := e1.cell 1 rfl
    have x2 := e1.cell 2 rfl
    have x3 := e1.cell 3 rfl
    have x4 := e1.cell 4 rfl
    go_upto_region 3 with fail
    go_cut [1] (fun s1 wx => s1 = .int .i64 (K : Int) ∧ Below w1.heap.size w1 wx)
    case first =>
      go_wp2_with fail
      refine (hrdy _ b1).mono ?_
      rintro e w2 ⟨rfl, hb2⟩
      by_cases hmin : z ≤ (R0 : Int)
      · have hKz : z = (K : Int) := by omega
        have HKZ := Lib.hid hKz; clear hKz hK
        go_wp2_with fail
        go_meet
        case rel => exact ⟨by rw [← HKZ.out], hb2⟩
      · have hKz : (R0 : Int) = (K : Int) := by omega
        have HKZ := Lib.hid hKz; clear hKz hK
        go_wp2_with fail
        go_meet
        case rel => exact ⟨by rw [← HKZ.out], hb2⟩
    case rest =>
    obtain ⟨rfl, hb2⟩ := hcut
    rename World => w2
    clear x0 x1 x2 x3 x4 hK hz0 hKr hrl hrdy
    have e2 := e1.kept hb2
    have r2 := r1.kept hb2
    have b2 := b1.trans (hb2.mono (Nat.le_of_lt e1.lt))
    have x0 := e2.cell 0 rfl
    have x1 := e2.cell 1 rfl
    have x2 := e2.cell 2 rfl
    have x3 := e2.cell 3 rfl
    have x4 := e2.cell 4 rfl
    have hr2 := r2.lt
    have he2 := e2.lt
    by_cases hK0 : K = 0
    · have hx : cutW ⟨base, bl, gl, cap, en⟩ K = ⟨base, bl, gl, cap, en⟩ := by subst hK0; unfold cutW cutK; simp
      have hx2 : bl.take K = [] := by subst hK0; rfl
      have k0 : (K : Int) = 0 := by omega
      have HX := Lib.hid hx; have HX2 := Lib.hid hx2
      clear hx hx2 hK0
      go_wp2_with fail
      refine (wowned_any base A n c G m d cap en bl gl _ (hbk b2) (hgk b2) hns hms).mono ?_
      rintro e w3 ⟨R, q, H, r, rfl, sb, sq, hb3⟩
      clear x0 x1 x2 x3 x4
      have r3 := r2.kept hb3
      have b3 := b2.trans (hb3.mono (Nat.le_of_lt e2.lt))
      have t0 := r3.cell 0 rfl
      have t1 := r3.cell 1 rfl
      have t2 := r3.cell 2 rfl
      have t3 := r3.cell 3 rfl
      have t4 := r3.cell 4 rfl
      have tf0 := r3.free 0
      have tf1 := r3.free 1
      have tf2 := r3.free 2
      have tf3 := r3.free 3
      have tf4 := r3.free 4
      go_wp2_with fail
      have OV := (((((r3.set 0 (.int .i64 base)).set 1 (.slice R n q)).set 2 (.slice H m r)).set 3 (.int .i64 cap)).set 4 (.int .i64 en))
      have y0 := OV.cell 0 rfl
      have y1 := OV.cell 1 rfl
      have y2 := OV.cell 2 rfl
      have y3 := OV.cell 3 rfl
      have y4 := OV.cell 4 rfl
      have bz := (((((b3.setCell (p := ⟨B + 1, 0, none⟩) (by simp) (.int .i64 base)).setCell (p := ⟨B + 1, 1, none⟩) (by simp) (.slice R n q)).setCell (p := ⟨B + 1, 2, none⟩) (by simp) (.slice H m r)).setCell (p := ⟨B + 1, 3, none⟩) (by simp) (.int .i64 cap)).setCell (p := ⟨B + 1, 4, none⟩) (by simp) (.int .i64 en))
      have sz := (((((sb.set (p := ⟨B + 1, 0, none⟩) hr2 (.int .i64 base)).set (p := ⟨B + 1, 1, none⟩) hr2 (.slice R n q)).set (p := ⟨B + 1, 2, none⟩) hr2 (.slice H m r)).set (p := ⟨B + 1, 3, none⟩) hr2 (.int .i64 cap)).set (p := ⟨B + 1, 4, none⟩) hr2 (.int .i64 en))
      have qz := (((((sq.set (p := ⟨B + 1, 0, none⟩) hr2 (.int .i64 base)).set (p := ⟨B + 1, 1, none⟩) hr2 (.slice R n q)).set (p := ⟨B + 1, 2, none⟩) hr2 (.slice H m r)).set (p := ⟨B + 1, 3, none⟩) hr2 (.int .i64 cap)).set (p := ⟨B + 1, 4, none⟩) hr2 (.int .i64 en))
      exact bodyPost_ret (v := .tuple #[.agg #[.int .i64 base, .slice R n q, .slice H m r, .int .i64 cap, .int .i64 en], .slice none 0 0, .int .i64 0]) (by simp [results, Try.results45, go_sem, y0, y1, y2, y3, y4]) rfl (by
        have h1 := HX.out
        have h2 := HX2.out
        try dsimp only
        rw [h1, h2]
        exact ⟨R, n, q, H, m, r, none, 0, 0, rfl, sz.mono (Nat.le_of_lt he2), qz.mono (Nat.le_of_lt he2), Sb.none _ _, bz⟩)
    · have hcr := HCA.out (by omega)
      have kpos : ¬ ((K : Int) = 0) := by omega
      have wB : W64 base := ⟨by omega, by omega⟩
      have wBK : W64 (base + (K : Int)) := ⟨by omega, by omega⟩
      have hsc := cut_own G m d gl base (base + (K : Int)) w2 (hgk b2) wB wBK
      rw [hcr] at hsc
      simp only at hsc
      obtain ⟨gl2, hgl2⟩ : ∃ gl2, (cutW ⟨base, bl, gl, cap, en⟩ K).got = gl2 := ⟨_, rfl⟩
      rw [hgl2] at hsc
      have HG2 := Lib.hid hgl2
      clear hcr hgl2 HCA
      have hcle := hb.le
      obtain ⟨n1, hn1⟩ : ∃ n1, n = n1 + K := ⟨n - K, by omega⟩
      obtain ⟨c1, hc1⟩ : ∃ c1, c = c1 + K := ⟨c - K, by omega⟩
      subst hn1 hc1
      have hhead := fun w => run_head2 Try.prog 22 5 Try.underlying22 info_u8 A (n1 + K) (c1 + K) K w (by omega)
      have hcutB := fun w => run_cutB Try.prog 22 5 Try.underlying22 info_u8 A K n1 c1 w (by omega) (by omega)
      go_wp2_with fail
      refine hsc.mono ?_
      rintro e w3 ⟨H, m2, r, rfl, sq3, hb3⟩
      have e3 := e2.kept hb3
      have r3 := r2.kept hb3
      have b3 := b2.trans (hb3.mono (Nat.le_of_lt e2.lt))
      clear x0 x1 x2 x3 x4
      have x1 := e3.cell 1 rfl
      go_wp2_with fail
      refine (clone_any A K (c1 + K) (bl.take K) _ ((hbk b3).head2 (by omega)) (by omega)).mono ?_
      rintro e w4 ⟨S, u, rfl, ss4, hb4⟩
      have e4 := e3.kept hb4
      have r4 := r3.kept hb4
      have b4 := b3.trans (hb4.mono (Nat.le_of_lt e3.lt))
      have sq4 := sq3.keep hb4
      clear x1
      have x1 := e4.cell 1 rfl
      go_wp2_with fail
      refine (clone_any (cutA A K (c1 + K)) n1 c1 (bl.drop K) _ (hbk b4).cutB (by omega)).mono ?_
      rintro e w5 ⟨R2, q2, rfl, sb5, hb5⟩
      have e5 := e4.kept hb5
      have r5 := r4.kept hb5
      have b5 := b4.trans (hb5.mono (Nat.le_of_lt e4.lt))
      have sq5 := (sq4.keep hb5).mono (base' := B + 1 + 1) (by omega)
      have ss5 := (ss4.keep hb5).mono (base' := B + 1 + 1) (by have := hb3.size; omega)
      have sb5' := sb5.mono (base' := B + 1 + 1) (by have := hb3.size; have := hb4.size; omega)
      have hbB : B < B + 1 + 1 := by omega
      clear x1
      have f1 := e5.free 1
      have f2 := e5.free 2
      have f0 := e5.free 0
      have x0 := e5.cell 0 rfl
      have x1 := e5.cell 1 rfl
      have x2 := e5.cell 2 rfl
      have x3 := e5.cell 3 rfl
      have x4 := e5.cell 4 rfl
      go_upto_region 12 with fail
      go_cut [60] (fun s60 wx => Bx wx B 25 [.int .i64 (base + (K : Int)), .slice R2 n1 q2, .slice H m2 r, .int .i64 cap, .int .i64 en] ∧ Bx wx (B + 1) 25 [.int .i64 0, .slice none 0 0, .slice none 0 0, .int .i64 0, .int .i64 0] ∧ Below B w wx ∧ Sb wx (B + 1 + 1) R2 n1 q2 (bl.drop K) ∧ Sq wx (B + 1 + 1) H m2 r gl2 ∧ Sb wx (B + 1 + 1) S K u (bl.take K))
      case first =>
        go_wp2_with fail
        go_meet
        case rel =>
          exact ⟨((e5.set 1 (.slice R2 n1 q2)).set 2 (.slice H m2 r)).set 0 (.int .i64 (base + (K : Int))), ((r5.far (p := ⟨B, 1, none⟩) (by simp) (.slice R2 n1 q2)).far (p := ⟨B, 2, none⟩) (by simp) (.slice H m2 r)).far (p := ⟨B, 0, none⟩) (by simp) (.int .i64 (base + (K : Int))), ((b5.setCell (p := ⟨B, 1, none⟩) (by simp) (.slice R2 n1 q2)).setCell (p := ⟨B, 2, none⟩) (by simp) (.slice H m2 r)).setCell (p := ⟨B, 0, none⟩) (by simp) (.int .i64 (base + (K : Int))), ((sb5'.set (p := ⟨B, 1, none⟩) hbB (.slice R2 n1 q2)).set (p := ⟨B, 2, none⟩) hbB (.slice H m2 r)).set (p := ⟨B, 0, none⟩) hbB (.int .i64 (base + (K : Int))), ((sq5.set (p := ⟨B, 1, none⟩) hbB (.slice R2 n1 q2)).set (p := ⟨B, 2, none⟩) hbB (.slice H m2 r)).set (p := ⟨B, 0, none⟩) hbB (.int .i64 (base + (K : Int))), ((ss5.set (p := ⟨B, 1, none⟩) hbB (.slice R2 n1 q2)).set (p := ⟨B, 2, none⟩) hbB (.slice H m2 r)).set (p := ⟨B, 0, none⟩) hbB (.int .i64 (base + (K : Int)))⟩
      case rest =>
      obtain ⟨e6, r6, b6, sb6, sq6, ss6⟩ := hcut
      rename World => w6
      clear x0 x1 x2 x3 x4 f0 f1 f2
      have x0 := e6.cell 0 rfl
      have x1 := e6.cell 1 rfl
      have x2 := e6.cell 2 rfl
      have x3 := e6.cell 3 rfl
      have x4 := e6.cell 4 rfl
      have t0 := r6.cell 0 rfl
      have t1 := r6.cell 1 rfl
      have t2 := r6.cell 2 rfl
      have t3 := r6.cell 3 rfl
      have t4 := r6.cell 4 rfl
      have tf0 := r6.free 0
      have tf1 := r6.free 1
      have tf2 := r6.free 2
      have tf3 := r6.free 3
      have tf4 := r6.free 4
      go_wp2_with fail
      have OV := (((((r6.set 0 (.int .i64 (base + (K : Int)))).set 1 (.slice R2 n1 q2)).set 2 (.slice H m2 r)).set 3 (.int .i64 cap)).set 4 (.int .i64 en))
      have y0 := OV.cell 0 rfl
      have y1 := OV.cell 1 rfl
      have y2 := OV.cell 2 rfl
      have y3 := OV.cell 3 rfl
      have y4 := OV.cell 4 rfl
      have bz := (((((b6.setCell (p := ⟨B + 1, 0, none⟩) (by simp) (.int .i64 (base + (K : Int)))).setCell (p := ⟨B + 1, 1, none⟩) (by simp) (.slice R2 n1 q2)).setCell (p := ⟨B + 1, 2, none⟩) (by simp) (.slice H m2 r)).setCell (p := ⟨B + 1, 3, none⟩) (by simp) (.int .i64 cap)).setCell (p := ⟨B + 1, 4, none⟩) (by simp) (.int .i64 en))
      have sz := (((((sb6.set (p := ⟨B + 1, 0, none⟩) (by simp) (.int .i64 (base + (K : Int)))).set (p := ⟨B + 1, 1, none⟩) (by simp) (.slice R2 n1 q2)).set (p := ⟨B + 1, 2, none⟩) (by simp) (.slice H m2 r)).set (p := ⟨B + 1, 3, none⟩) (by simp) (.int .i64 cap)).set (p := ⟨B + 1, 4, none⟩) (by simp) (.int .i64 en))
      have qz := (((((sq6.set (p := ⟨B + 1, 0, none⟩) (by simp) (.int .i64 (base + (K : Int)))).set (p := ⟨B + 1, 1, none⟩) (by simp) (.slice R2 n1 q2)).set (p := ⟨B + 1, 2, none⟩) (by simp) (.slice H m2 r)).set (p := ⟨B + 1, 3, none⟩) (by simp) (.int .i64 cap)).set (p := ⟨B + 1, 4, none⟩) (by simp) (.int .i64 en))
      have tz := (((((ss6.set (p := ⟨B + 1, 0, none⟩) (by simp) (.int .i64 (base + (K : Int)))).set (p := ⟨B + 1, 1, none⟩) (by simp) (.slice R2 n1 q2)).set (p := ⟨B + 1, 2, none⟩) (by simp) (.slice H m2 r)).set (p := ⟨B + 1, 3, none⟩) (by simp) (.int .i64 cap)).set (p := ⟨B + 1, 4, none⟩) (by simp) (.int .i64 en))
      exact bodyPost_ret (v := .tuple #[.agg #[.int .i64 (base + (K : Int)), .slice R2 n1 q2, .slice H m2 r, .int .i64 cap, .int .i64 en], .slice S K u, .int .i64 0]) (by simp [results, Try.results45, go_sem, y0, y1, y2, y3, y4]) rfl ⟨R2, n1, q2, H, m2, r, S, K, u, rfl, sz.mono (by omega), (by rw [show (cutW ⟨base, bl, gl, cap, en⟩ K).got = gl2 from HG2.out]; exact qz.mono (by omega)), tz.mono (by omega), bz⟩
end Go.Proofs.Ytggnhccpncgfiaa
namespace Go.Proofs.Ytggnhccpncgfiaa
open Go.RowKit
/-- bytes as cells -/
def lv (l : List Int) : List Value := l.map (Value.int .u8)
theorem lv_len (l : List Int) : (lv l).length = l.length := by unfold lv; simp
theorem lv_splice (L : List Int) (o : Nat) (cs : List Int) : splice (lv L) o (lv cs) = lv (splice L o cs) := (splice_map _ _ _ _).symm
theorem lv_one (l : List Int) : ∀ v ∈ lv l, v.oneCell' = true := by
  intro v hv
  unfold lv at hv
  obtain ⟨x, _, rfl⟩ := List.mem_map.1 hv
  rfl
/-- the block g holds just these bytes -/
def Rw (W : World) (g : Nat) (l : List Int) : Prop := W.heap[g]? = some (.cells (lv l).toArray 5 (0, 0))
theorem Rw.new (W : World) (l : List Int) : Rw (W.alloc (.cells (lv l).toArray 5)) W.heap.size l := heap_alloc_new W _
theorem Rw.eq {W : World} {g : Nat} {l : List Int} (h : Rw W g l) : W.heap[g]? = some (.cells (lv l).toArray 5 (0, 0)) := h
theorem Rw.lt {W : World} {g : Nat} {l : List Int} (h : Rw W g l) : g < W.heap.size := (Array.getElem?_eq_some_iff.1 h).1
theorem Rw.below {W W' : World} {g n : Nat} {l : List Int} (h : Rw W g l) (hb : Below n W W') (hk : g < n) : Rw W' g l := (hb.block g hk).trans h
theorem Rw.kept {W W' : World} {g : Nat} {l : List Int} (h : Rw W g l) (hb : Below W.heap.size W W') : Rw W' g l := h.below hb h.lt
theorem Rw.sb {W : World} {g base N : Nat} {l : List Int} (h : Rw W g l) (hb : base ≤ g) (hl : l.length = N) (hs : Small l) (hN : N ≤ 1000000) : Sb W base (some ⟨g, 0, none⟩) N N l := by
  refine ⟨⟨Nat.le_refl _, by unfold maxLen; omega, (fun e => by cases e), hl, hs, fun _ => ⟨g, 0, rfl, h.lt, fun i hi => ?_⟩⟩, fun b o s e => by cases e; exact hb⟩
  rw [cell_of_row W g (0 + i) _ _ _ h]
  unfold lv byt
  rw [Nat.zero_add, List.getElem?_toArray, List.getElem?_map, List.getD_eq_getElem?_getD, List.getElem?_eq_getElem (by omega)]
  rfl
theorem src_of {w : World} {A : Option Addr} {n : Nat} {l : List Int} (h : Rd w A n l) (hn : 0 < n) : ∃ ad, A = some ad ∧ ∀ j v, (lv l)[j]? = some v → w.cell? (ad.add j) = some v := by
  obtain ⟨b, o, e, _, hc⟩ := h.at_ hn
  refine ⟨_, e, fun j v hv => ?_⟩
  have hj : j < l.length := by
    have := (List.getElem?_eq_some_iff.1 hv).1
    rw [lv_len] at this; exact this
  have hadd : (⟨b, o, none⟩ : Addr).add j = ⟨b, o + j, none⟩ := by unfold Addr.add; split <;> simp_all
  rw [hadd, hc j (by rw [← h.len]; exact hj)]
  unfold lv at hv
  rw [List.getElem?_map, List.getElem?_eq_getElem hj] at hv
  rw [← hv]
  unfold byt
  rw [List.getD_eq_getElem?_getD, List.getElem?_eq_getElem hj]; rfl
theorem cutA_pos {g k c : Nat} (h : c ≠ k) : cutA (some ⟨g, 0, none⟩) k c = some ⟨g, k, none⟩ := by
  unfold cutA
  rw [if_neg h]
  simp [Addr.add]
  try omega
theorem run_cutC (P : Program) (t e : TypeId) (ht : P.underlying t = some (.slice e)) (hinfo : (P.info? e).map (fun i => (i.zero, i.size, i.bytes)) = some (some (.int .u8 0), 1, 1)) (A : Option Addr) (k n c : Nat) (w : World) (hk : k ≤ 1000000) (hkn : k ≤ n) (hnc : n ≤ c) :
    (Instr.slice t (.slice A n c) (some (.int .i64 (k : Int))) none none).run P w = .ok (.slice (cutA A k c) (n - k) (c - k)) w := by
  have h := run_cutB P t e ht hinfo A k (n - k) (c - k) w hk (by omega)
  rw [show n - k + k = n by omega, show c - k + k = c by omega] at h
  exact h
theorem run_makeB (N : Nat) (hN : N ≤ 1000000) (w : World) : (Instr.makeSlice 22 (.int .i64 (N : Int)) (.int .i64 (N : Int))).run Try.prog w = .ok (.slice (some ⟨w.heap.size, 0, none⟩) N N) (w.alloc (.cells (lv (List.replicate N 0)).toArray 5)) := by
  obtain ⟨i0, hi, hz0, hz1, hz2⟩ := info_parts info_u8
  have h := run_make (P := Try.prog) w 22 5 i0 (.int .u8 0) Try.underlying22 hi hz0 .i64 .i64 (N : Int) (N : Int) (by omega) (Int.le_refl _) (by rw [hz2]; omega) (by omega)
  rw [h, hz1, Int.toNat_natCast, Nat.mul_one]
  have e : madeCells (Value.int .u8 0).cells N = (lv (List.replicate N 0)).toArray := by
    apply Array.toList_inj.1
    show (madeCells #[Value.int .u8 0] N).toList = _
    rw [toList_madeCells_one]
    unfold lv; simp
  rw [e]
theorem size_u8 : (Try.prog.info? 5).map (·.size) = some 1 := by
  obtain ⟨i0, hi, hz0, hz1, hz2⟩ := info_parts info_u8
  rw [hi]; simp [hz1]
set_option maxRecDepth 100000 in
set_option maxHeartbeats 4000000 in
theorem wwoven_any (base : Int) (A : Option Addr) (n c : Nat) (G : Option Addr) (m d : Nat) (cap en : Int) (bl : List Int) (gl : List Sp) (P : Int) (f : Nat) (A2 : Option Addr) (n2 c2 : Nat) (l2 : List Int) (w : World) (hb : Sl w A n c bl) (hg : Ss w G m d gl) (hb2 : Sl w A2 n2 c2 l2) (h0 : 0 ≤ base) (h1 : base ≤ 2305843009213693952) (hc : chain (base - 1) gl = true) (hU : lastOf base gl = base + n) (hn : n ≤ 65536) (hm : m ≤ 1000) (hP : P = base + f) (hf : f + n2 ≤ 65536) :
    Calls Try.prog 89 #[.agg #[.int .i64 base, .slice A n c, .slice G m d, .int .i64 cap, .int .i64 en], .int .i64 P, .slice A2 n2 c2] w fun e w' => ∃ R d, e = .returned (.slice R (max n (f + n2)) d) ∧ Sb w' w.heap.size R (max n (f + n2)) d (wovB gl gl.length base bl l2 f (max n (f + n2))) ∧ Below w.heap.size w w' := by
  have hbl := hb.rd.len
  have hgl := hg.rd.len
  have e0 := Bx.new w 25 [.int .i64 base, .slice A n c, .slice G m d, .int .i64 cap, .int .i64 en]
  have hb0 : Below w.heap.size w (w.alloc (.cells #[.int .i64 base, .slice A n c, .slice G m d, .int .i64 cap, .int .i64 en] 25)) := (Below.refl _ _).alloc (Nat.le_refl _) _
  obtain ⟨B, hB⟩ : ∃ B, w.heap.size = B := ⟨_, rfl⟩
  rw [hB] at e0 hb0
  obtain ⟨w0, hw0⟩ : ∃ w0, w.alloc (.cells #[.int .i64 base, .slice A n c, .slice G m d, .int .i64 cap, .int .i64 en] 25) = w0 := ⟨_, rfl⟩
  have e1 : Bx w0 B 25 [.int .i64 base, .slice A n c, .slice G m d, .int .i64 cap, .int .i64 en] := by rw [← hw0]; exact e0
  have b1 : Below B w w0 := by rw [← hw0]; exact hb0
  clear e0 hb0
  have hbk : ∀ {w' : World}, Below B w w' → Sl w' A n c bl := fun h => hb.keep (by rw [hB]; exact h)
  have hgk : ∀ {w' : World}, Below B w w' → Ss w' G m d gl := fun h => hg.keep (by rw [hB]; exact h)
  have hbk2 : ∀ {w' : World}, Below B w w' → Sl w' A2 n2 c2 l2 := fun h => hb2.keep (by rw [hB]; exact h)
  have hl2 := hb2.rd.len
  have hcap := hb.le
  have s1 : w0.heap.size = B + 1 := by rw [← hw0, World.size_alloc, hB]
  have x0 := e1.cell 0 rfl
  have x1 := e1.cell 1 rfl
  have q0 : P - base = (f : Int) := by omega
  have hPb : P ≤ 4611686018427387904 := by omega
  have HP := Lib.hid hP; clear hP
  obtain ⟨T, hTT⟩ : ∃ T, f + n2 = T := ⟨_, rfl⟩
  obtain ⟨N, hNN⟩ : ∃ N, max n T = N := ⟨_, rfl⟩
  have hT : (f : Int) + (n2 : Int) = (T : Int) := by omega
  rw [hTT, hNN]
  have hT2 : T ≤ 65536 := by omega
  have hN2 : N ≤ 65536 := by omega
  have hnN : n ≤ N := by omega
  have hTN : T ≤ N := by omega
  have HTT := Lib.hid hTT; clear hTT
  have HC := Lib.hid hc; clear hc
  have HU := Lib.hid hU; clear hU
  have HS1 := Lib.hid s1; clear s1
  go_enter Try.func89, Try.ntmps89
  rw [hB]
  go_upto_region 1 with fail
  go_cut [7] (fun s7 wx => s7 = .slice (some ⟨B + 1, 0, none⟩) N N ∧ Rw wx (B + 1) (List.replicate N 0) ∧ Bx wx B 25 [.int .i64 base, .slice A n c, .slice G m d, .int .i64 cap, .int .i64 en] ∧ Below B w wx)
  case first =>
    by_cases hnT : n < T
    · have hNT : T = N := by omega
      have HNT := Lib.hid hNT; clear hNT hNN
      have hmake := run_makeB T (by omega)
      go_wp2_with fail
      go_meet
      case rel =>
        rw [← HNT.out, HS1.out]
        exact ⟨rfl, by have := Rw.new w0 (List.replicate T 0); rw [HS1.out] at this; exact this, e1.alloc _, b1.alloc (by rw [HS1.out]; omega) _⟩
    · have hNT : n = N := by omega
      have HNT := Lib.hid hNT; clear hNT hNN
      have hmake := run_makeB n (by omega)
      go_wp2_with fail
      go_meet
      case rel =>
        rw [← HNT.out, HS1.out]
        exact ⟨rfl, by have := Rw.new w0 (List.replicate n 0); rw [HS1.out] at this; exact this, e1.alloc _, b1.alloc (by rw [HS1.out]; omega) _⟩
  case rest =>
  obtain ⟨rfl, rw2, e2, b2⟩ := hcut
  rename World => w2
  clear x0 x1 hw0 e1 b1
  have x0 := e2.cell 0 rfl
  have x2 := e2.cell 2 rfl
  have hcut0 := fun w => run_cutC Try.prog 22 5 Try.underlying22 info_u8 (some ⟨B + 1, 0, none⟩) f N N w (by omega) (by omega) (Nat.le_refl _)
  have HNN := Lib.hid hNN; clear hNN
  have hTT := HTT.out
  have A1 := Lib.hid (show (lv l2).length = Nat.min n2 (N - f) by rw [lv_len, hl2]; show n2 = min n2 (N - f); omega)
  have A3 := Lib.hid (show 0 < (lv l2).length → cutA (some ⟨B + 1, 0, none⟩) f N = some ⟨B + 1, f, none⟩ ∧ ∃ ad, A2 = some ad ∧ ∀ j v, (lv l2)[j]? = some v → w2.cell? (ad.add j) = some v from fun hpos => by
    rw [lv_len, hl2] at hpos
    exact ⟨cutA_pos (by omega), src_of (hbk2 b2).rd hpos⟩)
  have A4 := Lib.hid (show f + (lv l2).length ≤ (lv (List.replicate N 0)).length by rw [lv_len, lv_len, List.length_replicate, hl2]; omega)
  clear hTT
  go_wp2_with ((refine wpList_copy_splice rfl (.tmp 27) (.tmp 28) 22 22 rfl 5 Try.underlying22 size_u8 _ _ _ _ _ _ rfl rfl (B + 1) f (lv (List.replicate N 0)) 5 rw2.eq (lv l2) A1.out A3.out A4.out (lv_one _) (B + 1) w2 (Below.refl _ _) (Nat.le_refl _) ?_); intro w3 HG3 hB3; have e3 := e2.below hB3 (show B < B + 1 by omega); have x2' := e3.cell 2 rfl)
  have rw3 : Rw w3 (B + 1) (wovB gl 0 base bl l2 f N) := by
    have := HG3.out
    rw [lv_splice, wov_zero gl base bl l2 f N (by rw [hl2, HTT.out]; exact hTN)] at this
    exact this
  have b3 := b2.trans (hB3.mono (by omega))
  clear HG3 hB3 rw2 e2 b2 x0 x2 hcut0 A1 A3 A4 x2'
  go_loopw [33] (fun i wr => ∃ k : Nat, k ≤ m ∧ i = .int .i64 (k : Int) ∧ Rw wr (B + 1) (wovB gl k base bl l2 f N) ∧ Bx wr B 25 [.int .i64 base, .slice A n c, .slice G m d, .int .i64 cap, .int .i64 en] ∧ Below B w wr) (fun i _ => m - (intOf i).toNat)
  case atStart => exact ⟨0, Nat.zero_le _, rfl, rw3, e3, b3⟩
  case round =>
    clear rw3 e3 b3
    obtain ⟨k, hk, rfl, rw4, e4, b4⟩ := hrel
    by_cases hlt : k < m
    · have hkl : k < gl.length := by omega
      obtain ⟨gb, go, hG', hgb, hgc⟩ := hg.rd.at_ (by omega)
      have c1 := (b4.cell (p := ⟨gb, go + k * 2, none⟩) (by rw [← hB]; exact hgb)).trans (hgc k hlt).1
      have d1 := (b4.cell (p := ⟨gb, go + k * 2 + 1, none⟩) (by rw [← hB]; exact hgb)).trans (hgc k hlt).2
      have hsp := (ch_split HC.out hkl).2
      have hge := last_base_ge HC.out k
      have hup : (sp gl k).2 ≤ base + n := by
        rw [← HU.out, show lastOf base gl = lastOf (base - 1) gl from last_any (fun e => by rw [e] at hkl; simp at hkl)]
        exact last_split HC.out hkl
      have hlo : base ≤ (sp gl k).1 := by
        have h3 := hsp.1
        have h4 := last_ge (chain_take HC.out k)
        omega
      have hs2 := hsp.2.1
      obtain ⟨p1, hp1⟩ : ∃ p1, (sp gl k).1 = p1 := ⟨_, rfl⟩
      obtain ⟨p2, hp2⟩ : ∃ p2, (sp gl k).2 = p2 := ⟨_, rfl⟩
      rw [hp1] at c1 hlo hs2
      rw [hp2] at d1 hup hs2
      obtain ⟨hs3, hs4, hs5⟩ := hs2
      obtain ⟨o, ho⟩ : ∃ o : Nat, p1 = base + (o : Int) := ⟨(p1 - base).toNat, by omega⟩
      obtain ⟨u, hu⟩ : ∃ u : Nat, p2 = base + (u : Int) := ⟨(p2 - base).toNat, by omega⟩
      have hou : o < u := by omega
      have hun : u ≤ n := by omega
      have q1 : IntKind.i64.wrap (p1 - base) = (o : Int) := by rw [IntWalk.i64_in _ (by omega)]; omega
      have q2 : IntKind.i64.wrap (p2 - base) = (u : Int) := by rw [IntWalk.i64_in _ (by omega)]; omega
      have hnext := wov_succ (bl := bl) (b := l2) (f := f) (N := N) HC.out hkl (o := o) (u := u) (by rw [hp1]; exact ho) (by rw [hp2]; exact hu) (by omega) (by omega)
      have hyl : ((bl.take u).drop o).length = u - o := by rw [List.length_drop, List.length_take]; omega
      obtain ⟨Y, hY⟩ : ∃ Y, (bl.take u).drop o = Y := ⟨_, rfl⟩
      obtain ⟨X, hX⟩ : ∃ X, wovB gl k base bl l2 f N = X := ⟨_, rfl⟩
      have hxl : X.length = N := by rw [← hX, wov_len]
      rw [hY] at hyl hnext
      rw [hX] at hnext rw4
      have HY := Lib.hid hY; clear hY
      have HXX := Lib.hid hX; clear hX
      have HYL := Lib.hid hyl; clear hyl
      have HXL := Lib.hid hxl; clear hxl
      have HN := Lib.hid hnext; clear hnext
      have HO := Lib.hid ho; clear ho
      have HUU := Lib.hid hu; clear hu
      have HP1 := Lib.hid hp1; clear hp1
      have HP2 := Lib.hid hp2; clear hp2
      clear hgc hsp hge
      have hcutR := fun w => run_cutC Try.prog 22 5 Try.underlying22 info_u8 (some ⟨B + 1, 0, none⟩) o N N w (by omega) (by omega) (Nat.le_refl _)
      have hcutS := fun w => run_cut2 Try.prog 22 5 Try.underlying22 info_u8 A n c o u (u - o) w (by omega) (by omega)
      obtain ⟨w6, hw6⟩ : ∃ w6, wr.alloc (.cells #[.int .i64 p1, .int .i64 p2] 60) = w6 := ⟨_, rfl⟩
      obtain ⟨Z, hZ⟩ : ∃ Z, wr.heap.size = Z := ⟨_, rfl⟩
      have e6 : Bx w6 B 25 [.int .i64 base, .slice A n c, .slice G m d, .int .i64 cap, .int .i64 en] := by rw [← hw6]; exact e4.alloc _
      have s6 : Boxed2 w6 Z 60 (.int .i64 p1) (.int .i64 p2) := by rw [← hw6, ← hZ]; exact Boxed2.new wr _ _ _
      have b6 : Below B w w6 := by rw [← hw6]; exact b4.alloc (Nat.le_of_lt e4.lt) _
      have rw6 : Rw w6 (B + 1) X := by rw [← hw6]; exact rw4.kept ((Below.refl _ _).alloc (Nat.le_refl _) _)
      have hgb' := hgb
      subst hG'
      clear rw4 e4 b4
      go_upto_region 6 with fail
      have e7 := e6.drew
      have b7 := b6.drew
      have s7 : Boxed2 w6.drew Z 60 (.int .i64 p1) (.int .i64 p2) := s6
      have rw7 : Rw w6.drew (B + 1) X := rw6
      have A1 := Lib.hid (show (lv Y).length = Nat.min (u - o) (N - o) by rw [lv_len, HYL.out]; show u - o = min (u - o) (N - o); omega)
      have A3 := Lib.hid (show 0 < (lv Y).length → cutA (some ⟨B + 1, 0, none⟩) o N = some ⟨B + 1, o, none⟩ ∧ ∃ ad, cutA A o c = some ad ∧ ∀ j v, (lv Y)[j]? = some v → w6.drew.cell? (ad.add j) = some v from fun hpos => ⟨cutA_pos (by omega), src_of (l := Y) (n := u - o) (by rw [← HY.out]; exact ((hbk b7).cut2 hun (by omega)).rd) (by omega)⟩)
      have A4 := Lib.hid (show o + (lv Y).length ≤ (lv X).length by rw [lv_len, lv_len, HXL.out, HYL.out]; omega)
      refine wp_region_tail 20 21 (fun w' : World => w'.cell? ⟨B, 0, none⟩ = some (.int .i64 base) ∧ w'.cell? ⟨B, 1, none⟩ = some (.slice A n c) ∧ w'.cell? ⟨Z, 0, none⟩ = some (.int .i64 p1) ∧ w'.cell? ⟨Z, 1, none⟩ = some (.int .i64 p2)) (by kernel_rfl) (by rfl) (by decide) ?_
      have HS : ((fun w' : World => w'.cell? ⟨B, 0, none⟩ = some (.int .i64 base) ∧ w'.cell? ⟨B, 1, none⟩ = some (.slice A n c) ∧ w'.cell? ⟨Z, 0, none⟩ = some (.int .i64 p1) ∧ w'.cell? ⟨Z, 1, none⟩ = some (.int .i64 p2))) _ := ⟨e7.cell 0 rfl, e7.cell 1 rfl, s7.fst, s7.snd⟩
      refine wpAnyT_take (i := 0) (v := ?vv8) rfl (by kernel_rfl) (fun _ _ _ h => h) (Or.inl ⟨by rfl, fun w hSw => ?yy8⟩) HS ?rr8
      case yy8 =>
        (try dsimp only at hSw); go_simp
        try with_reducible rfl
      try simp only [Act.put, List.setIfInBounds_toArray, List.set_cons_zero, List.set_cons_succ]
      refine wpAnyT_take (i := 1) (v := ?vv9) rfl (by kernel_rfl) (fun _ _ _ h => h) (Or.inl ⟨by rfl, fun w hSw => ?yy9⟩) HS ?rr9
      case yy9 =>
        (try dsimp only at hSw); go_simp
        try with_reducible rfl
      try simp only [Act.put, List.setIfInBounds_toArray, List.set_cons_zero, List.set_cons_succ]
      refine wpAnyT_take (i := 2) (v := ?vv10) rfl (by kernel_rfl) (fun _ _ _ h => h) (Or.inl ⟨by rfl, fun w hSw => ?yy10⟩) HS ?rr10
      case yy10 =>
        (try dsimp only at hSw); go_simp
        try with_reducible rfl
      try simp only [Act.put, List.setIfInBounds_toArray, List.set_cons_zero, List.set_cons_succ]
      refine wpAnyT_take (i := 3) (v := ?vv11) rfl (by kernel_rfl) (fun _ _ _ h => h) (Or.inl ⟨by rfl, fun w hSw => ?yy11⟩) HS ?rr11
      case yy11 =>
        (try dsimp only at hSw); go_simp
        try with_reducible rfl
      try simp only [Act.put, List.setIfInBounds_toArray, List.set_cons_zero, List.set_cons_succ]
      refine wpAnyT_take (i := 4) (v := ?vv12) rfl (by kernel_rfl) (fun _ _ _ h => h) (Or.inl ⟨by rfl, fun w hSw => ?yy12⟩) HS ?rr12
      case yy12 =>
        (try dsimp only at hSw); go_simp
        try with_reducible rfl
      try simp only [Act.put, List.setIfInBounds_toArray, List.set_cons_zero, List.set_cons_succ]
      refine wpAnyT_take (i := 5) (v := ?vv13) rfl (by kernel_rfl) (fun _ _ _ h => h) (Or.inl ⟨by rfl, fun w hSw => ?yy13⟩) HS ?rr13
      case yy13 =>
        (try dsimp only at hSw); go_simp
        try with_reducible rfl
      try simp only [Act.put, List.setIfInBounds_toArray, List.set_cons_zero, List.set_cons_succ]
      refine wpAnyT_take (i := 6) (v := ?vv14) rfl (by kernel_rfl) (fun _ _ _ h => h) (Or.inl ⟨by rfl, fun w hSw => ?yy14⟩) HS ?rr14
      case yy14 =>
        (try dsimp only at hSw); go_simp
        try with_reducible rfl
      try simp only [Act.put, List.setIfInBounds_toArray, List.set_cons_zero, List.set_cons_succ]
      refine wpAnyT_take (i := 7) (v := ?vv15) rfl (by kernel_rfl) (fun _ _ _ h => h) (Or.inl ⟨by rfl, fun w hSw => ?yy15⟩) HS ?rr15
      case yy15 =>
        (try dsimp only at hSw); go_simp
        try with_reducible rfl
      try simp only [Act.put, List.setIfInBounds_toArray, List.set_cons_zero, List.set_cons_succ]
      refine wpAnyT_take (i := 8) (v := ?vv16) rfl (by kernel_rfl) (fun _ _ _ h => h) (Or.inl ⟨by rfl, fun w hSw => ?yy16⟩) HS ?rr16
      case yy16 =>
        (try dsimp only at hSw); go_simp
        try with_reducible rfl
      try simp only [Act.put, List.setIfInBounds_toArray, List.set_cons_zero, List.set_cons_succ]
      refine wpAnyT_take (i := 9) (v := ?vv17) rfl (by kernel_rfl) (fun _ _ _ h => h) (Or.inl ⟨by rfl, fun w hSw => ?yy17⟩) HS ?rr17
      case yy17 =>
        (try dsimp only at hSw); go_simp
        try with_reducible rfl
      try simp only [Act.put, List.setIfInBounds_toArray, List.set_cons_zero, List.set_cons_succ]
      refine wpAnyT_take (i := 10) (v := ?vv18) rfl (by kernel_rfl) (fun _ _ _ h => h) (Or.inl ⟨by rfl, fun w hSw => ?yy18⟩) HS ?rr18
      case yy18 =>
        (try dsimp only at hSw); go_simp
        try with_reducible rfl
      try simp only [Act.put, List.setIfInBounds_toArray, List.set_cons_zero, List.set_cons_succ]
      refine wpAnyT_take (i := 11) (v := ?vv19) rfl (by kernel_rfl) (fun _ _ _ h => h) (Or.inl ⟨by rfl, fun w hSw => ?yy19⟩) HS ?rr19
      case yy19 =>
        (try dsimp only at hSw); go_simp
        try with_reducible rfl
      try simp only [Act.put, List.setIfInBounds_toArray, List.set_cons_zero, List.set_cons_succ]
      refine wpAnyT_take (i := 12) (v := ?vv20) rfl (by kernel_rfl) (fun _ _ _ h => h) (Or.inl ⟨by rfl, fun w hSw => ?yy20⟩) HS ?rr20
      case yy20 =>
        (try dsimp only at hSw); go_simp
        try with_reducible rfl
      try simp only [Act.put, List.setIfInBounds_toArray, List.set_cons_zero, List.set_cons_succ]
      refine wpAnyT_take (i := 13) (v := ?vv21) rfl (by kernel_rfl) (fun _ _ _ h => h) (Or.inl ⟨by rfl, fun w hSw => ?yy21⟩) HS ?rr21
      case yy21 =>
        (try dsimp only at hSw); go_simp
        try with_reducible rfl
      try simp only [Act.put, List.setIfInBounds_toArray, List.set_cons_zero, List.set_cons_succ]
      refine wpAnyT_take (i := 14) (v := ?vv22) rfl (by kernel_rfl) (fun _ _ _ h => h) (Or.inl ⟨by rfl, fun w hSw => ?yy22⟩) HS ?rr22
      case yy22 =>
        (try dsimp only at hSw); go_simp
        try with_reducible rfl
      try simp only [Act.put, List.setIfInBounds_toArray, List.set_cons_zero, List.set_cons_succ]
      refine wpAnyT_take (i := 15) (v := ?vv23) rfl (by kernel_rfl) (fun _ _ _ h => h) (Or.inl ⟨by rfl, fun w hSw => ?yy23⟩) HS ?rr23
      case yy23 =>
        (try dsimp only at hSw); go_simp
        try with_reducible rfl
      try simp only [Act.put, List.setIfInBounds_toArray, List.set_cons_zero, List.set_cons_succ]
      refine wpAnyT_take (i := 16) (v := ?vv24) rfl (by kernel_rfl) (fun _ _ _ h => h) (Or.inl ⟨by rfl, fun w hSw => ?yy24⟩) HS ?rr24
      case yy24 =>
        (try dsimp only at hSw); go_simp
        try with_reducible rfl
      try simp only [Act.put, List.setIfInBounds_toArray, List.set_cons_zero, List.set_cons_succ]
      refine wpAnyT_take (i := 17) (v := ?vv25) rfl (by kernel_rfl) (fun _ _ _ h => h) (Or.inl ⟨by rfl, fun w hSw => ?yy25⟩) HS ?rr25
      case yy25 =>
        (try dsimp only at hSw); go_simp
        try with_reducible rfl
      try simp only [Act.put, List.setIfInBounds_toArray, List.set_cons_zero, List.set_cons_succ]
      refine wpAnyT_take (i := 18) (v := ?vv26) rfl (by kernel_rfl) (fun _ _ _ h => h) (Or.inl ⟨by rfl, fun w hSw => ?yy26⟩) HS ?rr26
      case yy26 =>
        (try dsimp only at hSw); go_simp
        try with_reducible rfl
      try simp only [Act.put, List.setIfInBounds_toArray, List.set_cons_zero, List.set_cons_succ]
      refine wpAnyT_take (i := 19) (v := ?vv27) rfl (by kernel_rfl) (fun _ _ _ h => h) (Or.inl ⟨by rfl, fun w hSw => ?yy27⟩) HS ?rr27
      case yy27 =>
        (try dsimp only at hSw); go_simp
        try with_reducible rfl
      try simp only [Act.put, List.setIfInBounds_toArray, List.set_cons_zero, List.set_cons_succ]
      refine ⟨by kernel_rfl, ?_⟩
      simp only [List.drop_succ_cons, List.drop_zero]
      clear HS
      refine wpList_copy_splice rfl (.tmp 43) (.tmp 56) 22 22 rfl 5 Try.underlying22 size_u8 _ _ _ _ _ _ rfl rfl (B + 1) o (lv X) 5 rw7.eq (lv Y) A1.out A3.out A4.out (lv_one _) (B + 1) w6.drew (Below.refl _ _) (Nat.le_refl _) ?_
      intro w8 HG8 hB8
      have rw8 : Rw w8 (B + 1) (wovB gl (k + 1) base bl l2 f N) := by
        have := HG8.out
        rw [lv_splice, HN.out] at this
        exact this
      have e8 := e7.below hB8 (by omega)
      have b8 := b7.trans (hB8.mono (by omega))
      clear HG8 hB8 hcutR hcutS
      go_wp2_with fail
      go_roundw
      case rel => exact ⟨k + 1, by omega, by go_num, rw8, e8, b8⟩
      case measure => simp [intOf]; omega
    · obtain rfl : m = k := by omega
      go_wp2_with fail
      go_ret
      exact ⟨some ⟨B + 1, 0, none⟩, N, rfl, by rw [hgl]; exact rw4.sb (by omega) (wov_len _ _ _ _ _ _ _) (wov_small hb.rd.small hb2.rd.small) (by omega), b4⟩
end Go.Proofs.Ytggnhccpncgfiaa
