/- The reference of package weave: Shut as contracts of the calls. -/
import Derived.Test.YtgiknfmagmfniaaProg
import Derived.Test.YtgiknfmagmfniaaWeRef3
import Derived.WalkKit
import Derived.WalkSpells
import Derived.WalkSmall
import Derived.Lib.Hide
import Derived.Below
import Derived.Outline
namespace Go.Proofs.Ytgiknfmagmfniaa
open Go.RowKit
set_option linter.unusedSimpArgs false
set_option linter.unusedVariables false

set_option maxRecDepth 100000 in
set_option maxHeartbeats 4000000 in
theorem rwshut_any (base : Int) (A : Option Addr) (n c : Nat) (G : Option Addr) (m d : Nat) (cap en : Int) (bl : List Int) (gl : List Sp) (p : Int) (w : World) (hb : Sl w A n c bl) (hg : Ss w G m d gl) (hn : n ≤ 140737488355328) :
    Calls Try.prog 15 #[.agg #[.int .i64 base, .slice A n c, .slice G m d, .int .i64 cap, .int .i64 en], .int .i64 p] w fun e w' => TellW w w' e (wshutR ⟨base, bl, gl, cap, en⟩ p) := by
  unfold TellW
  have hbl := hb.rd.len
  have hgl := hg.rd.len
  obtain ⟨B, hB⟩ : ∃ B, w.heap.size = B := ⟨_, rfl⟩
  have e0 := (Bx.new w 25 [.int .i64 base, .slice A n c, .slice G m d, .int .i64 cap, .int .i64 en]).alloc (.cells #[.int .i64 0, .slice none 0 0, .slice none 0 0, .int .i64 0, .int .i64 0] 25)
  have r0 := Bx.new (w.alloc (.cells #[.int .i64 base, .slice A n c, .slice G m d, .int .i64 cap, .int .i64 en] 25)) 25 [.int .i64 0, .slice none 0 0, .slice none 0 0, .int .i64 0, .int .i64 0]
  have hb0 : Below w.heap.size w ((w.alloc (.cells #[.int .i64 base, .slice A n c, .slice G m d, .int .i64 cap, .int .i64 en] 25)).alloc (.cells #[.int .i64 0, .slice none 0 0, .slice none 0 0, .int .i64 0, .int .i64 0] 25)) := ((Below.refl _ _).alloc (Nat.le_refl _) _).alloc (by simp) _
  rw [World.size_alloc] at r0
  rw [hB] at e0 r0 hb0
  obtain ⟨w0, hw0⟩ : ∃ w0, (w.alloc (.cells #[.int .i64 base, .slice A n c, .slice G m d, .int .i64 cap, .int .i64 en] 25)).alloc (.cells #[.int .i64 0, .slice none 0 0, .slice none 0 0, .int .i64 0, .int .i64 0] 25) = w0 := ⟨_, rfl⟩
  have e0' : Bx w0 B 25 [.int .i64 base, .slice A n c, .slice G m d, .int .i64 cap, .int .i64 en] := by rw [← hw0]; exact e0
  have r0' : Bx w0 (B + 1) 25 [.int .i64 0, .slice none 0 0, .slice none 0 0, .int .i64 0, .int .i64 0] := by rw [← hw0]; exact r0
  have hb0' : Below B w w0 := by rw [← hw0]; exact hb0
  clear e0 r0 hb0
  have hbk : ∀ {w' : World}, Below B w w' → Sl w' A n c bl := fun h => hb.keep (by rw [hB]; exact h)
  have hgk : ∀ {w' : World}, Below B w w' → Ss w' G m d gl := fun h => hg.keep (by rw [hB]; exact h)
  have hmay := rwmay_any base A n c G m d cap en bl gl _ (hbk hb0') (hgk hb0') hn
  have x0 := e0'.cell 0 rfl
  have x1 := e0'.cell 1 rfl
  have x2 := e0'.cell 2 rfl
  have x3 := e0'.cell 3 rfl
  have x4 := e0'.cell 4 rfl
  rcases shut_cases ⟨base, bl, gl, cap, en⟩ p with ⟨hx, hnv⟩ | ⟨hx, ⟨hv, hp0, hp1⟩, hc⟩ | ⟨hx, ⟨hv, hp0, hp1⟩, hc⟩
  · rw [zw_lit] at hx
    rw [hx]
    clear hx
    have HN := Lib.hid hnv; clear hnv
    go_enter Try.func15, Try.ntmps15
    rw [hB]
    go_wp2_with fail
    refine hmay.mono ?_
    rintro e w1 ⟨he, hb1⟩
    clear x0 x1 x2 x3 x4
    have e1 := e0'.kept hb1
    have r1 := r0'.kept hb1
    have b1 := hb0'.trans (hb1.mono (Nat.le_of_lt e0'.lt))
    have x0 := e1.cell 0 rfl
    have x1 := e1.cell 1 rfl
    have x2 := e1.cell 2 rfl
    have x3 := e1.cell 3 rfl
    have x4 := e1.cell 4 rfl
    cases hk : wmay ⟨base, bl, gl, cap, en⟩ with
    | false =>
      rw [hk] at he; subst he
      have t0 := r1.cell 0 rfl
      have t1 := r1.cell 1 rfl
      have t2 := r1.cell 2 rfl
      have t3 := r1.cell 3 rfl
      have t4 := r1.cell 4 rfl
      have tf0 := r1.free 0
      have tf1 := r1.free 1
      have tf2 := r1.free 2
      have tf3 := r1.free 3
      have tf4 := r1.free 4
      go_wp2_with fail
      have OV := (((((r1.set 0 (.int .i64 0)).set 1 (.slice none 0 0)).set 2 (.slice none 0 0)).set 3 (.int .i64 0)).set 4 (.int .i64 0))
      have y0 := OV.cell 0 rfl
      have y1 := OV.cell 1 rfl
      have y2 := OV.cell 2 rfl
      have y3 := OV.cell 3 rfl
      have y4 := OV.cell 4 rfl
      have bz := (((((b1.setCell (p := ⟨B + 1, 0, none⟩) (by simp) (.int .i64 0)).setCell (p := ⟨B + 1, 1, none⟩) (by simp) (.slice none 0 0)).setCell (p := ⟨B + 1, 2, none⟩) (by simp) (.slice none 0 0)).setCell (p := ⟨B + 1, 3, none⟩) (by simp) (.int .i64 0)).setCell (p := ⟨B + 1, 4, none⟩) (by simp) (.int .i64 0))
      exact bodyPost_ret (v := .tuple #[.agg #[.int .i64 0, .slice none 0 0, .slice none 0 0, .int .i64 0, .int .i64 0], .int .i64 1]) (by simp [results, Try.results15, go_sem, y0, y1, y2, y3, y4]) rfl ⟨none, 0, 0, none, 0, 0, rfl, Sb.none _ _, Sq.none _ _, bz⟩
    | true =>
      rw [hk] at he; subst he
      have hnp : p < 0 ∨ 2305843009213693952 < p := by
        have := HN.out
        have hv := (wmay_iff _).1 hk
        rcases Int.lt_or_le p 0 with h | h
        · exact .inl h
        · rcases Int.lt_or_le 2305843009213693952 p with h2 | h2
          · exact .inr h2
          · exact absurd ⟨hv, h, h2⟩ this
      have HK := Lib.hid hk; clear hk
      have t0 := r1.cell 0 rfl
      have t1 := r1.cell 1 rfl
      have t2 := r1.cell 2 rfl
      have t3 := r1.cell 3 rfl
      have t4 := r1.cell 4 rfl
      have tf0 := r1.free 0
      have tf1 := r1.free 1
      have tf2 := r1.free 2
      have tf3 := r1.free 3
      have tf4 := r1.free 4
      rcases hnp with hp | hp
      · go_wp2_with fail
        have OV := (((((r1.set 0 (.int .i64 0)).set 1 (.slice none 0 0)).set 2 (.slice none 0 0)).set 3 (.int .i64 0)).set 4 (.int .i64 0))
        have y0 := OV.cell 0 rfl
        have y1 := OV.cell 1 rfl
        have y2 := OV.cell 2 rfl
        have y3 := OV.cell 3 rfl
        have y4 := OV.cell 4 rfl
        have bz := (((((b1.setCell (p := ⟨B + 1, 0, none⟩) (by simp) (.int .i64 0)).setCell (p := ⟨B + 1, 1, none⟩) (by simp) (.slice none 0 0)).setCell (p := ⟨B + 1, 2, none⟩) (by simp) (.slice none 0 0)).setCell (p := ⟨B + 1, 3, none⟩) (by simp) (.int .i64 0)).setCell (p := ⟨B + 1, 4, none⟩) (by simp) (.int .i64 0))
        exact bodyPost_ret (v := .tuple #[.agg #[.int .i64 0, .slice none 0 0, .slice none 0 0, .int .i64 0, .int .i64 0], .int .i64 1]) (by simp [results, Try.results15, go_sem, y0, y1, y2, y3, y4]) rfl ⟨none, 0, 0, none, 0, 0, rfl, Sb.none _ _, Sq.none _ _, bz⟩
      · have hp' : ¬ p < 0 := by omega
        go_wp2_with fail
        have OV := (((((r1.set 0 (.int .i64 0)).set 1 (.slice none 0 0)).set 2 (.slice none 0 0)).set 3 (.int .i64 0)).set 4 (.int .i64 0))
        have y0 := OV.cell 0 rfl
        have y1 := OV.cell 1 rfl
        have y2 := OV.cell 2 rfl
        have y3 := OV.cell 3 rfl
        have y4 := OV.cell 4 rfl
        have bz := (((((b1.setCell (p := ⟨B + 1, 0, none⟩) (by simp) (.int .i64 0)).setCell (p := ⟨B + 1, 1, none⟩) (by simp) (.slice none 0 0)).setCell (p := ⟨B + 1, 2, none⟩) (by simp) (.slice none 0 0)).setCell (p := ⟨B + 1, 3, none⟩) (by simp) (.int .i64 0)).setCell (p := ⟨B + 1, 4, none⟩) (by simp) (.int .i64 0))
        exact bodyPost_ret (v := .tuple #[.agg #[.int .i64 0, .slice none 0 0, .slice none 0 0, .int .i64 0, .int .i64 0], .int .i64 1]) (by simp [results, Try.results15, go_sem, y0, y1, y2, y3, y4]) rfl ⟨none, 0, 0, none, 0, 0, rfl, Sb.none _ _, Sq.none _ _, bz⟩
  · rw [zw_lit] at hx
    rw [hx]
    clear hx
    go_enter Try.func15, Try.ntmps15
    rw [hB]
    go_wp2_with fail
    refine hmay.mono ?_
    rintro e w1 ⟨he, hb1⟩
    clear x0 x1 x2 x3 x4
    have e1 := e0'.kept hb1
    have r1 := r0'.kept hb1
    have b1 := hb0'.trans (hb1.mono (Nat.le_of_lt e0'.lt))
    have x0 := e1.cell 0 rfl
    have x1 := e1.cell 1 rfl
    have x2 := e1.cell 2 rfl
    have x3 := e1.cell 3 rfl
    have x4 := e1.cell 4 rfl
    rw [(wmay_iff _).2 hv] at he; subst he
    have hup := rupto_any base A n c G m d cap en gl
    obtain ⟨U, hU⟩ : ∃ U, lastOf base gl = U := ⟨_, rfl⟩
    rw [show upW ⟨base, bl, gl, cap, en⟩ = lastOf base gl from rfl, hU] at hc
    rw [hU] at hup
    try simp only at hc
    have HU := Lib.hid hU; clear hU hv
    have t0 := r1.cell 0 rfl
    have t1 := r1.cell 1 rfl
    have t2 := r1.cell 2 rfl
    have t3 := r1.cell 3 rfl
    have t4 := r1.cell 4 rfl
    have tf0 := r1.free 0
    have tf1 := r1.free 1
    have tf2 := r1.free 2
    have tf3 := r1.free 3
    have tf4 := r1.free 4
    by_cases h1 : 0 ≤ en ∧ en ≠ p
    · obtain ⟨h2, h3⟩ := h1
      have h4 : (en != p) = true := by simpa using h3
      clear hc
      go_wp2_with fail
      have OV := (((((r1.set 0 (.int .i64 0)).set 1 (.slice none 0 0)).set 2 (.slice none 0 0)).set 3 (.int .i64 0)).set 4 (.int .i64 0))
      have y0 := OV.cell 0 rfl
      have y1 := OV.cell 1 rfl
      have y2 := OV.cell 2 rfl
      have y3 := OV.cell 3 rfl
      have y4 := OV.cell 4 rfl
      have bz := (((((b1.setCell (p := ⟨B + 1, 0, none⟩) (by simp) (.int .i64 0)).setCell (p := ⟨B + 1, 1, none⟩) (by simp) (.slice none 0 0)).setCell (p := ⟨B + 1, 2, none⟩) (by simp) (.slice none 0 0)).setCell (p := ⟨B + 1, 3, none⟩) (by simp) (.int .i64 0)).setCell (p := ⟨B + 1, 4, none⟩) (by simp) (.int .i64 0))
      exact bodyPost_ret (v := .tuple #[.agg #[.int .i64 0, .slice none 0 0, .slice none 0 0, .int .i64 0, .int .i64 0], .int .i64 5]) (by simp [results, Try.results15, go_sem, y0, y1, y2, y3, y4]) rfl ⟨none, 0, 0, none, 0, 0, rfl, Sb.none _ _, Sq.none _ _, bz⟩
    · have h5 : p < U := by omega
      clear hc
      rcases Int.lt_or_le en 0 with h | h
      · have h' : ¬ (0 ≤ en) := by omega
        go_wp2_with fail
        refine (hup _ (hgk b1)).mono ?_
        rintro e w2 ⟨rfl, hb2⟩
        clear x0 x1 x2 x3 x4
        have e2 := e1.kept hb2
        have r2 := r1.kept hb2
        have b2 := b1.trans (hb2.mono (Nat.le_of_lt e1.lt))
        have t0 := r2.cell 0 rfl
        have t1 := r2.cell 1 rfl
        have t2 := r2.cell 2 rfl
        have t3 := r2.cell 3 rfl
        have t4 := r2.cell 4 rfl
        have tf0 := r2.free 0
        have tf1 := r2.free 1
        have tf2 := r2.free 2
        have tf3 := r2.free 3
        have tf4 := r2.free 4
        go_wp2_with fail
        have OV := (((((r2.set 0 (.int .i64 0)).set 1 (.slice none 0 0)).set 2 (.slice none 0 0)).set 3 (.int .i64 0)).set 4 (.int .i64 0))
        have y0 := OV.cell 0 rfl
        have y1 := OV.cell 1 rfl
        have y2 := OV.cell 2 rfl
        have y3 := OV.cell 3 rfl
        have y4 := OV.cell 4 rfl
        have bz := (((((b2.setCell (p := ⟨B + 1, 0, none⟩) (by simp) (.int .i64 0)).setCell (p := ⟨B + 1, 1, none⟩) (by simp) (.slice none 0 0)).setCell (p := ⟨B + 1, 2, none⟩) (by simp) (.slice none 0 0)).setCell (p := ⟨B + 1, 3, none⟩) (by simp) (.int .i64 0)).setCell (p := ⟨B + 1, 4, none⟩) (by simp) (.int .i64 0))
        exact bodyPost_ret (v := .tuple #[.agg #[.int .i64 0, .slice none 0 0, .slice none 0 0, .int .i64 0, .int .i64 0], .int .i64 5]) (by simp [results, Try.results15, go_sem, y0, y1, y2, y3, y4]) rfl ⟨none, 0, 0, none, 0, 0, rfl, Sb.none _ _, Sq.none _ _, bz⟩
      · have h6 : (en != p) = false := by simp; omega
        clear h1
        go_wp2_with fail
        refine (hup _ (hgk b1)).mono ?_
        rintro e w2 ⟨rfl, hb2⟩
        clear x0 x1 x2 x3 x4
        have e2 := e1.kept hb2
        have r2 := r1.kept hb2
        have b2 := b1.trans (hb2.mono (Nat.le_of_lt e1.lt))
        have t0 := r2.cell 0 rfl
        have t1 := r2.cell 1 rfl
        have t2 := r2.cell 2 rfl
        have t3 := r2.cell 3 rfl
        have t4 := r2.cell 4 rfl
        have tf0 := r2.free 0
        have tf1 := r2.free 1
        have tf2 := r2.free 2
        have tf3 := r2.free 3
        have tf4 := r2.free 4
        go_wp2_with fail
        have OV := (((((r2.set 0 (.int .i64 0)).set 1 (.slice none 0 0)).set 2 (.slice none 0 0)).set 3 (.int .i64 0)).set 4 (.int .i64 0))
        have y0 := OV.cell 0 rfl
        have y1 := OV.cell 1 rfl
        have y2 := OV.cell 2 rfl
        have y3 := OV.cell 3 rfl
        have y4 := OV.cell 4 rfl
        have bz := (((((b2.setCell (p := ⟨B + 1, 0, none⟩) (by simp) (.int .i64 0)).setCell (p := ⟨B + 1, 1, none⟩) (by simp) (.slice none 0 0)).setCell (p := ⟨B + 1, 2, none⟩) (by simp) (.slice none 0 0)).setCell (p := ⟨B + 1, 3, none⟩) (by simp) (.int .i64 0)).setCell (p := ⟨B + 1, 4, none⟩) (by simp) (.int .i64 0))
        exact bodyPost_ret (v := .tuple #[.agg #[.int .i64 0, .slice none 0 0, .slice none 0 0, .int .i64 0, .int .i64 0], .int .i64 5]) (by simp [results, Try.results15, go_sem, y0, y1, y2, y3, y4]) rfl ⟨none, 0, 0, none, 0, 0, rfl, Sb.none _ _, Sq.none _ _, bz⟩
  · rw [hx]
    clear hx
    go_enter Try.func15, Try.ntmps15
    rw [hB]
    go_wp2_with fail
    refine hmay.mono ?_
    rintro e w1 ⟨he, hb1⟩
    clear x0 x1 x2 x3 x4
    have e1 := e0'.kept hb1
    have r1 := r0'.kept hb1
    have b1 := hb0'.trans (hb1.mono (Nat.le_of_lt e0'.lt))
    have x0 := e1.cell 0 rfl
    have x1 := e1.cell 1 rfl
    have x2 := e1.cell 2 rfl
    have x3 := e1.cell 3 rfl
    have x4 := e1.cell 4 rfl
    rw [(wmay_iff _).2 hv] at he; subst he
    have hup := rupto_any base A n c G m d cap en gl
    obtain ⟨U, hU⟩ : ∃ U, lastOf base gl = U := ⟨_, rfl⟩
    rw [show upW ⟨base, bl, gl, cap, en⟩ = lastOf base gl from rfl, hU] at hc
    rw [hU] at hup
    try simp only at hc
    have hns : n ≤ 1000000 := by have := b_small hv; rw [show (⟨base, bl, gl, cap, en⟩ : Wv).b = bl from rfl, hbl] at this; omega
    have hms : m ≤ 1000000 := by have := hv.len; rw [show (⟨base, bl, gl, cap, en⟩ : Wv).got = gl from rfl, hgl] at this; omega
    have HU := Lib.hid hU; clear hU hv
    have h5 : ¬ (p < U) := by omega
    rcases Int.lt_or_le en 0 with h | h
    · have h' : ¬ (0 ≤ en) := by omega
      clear hc
      go_wp2_with fail
      refine (hup _ (hgk b1)).mono ?_
      rintro e w2 ⟨rfl, hb2⟩
      clear x0 x1 x2 x3 x4
      have e2 := e1.kept hb2
      have r2 := r1.kept hb2
      have b2 := b1.trans (hb2.mono (Nat.le_of_lt e1.lt))
      have x0 := e2.cell 0 rfl
      have x1 := e2.cell 1 rfl
      have x2 := e2.cell 2 rfl
      have x3 := e2.cell 3 rfl
      have x4 := e2.cell 4 rfl
      go_wp2_with fail
      refine (rwown_any base A n c G m d cap en bl gl _ (hbk b2) (hgk b2) hns hms).mono ?_
      rintro e w3 ⟨R, q, H, r, rfl, gt, sq, hb3⟩
      clear x0 x1 x2 x3 x4
      have e3 := e2.kept hb3
      have r3 := r2.kept hb3
      have b3 := b2.trans (hb3.mono (Nat.le_of_lt e2.lt))
      have oa := Bx.new w3 25 [.int .i64 base, .slice R n q, .slice H m r, .int .i64 cap, .int .i64 en]
      have oc := oa.cell 4 rfl
      have of := oa.free 4
      have ob := Bx.new w3 25 [.int .i64 base, .slice R n q, .slice H m r, .int .i64 cap, .int .i64 p]
      have u0 := ob.cell 0 rfl
      have u1 := ob.cell 1 rfl
      have u2 := ob.cell 2 rfl
      have u3 := ob.cell 3 rfl
      have u4 := ob.cell 4 rfl
      have r4 := r3.alloc (.cells #[.int .i64 base, .slice R n q, .slice H m r, .int .i64 cap, .int .i64 p] 25)
      have t0 := r4.cell 0 rfl
      have t1 := r4.cell 1 rfl
      have t2 := r4.cell 2 rfl
      have t3 := r4.cell 3 rfl
      have t4 := r4.cell 4 rfl
      have tf0 := r4.free 0
      have tf1 := r4.free 1
      have tf2 := r4.free 2
      have tf3 := r4.free 3
      have tf4 := r4.free 4
      have b4 := b3.alloc (Nat.le_of_lt e3.lt) (.cells #[.int .i64 base, .slice R n q, .slice H m r, .int .i64 cap, .int .i64 p] 25)
      have hba := (Below.refl w3.heap.size w3).alloc (Nat.le_refl _) (.cells #[.int .i64 base, .slice R n q, .slice H m r, .int .i64 cap, .int .i64 p] 25)
      have s4 := gt.sb'.keep hba
      have q4 := sq.keep hba
      have hr2 := r2.lt
      go_wp2_with fail
      have OV := (((((r4.set 0 (.int .i64 base)).set 1 (.slice R n q)).set 2 (.slice H m r)).set 3 (.int .i64 cap)).set 4 (.int .i64 p))
      have y0 := OV.cell 0 rfl
      have y1 := OV.cell 1 rfl
      have y2 := OV.cell 2 rfl
      have y3 := OV.cell 3 rfl
      have y4 := OV.cell 4 rfl
      have bz := (((((b4.setCell (p := ⟨B + 1, 0, none⟩) (by simp) (.int .i64 base)).setCell (p := ⟨B + 1, 1, none⟩) (by simp) (.slice R n q)).setCell (p := ⟨B + 1, 2, none⟩) (by simp) (.slice H m r)).setCell (p := ⟨B + 1, 3, none⟩) (by simp) (.int .i64 cap)).setCell (p := ⟨B + 1, 4, none⟩) (by simp) (.int .i64 p))
      have sz := (((((s4.set (p := ⟨B + 1, 0, none⟩) hr2 (.int .i64 base)).set (p := ⟨B + 1, 1, none⟩) hr2 (.slice R n q)).set (p := ⟨B + 1, 2, none⟩) hr2 (.slice H m r)).set (p := ⟨B + 1, 3, none⟩) hr2 (.int .i64 cap)).set (p := ⟨B + 1, 4, none⟩) hr2 (.int .i64 p))
      have qz := (((((q4.set (p := ⟨B + 1, 0, none⟩) hr2 (.int .i64 base)).set (p := ⟨B + 1, 1, none⟩) hr2 (.slice R n q)).set (p := ⟨B + 1, 2, none⟩) hr2 (.slice H m r)).set (p := ⟨B + 1, 3, none⟩) hr2 (.int .i64 cap)).set (p := ⟨B + 1, 4, none⟩) hr2 (.int .i64 p))
      exact bodyPost_ret (v := .tuple #[.agg #[.int .i64 base, .slice R n q, .slice H m r, .int .i64 cap, .int .i64 p], .int .i64 0]) (by simp [results, Try.results15, go_sem, y0, y1, y2, y3, y4]) rfl ⟨R, n, q, H, m, r, rfl, sz.mono (Nat.le_of_lt e2.lt), qz.mono (Nat.le_of_lt e2.lt), bz⟩
    · have h6 : (en != p) = false := by simp; omega
      clear hc
      go_wp2_with fail
      refine (hup _ (hgk b1)).mono ?_
      rintro e w2 ⟨rfl, hb2⟩
      clear x0 x1 x2 x3 x4
      have e2 := e1.kept hb2
      have r2 := r1.kept hb2
      have b2 := b1.trans (hb2.mono (Nat.le_of_lt e1.lt))
      have x0 := e2.cell 0 rfl
      have x1 := e2.cell 1 rfl
      have x2 := e2.cell 2 rfl
      have x3 := e2.cell 3 rfl
      have x4 := e2.cell 4 rfl
      go_wp2_with fail
      refine (rwown_any base A n c G m d cap en bl gl _ (hbk b2) (hgk b2) hns hms).mono ?_
      rintro e w3 ⟨R, q, H, r, rfl, gt, sq, hb3⟩
      clear x0 x1 x2 x3 x4
      have e3 := e2.kept hb3
      have r3 := r2.kept hb3
      have b3 := b2.trans (hb3.mono (Nat.le_of_lt e2.lt))
      have oa := Bx.new w3 25 [.int .i64 base, .slice R n q, .slice H m r, .int .i64 cap, .int .i64 en]
      have oc := oa.cell 4 rfl
      have of := oa.free 4
      have ob := Bx.new w3 25 [.int .i64 base, .slice R n q, .slice H m r, .int .i64 cap, .int .i64 p]
      have u0 := ob.cell 0 rfl
      have u1 := ob.cell 1 rfl
      have u2 := ob.cell 2 rfl
      have u3 := ob.cell 3 rfl
      have u4 := ob.cell 4 rfl
      have r4 := r3.alloc (.cells #[.int .i64 base, .slice R n q, .slice H m r, .int .i64 cap, .int .i64 p] 25)
      have t0 := r4.cell 0 rfl
      have t1 := r4.cell 1 rfl
      have t2 := r4.cell 2 rfl
      have t3 := r4.cell 3 rfl
      have t4 := r4.cell 4 rfl
      have tf0 := r4.free 0
      have tf1 := r4.free 1
      have tf2 := r4.free 2
      have tf3 := r4.free 3
      have tf4 := r4.free 4
      have b4 := b3.alloc (Nat.le_of_lt e3.lt) (.cells #[.int .i64 base, .slice R n q, .slice H m r, .int .i64 cap, .int .i64 p] 25)
      have hba := (Below.refl w3.heap.size w3).alloc (Nat.le_refl _) (.cells #[.int .i64 base, .slice R n q, .slice H m r, .int .i64 cap, .int .i64 p] 25)
      have s4 := gt.sb'.keep hba
      have q4 := sq.keep hba
      have hr2 := r2.lt
      go_wp2_with fail
      have OV := (((((r4.set 0 (.int .i64 base)).set 1 (.slice R n q)).set 2 (.slice H m r)).set 3 (.int .i64 cap)).set 4 (.int .i64 p))
      have y0 := OV.cell 0 rfl
      have y1 := OV.cell 1 rfl
      have y2 := OV.cell 2 rfl
      have y3 := OV.cell 3 rfl
      have y4 := OV.cell 4 rfl
      have bz := (((((b4.setCell (p := ⟨B + 1, 0, none⟩) (by simp) (.int .i64 base)).setCell (p := ⟨B + 1, 1, none⟩) (by simp) (.slice R n q)).setCell (p := ⟨B + 1, 2, none⟩) (by simp) (.slice H m r)).setCell (p := ⟨B + 1, 3, none⟩) (by simp) (.int .i64 cap)).setCell (p := ⟨B + 1, 4, none⟩) (by simp) (.int .i64 p))
      have sz := (((((s4.set (p := ⟨B + 1, 0, none⟩) hr2 (.int .i64 base)).set (p := ⟨B + 1, 1, none⟩) hr2 (.slice R n q)).set (p := ⟨B + 1, 2, none⟩) hr2 (.slice H m r)).set (p := ⟨B + 1, 3, none⟩) hr2 (.int .i64 cap)).set (p := ⟨B + 1, 4, none⟩) hr2 (.int .i64 p))
      have qz := (((((q4.set (p := ⟨B + 1, 0, none⟩) hr2 (.int .i64 base)).set (p := ⟨B + 1, 1, none⟩) hr2 (.slice R n q)).set (p := ⟨B + 1, 2, none⟩) hr2 (.slice H m r)).set (p := ⟨B + 1, 3, none⟩) hr2 (.int .i64 cap)).set (p := ⟨B + 1, 4, none⟩) hr2 (.int .i64 p))
      exact bodyPost_ret (v := .tuple #[.agg #[.int .i64 base, .slice R n q, .slice H m r, .int .i64 cap, .int .i64 p], .int .i64 0]) (by simp [results, Try.results15, go_sem, y0, y1, y2, y3, y4]) rfl ⟨R, n, q, H, m, r, rfl, sz.mono (Nat.le_of_lt e2.lt), qz.mono (Nat.le_of_lt e2.lt), bz⟩
end Go.Proofs.Ytgiknfmagmfniaa
