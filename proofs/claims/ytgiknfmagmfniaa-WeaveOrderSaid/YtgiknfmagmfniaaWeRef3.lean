/- The reference of package weave: New, Edge, Over, Ready, Shut, Same as contracts of the calls. -/
import Derived.Test.YtgiknfmagmfniaaProg
import Derived.Test.YtgiknfmagmfniaaWeOwn
import Derived.WalkKit
import Derived.WalkSpells
import Derived.WalkSmall
import Derived.Lib.Hide
import Derived.Below
import Derived.Outline
namespace Go.Proofs.Ytgiknfmagmfniaa
open Go.RowKit
set_option linter.unusedSimpArgs false
set_option linter.unusedVariables false

/-- what a call tells that hands back a buffer and an error -/
def TellW (w w' : World) (e : Ending) (x : Wv × Int) : Prop := ∃ R m d G k q, e = .returned (.tuple #[.agg #[.int .i64 x.1.base, .slice R m d, .slice G k q, .int .i64 x.1.cap, .int .i64 x.1.en], .int .i64 x.2]) ∧ Sb w' w.heap.size R m d x.1.b ∧ Sq w' w.heap.size G k q x.1.got ∧ Below w.heap.size w w'
theorem ret_i {a b : Int} (h : a = b) : Ending.returned (.int .i64 a) = .returned (.int .i64 b) := by rw [h]
theorem zw_lit : zw = ⟨0, [], [], 0, 0⟩ := rfl

set_option maxHeartbeats 1000000 in
theorem rnew_any (room : Int) (w : World) :
    Calls Try.prog 20 #[.int .i64 room] w fun e w' => TellW w w' e (newR room) := by
  unfold TellW
  have e0 := Bx.new w 25 [.int .i64 0, .slice none 0 0, .slice none 0 0, .int .i64 0, .int .i64 0]
  have hb0 : Below w.heap.size w (w.alloc (.cells #[.int .i64 0, .slice none 0 0, .slice none 0 0, .int .i64 0, .int .i64 0] 25)) := (Below.refl _ _).alloc (Nat.le_refl _) _
  by_cases h0 : 0 ≤ room
  · by_cases h1 : room ≤ 65536
    · have hx : newR room = (⟨0, [], [], room, -1⟩, 0) := by unfold newR; rw [if_pos ⟨h0, h1⟩]
      rw [hx]
      have x0 := e0.cell 0 rfl
      have x1 := e0.cell 1 rfl
      have x2 := e0.cell 2 rfl
      have x3 := e0.cell 3 rfl
      have x4 := e0.cell 4 rfl
      have xf0 := e0.free 0
      have xf1 := e0.free 1
      have xf2 := e0.free 2
      have xf3 := e0.free 3
      have xf4 := e0.free 4
      have OV := Bx.new w 25 [.int .i64 0, .slice none 0 0, .slice none 0 0, .int .i64 room, .int .i64 (-1)]
      have y0 := OV.cell 0 rfl
      have y1 := OV.cell 1 rfl
      have y2 := OV.cell 2 rfl
      have y3 := OV.cell 3 rfl
      have y4 := OV.cell 4 rfl
      have bz : Below w.heap.size w (w.alloc (.cells #[.int .i64 0, .slice none 0 0, .slice none 0 0, .int .i64 room, .int .i64 (-1)] 25)) := (Below.refl _ _).alloc (Nat.le_refl _) _
      go_enter Try.func20, Try.ntmps20
      go_wp2
      exact bodyPost_ret (v := .tuple #[.agg #[.int .i64 0, .slice none 0 0, .slice none 0 0, .int .i64 room, .int .i64 (-1)], .int .i64 0]) (by simp [results, Try.results20, go_sem, y0, y1, y2, y3, y4]) rfl ⟨none, 0, 0, none, 0, 0, rfl, Sb.none _ _, Sq.none _ _, bz⟩
    · have hx : newR room = (⟨0, [], [], 0, 0⟩, 1) := by unfold newR; rw [if_neg (fun h => h1 h.2)]; rfl
      rw [hx]
      have h1' : 65536 < room := by omega
      have x0 := e0.cell 0 rfl
      have x1 := e0.cell 1 rfl
      have x2 := e0.cell 2 rfl
      have x3 := e0.cell 3 rfl
      have x4 := e0.cell 4 rfl
      have xf0 := e0.free 0
      have xf1 := e0.free 1
      have xf2 := e0.free 2
      have xf3 := e0.free 3
      have xf4 := e0.free 4
      have OV := Bx.new w 25 [.int .i64 0, .slice none 0 0, .slice none 0 0, .int .i64 0, .int .i64 0]
      have y0 := OV.cell 0 rfl
      have y1 := OV.cell 1 rfl
      have y2 := OV.cell 2 rfl
      have y3 := OV.cell 3 rfl
      have y4 := OV.cell 4 rfl
      have bz : Below w.heap.size w (w.alloc (.cells #[.int .i64 0, .slice none 0 0, .slice none 0 0, .int .i64 0, .int .i64 0] 25)) := (Below.refl _ _).alloc (Nat.le_refl _) _
      go_enter Try.func20, Try.ntmps20
      go_wp2
      exact bodyPost_ret (v := .tuple #[.agg #[.int .i64 0, .slice none 0 0, .slice none 0 0, .int .i64 0, .int .i64 0], .int .i64 1]) (by simp [results, Try.results20, go_sem, y0, y1, y2, y3, y4]) rfl ⟨none, 0, 0, none, 0, 0, rfl, Sb.none _ _, Sq.none _ _, bz⟩
  · have hx : newR room = (⟨0, [], [], 0, 0⟩, 1) := by unfold newR; rw [if_neg (fun h => h0 h.1)]; rfl
    rw [hx]
    have h0' : room < 0 := by omega
    have x0 := e0.cell 0 rfl
    have x1 := e0.cell 1 rfl
    have x2 := e0.cell 2 rfl
    have x3 := e0.cell 3 rfl
    have x4 := e0.cell 4 rfl
    have xf0 := e0.free 0
    have xf1 := e0.free 1
    have xf2 := e0.free 2
    have xf3 := e0.free 3
    have xf4 := e0.free 4
    have OV := Bx.new w 25 [.int .i64 0, .slice none 0 0, .slice none 0 0, .int .i64 0, .int .i64 0]
    have y0 := OV.cell 0 rfl
    have y1 := OV.cell 1 rfl
    have y2 := OV.cell 2 rfl
    have y3 := OV.cell 3 rfl
    have y4 := OV.cell 4 rfl
    have bz : Below w.heap.size w (w.alloc (.cells #[.int .i64 0, .slice none 0 0, .slice none 0 0, .int .i64 0, .int .i64 0] 25)) := (Below.refl _ _).alloc (Nat.le_refl _) _
    go_enter Try.func20, Try.ntmps20
    go_wp2
    exact bodyPost_ret (v := .tuple #[.agg #[.int .i64 0, .slice none 0 0, .slice none 0 0, .int .i64 0, .int .i64 0], .int .i64 1]) (by simp [results, Try.results20, go_sem, y0, y1, y2, y3, y4]) rfl ⟨none, 0, 0, none, 0, 0, rfl, Sb.none _ _, Sq.none _ _, bz⟩

set_option maxHeartbeats 1000000 in
theorem rwedge_any (base : Int) (A : Option Addr) (n c : Nat) (G : Option Addr) (m d : Nat) (cap en : Int) (bl : List Int) (gl : List Sp) (w : World) (hb : Sl w A n c bl) (hg : Ss w G m d gl) (hn : n ≤ 140737488355328) :
    Calls Try.prog 26 #[.agg #[.int .i64 base, .slice A n c, .slice G m d, .int .i64 cap, .int .i64 en]] w fun e w' => e = .returned (.int .i64 (edgeR ⟨base, bl, gl, cap, en⟩)) ∧ Below w.heap.size w w' := by
  have hbl := hb.rd.len
  have hgl := hg.rd.len
  have e0 := Bx.new w 25 [.int .i64 base, .slice A n c, .slice G m d, .int .i64 cap, .int .i64 en]
  have hb0 : Below w.heap.size w (w.alloc (.cells #[.int .i64 base, .slice A n c, .slice G m d, .int .i64 cap, .int .i64 en] 25)) := (Below.refl _ _).alloc (Nat.le_refl _) _
  have x0 := e0.cell 0 rfl
  have x1 := e0.cell 1 rfl
  have x2 := e0.cell 2 rfl
  have x3 := e0.cell 3 rfl
  have x4 := e0.cell 4 rfl
  have hmay := rwmay_any base A n c G m d cap en bl gl _ (hb.keep hb0) (hg.keep hb0) hn
  go_enter Try.func26, Try.ntmps26
  go_wp2_with fail
  refine hmay.mono ?_
  rintro e w1 ⟨he, hb1⟩
  clear x0 x1 x2 x3 x4
  have e1 := e0.kept hb1
  have x0 := e1.cell 0 rfl
  have x1 := e1.cell 1 rfl
  have x2 := e1.cell 2 rfl
  have x3 := e1.cell 3 rfl
  have x4 := e1.cell 4 rfl
  have b1 := hb0.trans (hb1.mono hb0.size)
  cases hk : wmay ⟨base, bl, gl, cap, en⟩ with
  | false =>
    rw [hk] at he; subst he
    have hx : edgeR ⟨base, bl, gl, cap, en⟩ = 0 := by unfold edgeR; rw [hk]; rfl
    have HX := Lib.hid hx; clear hx
    go_wp2_with fail
    go_ret
    exact ⟨ret_i HX.out.symm, b1⟩
  | true =>
    rw [hk] at he; subst he
    have hx : edgeR ⟨base, bl, gl, cap, en⟩ = min (base + cap) 2305843009213693952 := by unfold edgeR; rw [if_pos hk]; rfl
    have HX := Lib.hid hx; clear hx
    have hv := (wmay_iff _).1 hk
    have v0 : 0 ≤ base := hv.base0
    have v1 : base ≤ 2305843009213693952 := hv.base1
    have v2 : 0 ≤ cap := hv.cap0
    have v3 : cap ≤ 65536 := hv.cap1
    clear hv hk
    go_wp2_with fail
    refine (redge_any base A n c G m d cap en _ v0 v1 v2 v3).mono ?_
    rintro e w2 ⟨rfl, hb2⟩
    go_wp2_with fail
    go_ret
    exact ⟨ret_i HX.out.symm, b1.trans (hb2.mono b1.size)⟩

set_option maxHeartbeats 1000000 in
theorem rwover_any (base : Int) (A : Option Addr) (n c : Nat) (G : Option Addr) (m d : Nat) (cap en : Int) (bl : List Int) (gl : List Sp) (w : World) (hb : Sl w A n c bl) (hg : Ss w G m d gl) (hn : n ≤ 140737488355328) :
    Calls Try.prog 24 #[.agg #[.int .i64 base, .slice A n c, .slice G m d, .int .i64 cap, .int .i64 en]] w fun e w' => e = .returned (.bool (overR ⟨base, bl, gl, cap, en⟩)) ∧ Below w.heap.size w w' := by
  have hbl := hb.rd.len
  have hgl := hg.rd.len
  have e0 := Bx.new w 25 [.int .i64 base, .slice A n c, .slice G m d, .int .i64 cap, .int .i64 en]
  have hb0 : Below w.heap.size w (w.alloc (.cells #[.int .i64 base, .slice A n c, .slice G m d, .int .i64 cap, .int .i64 en] 25)) := (Below.refl _ _).alloc (Nat.le_refl _) _
  have x0 := e0.cell 0 rfl
  have x1 := e0.cell 1 rfl
  have x2 := e0.cell 2 rfl
  have x3 := e0.cell 3 rfl
  have x4 := e0.cell 4 rfl
  have hmay := rwmay_any base A n c G m d cap en bl gl _ (hb.keep hb0) (hg.keep hb0) hn
  go_enter Try.func24, Try.ntmps24
  go_wp2_with fail
  refine hmay.mono ?_
  rintro e w1 ⟨he, hb1⟩
  clear x0 x1 x2 x3 x4
  have e1 := e0.kept hb1
  have x0 := e1.cell 0 rfl
  have x1 := e1.cell 1 rfl
  have x2 := e1.cell 2 rfl
  have x3 := e1.cell 3 rfl
  have x4 := e1.cell 4 rfl
  have b1 := hb0.trans (hb1.mono hb0.size)
  cases hk : wmay ⟨base, bl, gl, cap, en⟩ with
  | false =>
    rw [hk] at he; subst he
    have hx : overR ⟨base, bl, gl, cap, en⟩ = false := by unfold overR; rw [hk]; rfl
    have HX := Lib.hid hx; clear hx
    go_wp2_with fail
    go_ret
    exact ⟨by rw [HX.out]; rfl, b1⟩
  | true =>
    rw [hk] at he; subst he
    have hx : overR ⟨base, bl, gl, cap, en⟩ = decide (en = base) := by unfold overR; rw [hk]; rfl
    have HX := Lib.hid hx; clear hx
    go_wp2_with fail
    go_ret
    exact ⟨by rw [HX.out]; rfl, b1⟩

set_option maxHeartbeats 2000000 in
theorem rwready_any (base : Int) (A : Option Addr) (n c : Nat) (G : Option Addr) (m d : Nat) (cap en : Int) (bl : List Int) (gl : List Sp) (w : World) (hb : Sl w A n c bl) (hg : Ss w G m d gl) (hn : n ≤ 140737488355328) :
    Calls Try.prog 22 #[.agg #[.int .i64 base, .slice A n c, .slice G m d, .int .i64 cap, .int .i64 en]] w fun e w' => e = .returned (.int .i64 (readyR ⟨base, bl, gl, cap, en⟩)) ∧ Below w.heap.size w w' := by
  have hbl := hb.rd.len
  have hgl := hg.rd.len
  have e0 := Bx.new w 25 [.int .i64 base, .slice A n c, .slice G m d, .int .i64 cap, .int .i64 en]
  have hb0 : Below w.heap.size w (w.alloc (.cells #[.int .i64 base, .slice A n c, .slice G m d, .int .i64 cap, .int .i64 en] 25)) := (Below.refl _ _).alloc (Nat.le_refl _) _
  have x0 := e0.cell 0 rfl
  have x1 := e0.cell 1 rfl
  have x2 := e0.cell 2 rfl
  have x3 := e0.cell 3 rfl
  have x4 := e0.cell 4 rfl
  have hmay := rwmay_any base A n c G m d cap en bl gl _ (hb.keep hb0) (hg.keep hb0) hn
  go_enter Try.func22, Try.ntmps22
  go_wp2_with fail
  refine hmay.mono ?_
  rintro e w1 ⟨he, hb1⟩
  clear x0 x1 x2 x3 x4
  have e1 := e0.kept hb1
  have b1 := hb0.trans (hb1.mono hb0.size)
  have x0 := e1.cell 0 rfl
  have x1 := e1.cell 1 rfl
  have x2 := e1.cell 2 rfl
  have x3 := e1.cell 3 rfl
  have x4 := e1.cell 4 rfl
  cases hk : wmay ⟨base, bl, gl, cap, en⟩ with
  | false =>
    rw [hk] at he; subst he
    have hx : readyR ⟨base, bl, gl, cap, en⟩ = 0 := by unfold readyR; rw [hk]; rfl
    have HX := Lib.hid hx; clear hx
    go_wp2_with fail
    refine wp_loop_rounds 1 ?_; rw [rounds_succ]
    go_wp2_with fail
    go_ret
    exact ⟨ret_i HX.out.symm, b1⟩
  | true =>
    rw [hk] at he; subst he
    have hx : readyR ⟨base, bl, gl, cap, en⟩ = (rdyW ⟨base, bl, gl, cap, en⟩ : Int) := by unfold readyR; rw [if_pos hk]
    have HX := Lib.hid hx; clear hx
    have hv := (wmay_iff _).1 hk
    have v0 : 0 ≤ base := hv.base0
    have v1 : base ≤ 2305843009213693952 := hv.base1
    clear hv hk
    go_wp2_with fail
    go_loopw [3] (fun i wr => ∃ k : Nat, k ≤ n ∧ i = .int .i64 (k : Int) ∧ (∀ j : Nat, j < k → inL gl (base + j)) ∧ w1 = wr) (fun i _ => n - (intOf i).toNat)
    case atStart => exact ⟨0, Nat.zero_le _, rfl, fun j hj => by omega, rfl⟩
    case round =>
      obtain ⟨k, hkn, rfl, hall, rfl⟩ := hrel
      have HA := Lib.hid hall; clear hall
      have qs : base + (k : Int) ≤ 9223372036854775807 := by omega
      by_cases hlt : k < n
      · cases hin : inB gl (base + (k : Int)) with
        | true =>
          go_wp2_with fail
          refine (rin_any G m d gl (base + k) _ (hg.keep b1)).mono ?_
          rintro e w6 ⟨he, rfl⟩
          rw [hin] at he
          subst he
          have HI := Lib.hid hin; clear hin
          go_wp2_with fail
          go_roundw
          case rel =>
            refine ⟨k + 1, by omega, by go_num, fun j hj => ?_, (by first | rfl | trivial)⟩
            by_cases h : j < k
            · exact HA.out j h
            · obtain rfl : j = k := by omega
              exact (inB_iff _ _).1 HI.out
          case measure => simp [intOf]; omega
        | false =>
          go_wp2_with fail
          refine (rin_any G m d gl (base + k) _ (hg.keep b1)).mono ?_
          rintro e w6 ⟨he, rfl⟩
          rw [hin] at he
          subst he
          have HI := Lib.hid hin; clear hin
          have HR := Lib.hid (show rdyW ⟨base, bl, gl, cap, en⟩ = k from rdy_of (by show k ≤ bl.length; omega) HA.out (fun _ h => by have := (inB_iff _ _).2 h; rw [HI.out] at this; cases this))
          go_wp2_with fail
          go_ret
          exact ⟨ret_i (by rw [HX.out, HR.out]), b1⟩
      · have HR := Lib.hid (show rdyW ⟨base, bl, gl, cap, en⟩ = k from rdy_of (by show k ≤ bl.length; omega) HA.out (fun h => by have h' : k < bl.length := h; omega))
        go_wp2_with fail
        go_ret
        exact ⟨ret_i (by rw [HX.out, HR.out]), b1⟩

set_option maxHeartbeats 2000000 in
theorem wsame_yes (base : Int) (A : Option Addr) (n c : Nat) (G : Option Addr) (m d : Nat) (cap en : Int) (bl : List Int) (gl : List Sp) (A' : Option Addr) (c' : Nat) (G' : Option Addr) (d' : Nat) (w : World) (hb : Sl w A n c bl) (hg : Ss w G m d gl) (hb' : Sl w A' n c' bl) (hg' : Ss w G' m d' gl) :
    Calls Try.prog 13 #[.agg #[.int .i64 base, .slice A n c, .slice G m d, .int .i64 cap, .int .i64 en], .agg #[.int .i64 base, .slice A' n c', .slice G' m d', .int .i64 cap, .int .i64 en]] w fun e w' => e = .returned (.bool true) ∧ Below w.heap.size w w' := by
  have e0 := (Bx.new w 25 [.int .i64 base, .slice A n c, .slice G m d, .int .i64 cap, .int .i64 en]).alloc (.cells #[.int .i64 base, .slice A' n c', .slice G' m d', .int .i64 cap, .int .i64 en] 25)
  have r0 := Bx.new (w.alloc (.cells #[.int .i64 base, .slice A n c, .slice G m d, .int .i64 cap, .int .i64 en] 25)) 25 [.int .i64 base, .slice A' n c', .slice G' m d', .int .i64 cap, .int .i64 en]
  have hb0 : Below w.heap.size w ((w.alloc (.cells #[.int .i64 base, .slice A n c, .slice G m d, .int .i64 cap, .int .i64 en] 25)).alloc (.cells #[.int .i64 base, .slice A' n c', .slice G' m d', .int .i64 cap, .int .i64 en] 25)) := ((Below.refl _ _).alloc (Nat.le_refl _) _).alloc (by simp) _
  rw [World.size_alloc] at r0
  have hnb : n ≤ 9223372036854775807 := by have := hb.le; have := hb.big; unfold maxLen at this; omega
  have x1 := e0.cell 1 rfl
  have y1 := r0.cell 1 rfl
  go_enter Try.func13, Try.ntmps13
  go_wp2_with fail
  refine (bsame_yes _ _ _ _ _ bl _ (hb.keep hb0).rd (hb'.keep hb0).rd hnb).mono ?_
  rintro e w1 ⟨rfl, hb1⟩
  clear x1 y1
  have e1 := e0.kept hb1
  have r1 := r0.kept hb1
  have b1 := hb0.trans (hb1.mono hb0.size)
  have x2 := e1.cell 2 rfl
  have y2 := r1.cell 2 rfl
  go_wp2_with fail
  refine (same_yes _ _ _ _ _ _ gl _ (hg.keep b1) (hg'.keep b1)).mono ?_
  rintro e w2 ⟨rfl, hb2⟩
  clear x2 y2
  have e2 := e1.kept hb2
  have r2 := r1.kept hb2
  have b2 := b1.trans (hb2.mono b1.size)
  have x0 := e2.cell 0 rfl
  have x3 := e2.cell 3 rfl
  have x4 := e2.cell 4 rfl
  have y0 := r2.cell 0 rfl
  have y3 := r2.cell 3 rfl
  have y4 := r2.cell 4 rfl
  go_wp2_with fail
  go_ret
  exact ⟨rfl, b2⟩
end Go.Proofs.Ytgiknfmagmfniaa
