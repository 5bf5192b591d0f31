/- The texts Wo4, RcL1, RcL0, MsRef1, More, MsL1. -/
import Derived.Below
import Derived.BigQuiet
import Derived.Deep.AppendLies
import Derived.Deep.DeepCutAuto
import Derived.Deep.QuietTactic
import Derived.IntWalk
import Derived.Laws.Rows
import Derived.Laws.Tables
import Derived.Lib.Hide
import Derived.OrdersHeld
import Derived.Outline
import Derived.Test.YtggnhccpncgfiaaProg
import Derived.WalkKit
import Derived.WalkSmall
import Derived.WalkSpells
import Derived.Test.YtggnhccpncgfiaaM02
import Derived.Test.YtggnhccpncgfiaaM03
import Derived.Test.YtggnhccpncgfiaaM08
import Derived.Test.YtggnhccpncgfiaaM09
import Derived.Test.YtggnhccpncgfiaaM10
set_option linter.all false
namespace Go.Proofs.Ytggnhccpncgfiaa
open Go.RowKit
theorem wvmay_any (base : Int) (A : Option Addr) (n c : Nat) (G : Option Addr) (m d : Nat) (cap en : Int) (bl : List Int) (gl : List Sp) (w : World) (hb : Sl w A n c bl) (hg : Ss w G m d gl) (hn : n ≤ 140737488355328) : Calls Try.prog 54 #[.agg #[.int .i64 base, .slice A n c, .slice G m d, .int .i64 cap, .int .i64 en]] w fun e w' => e = .returned (.bool (wmay ⟨base, bl, gl, cap, en⟩)) ∧ Below w.heap.size w w' := by
  have hbl := hb.rd.len
  by_cases c1 : 0 ≤ cap
  case neg => rw [wmay_false (fun h => c1 h.cap0)]; exact wvmay_1 base A n c G m d cap en bl gl w hb hg hn c1
  case pos =>
  by_cases c2 : cap ≤ 65536
  case neg => rw [wmay_false (fun h => c2 h.cap1)]; exact wvmay_2 base A n c G m d cap en bl gl w hb hg hn c1 c2
  case pos =>
  cases c3 : posB base with
  | false => rw [wmay_false (fun h => posB_not.1 c3 ⟨h.base0, h.base1⟩)]; exact wvmay_3 base A n c G m d cap en bl gl w hb hg hn c1 c2 c3
  | true =>
  cases c4 : mayB gl with
  | false => rw [wmay_false (fun h => by have := h.may; rw [show (⟨base, bl, gl, cap, en⟩ : Wv).got = gl from rfl, c4] at this; cases this)]; exact wvmay_4 base A n c G m d cap en bl gl w hb hg hn c1 c2 c3 c4
  | true =>
  have hchn := (mayB_parts c4).2
  by_cases c5 : base ≤ headOf base gl
  case neg =>
    rw [wmay_false (fun h => c5 (by
      cases hgl : gl with
      | nil => exact Int.le_refl _
      | cons p t =>
        have := (head_chain hchn).1 h.ch
        rw [hgl] at this
        rw [← hgl, head_sp (by rw [hgl]; simp), hgl]
        have h3 : ¬ (sp (p :: t) 0).1 < base := fun h4 => this ⟨by simp, h4⟩
        omega))]
    exact wvmay_5 base A n c G m d cap en bl gl w hb hg hn c1 c2 c3 c4 c5
  case pos =>
  by_cases c6 : lastOf base gl ≤ min (base + cap) 2305843009213693952
  case neg => rw [wmay_false (w := ⟨base, bl, gl, cap, en⟩) (fun h => c6 h.up)]; exact wvmay_6 base A n c G m d cap en bl gl w hb hg hn c1 c2 c3 c4 c5 c6
  case pos =>
  by_cases c7 : (n : Int) = lastOf base gl - base
  case neg => rw [wmay_false (fun h => c7 (by have := h.blen; rw [← hbl]; exact this))]; exact wvmay_7 base A n c G m d cap en bl gl w hb hg hn c1 c2 c3 c4 c5 c6 c7
  case pos =>
  cases c8 : okW ⟨base, bl, gl, cap, en⟩ with
  | false => rw [wmay_false (fun h => by have := (okW_iff _).2 h.ok; rw [c8] at this; cases this)]; exact wvmay_8 base A n c G m d cap en bl gl w hb hg hn c1 c2 c3 c4 c5 c6 c7 c8
  | true =>
  obtain ⟨p0, p1⟩ := posB_iff.1 c3
  have hch : chain (base - 1) gl = true := (head_chain hchn).2 (fun h => by rw [head_sp h.1] at c5; omega)
  have hva : (en = -1 ∨ lastOf base gl ≤ en) → wmay ⟨base, bl, gl, cap, en⟩ = true := fun h => (wmay_iff _).2 ⟨(mayB_parts c4).1, c1, c2, p0, p1, c6, (by show (bl.length : Int) = _; rw [hbl]; exact c7), h, hch, (okW_iff _).1 c8⟩
  by_cases c9 : en = -1
  case pos => rw [hva (.inl c9)]; exact wvmay_9 base A n c G m d cap en bl gl w hb hg hn c1 c2 c3 c4 c5 c6 c7 c8 c9
  case neg =>
  have hw : wmay ⟨base, bl, gl, cap, en⟩ = decide (lastOf base gl ≤ en) := by
    by_cases h : lastOf base gl ≤ en
    · rw [hva (.inr h), decide_eq_true h]
    · rw [wmay_false (w := ⟨base, bl, gl, cap, en⟩) (fun hv => hv.en.elim c9 h), decide_eq_false h]
  rw [hw]
  exact wvmay_10 base A n c G m d cap en bl gl w hb hg hn c1 c2 c3 c4 c5 c6 c7 c8 c9
theorem gap_rdy {w : Wv} (h : Va w) : gapF w.got w.base = w.base + rdyW w := by
  rw [gapF_of h.may h.base0]
  have hge := gap_ge w.got w.base
  have hout := gap_out h.chm w.base
  have hlen := h.blen
  have : rdyW w = (gapIn w.got w.base - w.base).toNat := by
    rcases gap_cases w.got w.base with ⟨h1, h2⟩ | ⟨p, hp, ⟨h1, h2⟩, h3⟩
    · refine rdy_of (by omega) (fun i hi => by omega) (fun _ => ?_)
      rw [show (gapIn w.got w.base - w.base).toNat = 0 by omega]
      simpa using h2
    · have hup := (up_in h (n := p.2 - 1) ⟨p, hp, by omega, by omega⟩).2
      refine rdy_of (by omega) (fun i hi => ⟨p, hp, by omega, by omega⟩) (fun _ => ?_)
      rw [show w.base + ((gapIn w.got w.base - w.base).toNat : Int) = gapIn w.got w.base by omega]
      exact hout
  omega
set_option maxHeartbeats 1000000 in
theorem wedge_any (base : Int) (A : Option Addr) (n c : Nat) (G : Option Addr) (m d : Nat) (cap en : Int) (bl : List Int) (gl : List Sp) (w : World) (hb : Sl w A n c bl) (hg : Ss w G m d gl) (hn : n ≤ 140737488355328) :
    Calls Try.prog 59 #[.agg #[.int .i64 base, .slice A n c, .slice G m d, .int .i64 cap, .int .i64 en]] w fun e w' => e = .returned (.int .i64 (edgeR ⟨base, bl, gl, cap, en⟩)) ∧ Below w.heap.size w w' := by
  have hbl := hb.rd.len
  have hgl := hg.rd.len
  have e0 := Bx.new w 25 [.int .i64 base, .slice A n c, .slice G m d, .int .i64 cap, .int .i64 en]
  have hb0 : Below w.heap.size w (w.alloc (.cells #[.int .i64 base, .slice A n c, .slice G m d, .int .i64 cap, .int .i64 en] 25)) := (Below.refl _ _).alloc (Nat.le_refl _) _
  have x0 := e0.cell 0 rfl
  have x1 := e0.cell 1 rfl
  have x2 := e0.cell 2 rfl
  have x3 := e0.cell 3 rfl
  have x4 := e0.cell 4 rfl
  have hmay := wvmay_any base A n c G m d cap en bl gl _ (hb.keep hb0) (hg.keep hb0) hn
  go_enter Try.func59, Try.ntmps59
  go_wp2_with fail
  refine hmay.mono ?_
  rintro e w1 ⟨he, hb1⟩
  clear x0 x1 x2 x3 x4
  have e1 := e0.kept hb1
  have x0 := e1.cell 0 rfl
  have x1 := e1.cell 1 rfl
  have x2 := e1.cell 2 rfl
  have x3 := e1.cell 3 rfl
  have x4 := e1.cell 4 rfl
  have b1 := hb0.trans (hb1.mono hb0.size)
  cases hk : wmay ⟨base, bl, gl, cap, en⟩ with
  | false =>
    rw [hk] at he; subst he
    have hx : edgeR ⟨base, bl, gl, cap, en⟩ = 0 := by unfold edgeR; rw [hk]; rfl
    have HX := Lib.hid hx; clear hx
    go_wp2_with fail
    go_ret
    exact ⟨ret_i HX.out.symm, b1⟩
  | true =>
    rw [hk] at he; subst he
    have hx : edgeR ⟨base, bl, gl, cap, en⟩ = min (base + cap) 2305843009213693952 := by unfold edgeR; rw [if_pos hk]; rfl
    have HX := Lib.hid hx; clear hx
    have hv := (wmay_iff _).1 hk
    have v0 : 0 ≤ base := hv.base0
    have v1 : base ≤ 2305843009213693952 := hv.base1
    have v2 : 0 ≤ cap := hv.cap0
    have v3 : cap ≤ 65536 := hv.cap1
    clear hv hk
    go_wp2_with fail
    refine (wedge_in base A n c G m d cap en _ v0 v1 v2 v3).mono ?_
    rintro e w2 ⟨rfl, hb2⟩
    go_wp2_with fail
    go_ret
    exact ⟨ret_i HX.out.symm, b1.trans (hb2.mono b1.size)⟩
set_option maxHeartbeats 2000000 in
theorem wready_any (base : Int) (A : Option Addr) (n c : Nat) (G : Option Addr) (m d : Nat) (cap en : Int) (bl : List Int) (gl : List Sp) (w : World) (hb : Sl w A n c bl) (hg : Ss w G m d gl) (hn : n ≤ 140737488355328) :
    Calls Try.prog 75 #[.agg #[.int .i64 base, .slice A n c, .slice G m d, .int .i64 cap, .int .i64 en]] w fun e w' => e = .returned (.int .i64 (readyR ⟨base, bl, gl, cap, en⟩)) ∧ Below w.heap.size w w' := by
  have hbl := hb.rd.len
  have hgl := hg.rd.len
  have e0 := Bx.new w 25 [.int .i64 base, .slice A n c, .slice G m d, .int .i64 cap, .int .i64 en]
  have hb0 : Below w.heap.size w (w.alloc (.cells #[.int .i64 base, .slice A n c, .slice G m d, .int .i64 cap, .int .i64 en] 25)) := (Below.refl _ _).alloc (Nat.le_refl _) _
  obtain ⟨B, hB⟩ : ∃ B, w.heap.size = B := ⟨_, rfl⟩
  rw [hB] at e0 hb0
  obtain ⟨w0, hw0⟩ : ∃ w0, w.alloc (.cells #[.int .i64 base, .slice A n c, .slice G m d, .int .i64 cap, .int .i64 en] 25) = w0 := ⟨_, rfl⟩
  have e1 : Bx w0 B 25 [.int .i64 base, .slice A n c, .slice G m d, .int .i64 cap, .int .i64 en] := by rw [← hw0]; exact e0
  have b1 : Below B w w0 := by rw [← hw0]; exact hb0
  clear e0 hb0
  have hbk : ∀ {w' : World}, Below B w w' → Sl w' A n c bl := fun h => hb.keep (by rw [hB]; exact h)
  have hgk : ∀ {w' : World}, Below B w w' → Ss w' G m d gl := fun h => hg.keep (by rw [hB]; exact h)
  have hmay := wvmay_any base A n c G m d cap en bl gl _ (hbk b1) (hgk b1) hn
  have hgap := fun (w' : World) (h : Below B w w') => gap_any G m d gl base w' (hgk h)
  have x0 := e1.cell 0 rfl
  have x1 := e1.cell 1 rfl
  have x2 := e1.cell 2 rfl
  have x3 := e1.cell 3 rfl
  have x4 := e1.cell 4 rfl
  have e0 := e1
  have hb0 := b1
  clear e1 b1
  go_enter Try.func75, Try.ntmps75
  rw [hB]
  go_wp2_with fail
  refine hmay.mono ?_
  rintro e w1 ⟨he, hb1⟩
  clear x0 x1 x2 x3 x4
  have e1 := e0.kept hb1
  have x0 := e1.cell 0 rfl
  have x1 := e1.cell 1 rfl
  have x2 := e1.cell 2 rfl
  have x3 := e1.cell 3 rfl
  have x4 := e1.cell 4 rfl
  have b1 := hb0.trans (hb1.mono (Nat.le_of_lt e0.lt))
  cases hk : wmay ⟨base, bl, gl, cap, en⟩ with
  | false =>
    rw [hk] at he; subst he
    have hx : readyR ⟨base, bl, gl, cap, en⟩ = 0 := by unfold readyR; rw [hk]; rfl
    have HX := Lib.hid hx; clear hx
    go_wp2_with fail
    go_ret
    exact ⟨ret_i HX.out.symm, b1⟩
  | true =>
    rw [hk] at he; subst he
    have hv := (wmay_iff _).1 hk
    have hx : readyR ⟨base, bl, gl, cap, en⟩ = (rdyW ⟨base, bl, gl, cap, en⟩ : Int) := by unfold readyR; rw [if_pos hk]
    have hgr : gapF gl base = base + (rdyW ⟨base, bl, gl, cap, en⟩ : Int) := gap_rdy hv
    have hrl := rdy_le ⟨base, bl, gl, cap, en⟩
    have hbs := b_small hv
    have v0 : 0 ≤ base := hv.base0
    have v1 : base ≤ 2305843009213693952 := hv.base1
    obtain ⟨R0, hR0⟩ : ∃ R0, rdyW ⟨base, bl, gl, cap, en⟩ = R0 := ⟨_, rfl⟩
    rw [hR0] at hx hgr hrl
    rw [hgr] at hgap
    have hR : R0 ≤ 65536 := Nat.le_trans hrl hbs
    have q1 : IntKind.i64.wrap (base + (R0 : Int) - base) = (R0 : Int) := by rw [IntWalk.i64_in _ (by omega)]; omega
    have HX := Lib.hid hx; clear hx hv hk hgr hrl hbs hR0
    go_wp2_with fail
    have e2 := e1.drew
    have b2 := b1.drew
    clear x0 x1 x2 x3 x4
    refine wp_region_tail 8 9 (fun w' : World => w'.cell? ⟨B, 0, none⟩ = some (.int .i64 base) ∧ w'.cell? ⟨B, 2, none⟩ = some (.slice G m d)) (by kernel_rfl) (by rfl) (by decide) ?_
    have HS : ((fun w' : World => w'.cell? ⟨B, 0, none⟩ = some (.int .i64 base) ∧ w'.cell? ⟨B, 2, none⟩ = some (.slice G m d))) _ := ⟨e2.cell 0 rfl, e2.cell 2 rfl⟩
    refine wpAnyT_take (i := 0) (v := ?vv1) rfl (by kernel_rfl) (fun _ _ _ h => h) (Or.inl ⟨by rfl, fun w hSw => ?yy1⟩) HS ?rr1
    case yy1 =>
      (try dsimp only at hSw); go_simp
      try with_reducible rfl
    try simp only [Act.put, List.setIfInBounds_toArray, List.set_cons_zero, List.set_cons_succ]
    refine wpAnyT_take (i := 1) (v := ?vv2) rfl (by kernel_rfl) (fun _ _ _ h => h) (Or.inl ⟨by rfl, fun w hSw => ?yy2⟩) HS ?rr2
    case yy2 =>
      (try dsimp only at hSw); go_simp
      try with_reducible rfl
    try simp only [Act.put, List.setIfInBounds_toArray, List.set_cons_zero, List.set_cons_succ]
    refine wpAnyT_take (i := 2) (v := ?vv3) rfl (by kernel_rfl) (fun _ _ _ h => h) (Or.inl ⟨by rfl, fun w hSw => ?yy3⟩) HS ?rr3
    case yy3 =>
      (try dsimp only at hSw); go_simp
      try with_reducible rfl
    try simp only [Act.put, List.setIfInBounds_toArray, List.set_cons_zero, List.set_cons_succ]
    refine wpAnyT_take (i := 3) (v := ?vv4) rfl (by kernel_rfl) (fun _ _ _ h => h) (Or.inl ⟨by rfl, fun w hSw => ?yy4⟩) HS ?rr4
    case yy4 =>
      (try dsimp only at hSw); go_simp
      try with_reducible rfl
    try simp only [Act.put, List.setIfInBounds_toArray, List.set_cons_zero, List.set_cons_succ]
    refine wpAnyT_take (i := 5) (v := ?vv5) rfl (by kernel_rfl) (fun _ _ _ h => h) (Or.inl ⟨by rfl, fun w hSw => ?yy5⟩) HS ?rr5
    case yy5 =>
      (try dsimp only at hSw); go_simp
      try with_reducible rfl
    try simp only [Act.put, List.setIfInBounds_toArray, List.set_cons_zero, List.set_cons_succ]
    refine wpAnyT_take (i := 6) (v := ?vv6) rfl (by kernel_rfl) (fun _ _ _ h => h) (Or.inl ⟨by rfl, fun w hSw => ?yy6⟩) HS ?rr6
    case yy6 =>
      (try dsimp only at hSw); go_simp
      try with_reducible rfl
    try simp only [Act.put, List.setIfInBounds_toArray, List.set_cons_zero, List.set_cons_succ]
    refine wpAnyT_one (k := 4) rfl (by kernel_rfl) (by decide) (fun K hK => ?_)
    go_simp
    refine (hgap _ b2).mono ?_
    rintro e w3 ⟨rfl, hb3⟩
    have e3 := e2.kept hb3
    have b3 := b2.trans (hb3.mono (Nat.le_of_lt e2.lt))
    have HS : ((fun w' : World => w'.cell? ⟨B, 0, none⟩ = some (.int .i64 base) ∧ w'.cell? ⟨B, 2, none⟩ = some (.slice G m d))) _ := ⟨e3.cell 0 rfl, e3.cell 2 rfl⟩
    refine hK _ _ HS ?_
    clear hK K
    try simp only [Act.put, List.setIfInBounds_toArray, List.set_cons_zero, List.set_cons_succ]
    refine wpAnyT_take (i := 7) (v := ?vv7) rfl (by kernel_rfl) (fun _ _ _ h => h) (Or.inl ⟨by rfl, fun w hSw => ?yy7⟩) HS ?rr7
    case yy7 =>
      (try dsimp only at hSw); go_simp
      try with_reducible rfl
    try simp only [Act.put, List.setIfInBounds_toArray, List.set_cons_zero, List.set_cons_succ]
    refine ⟨by kernel_rfl, ?_⟩
    simp only [List.drop_succ_cons, List.drop_zero]
    clear HS
    go_wp2_with fail
    go_ret
    exact ⟨ret_i HX.out.symm, b3⟩
set_option maxRecDepth 100000 in
set_option maxHeartbeats 4000000 in
theorem wshut_any (base : Int) (A : Option Addr) (n c : Nat) (G : Option Addr) (m d : Nat) (cap en : Int) (bl : List Int) (gl : List Sp) (w : World) (hb : Sl w A n c bl) (hg : Ss w G m d gl) (hn : n ≤ 140737488355328) (p : Int) (hp : W64 p) :
    Calls Try.prog 58 #[.agg #[.int .i64 base, .slice A n c, .slice G m d, .int .i64 cap, .int .i64 en], .int .i64 p] w fun e w' => TellW w w' e (wshutR ⟨base, bl, gl, cap, en⟩ p) := by
  unfold TellW
  have hbl := hb.rd.len
  have hgl := hg.rd.len
  obtain ⟨B, hB⟩ : ∃ B, w.heap.size = B := ⟨_, rfl⟩
  have e0 := (Bx.new w 25 [.int .i64 base, .slice A n c, .slice G m d, .int .i64 cap, .int .i64 en]).alloc (.cells #[.int .i64 0, .slice none 0 0, .slice none 0 0, .int .i64 0, .int .i64 0] 25)
  have r0 := Bx.new (w.alloc (.cells #[.int .i64 base, .slice A n c, .slice G m d, .int .i64 cap, .int .i64 en] 25)) 25 [.int .i64 0, .slice none 0 0, .slice none 0 0, .int .i64 0, .int .i64 0]
  have hb0 : Below w.heap.size w ((w.alloc (.cells #[.int .i64 base, .slice A n c, .slice G m d, .int .i64 cap, .int .i64 en] 25)).alloc (.cells #[.int .i64 0, .slice none 0 0, .slice none 0 0, .int .i64 0, .int .i64 0] 25)) := ((Below.refl _ _).alloc (Nat.le_refl _) _).alloc (by simp) _
  rw [World.size_alloc] at r0
  rw [hB] at e0 r0 hb0
  obtain ⟨w0, hw0⟩ : ∃ w0, (w.alloc (.cells #[.int .i64 base, .slice A n c, .slice G m d, .int .i64 cap, .int .i64 en] 25)).alloc (.cells #[.int .i64 0, .slice none 0 0, .slice none 0 0, .int .i64 0, .int .i64 0] 25) = w0 := ⟨_, rfl⟩
  have e0' : Bx w0 B 25 [.int .i64 base, .slice A n c, .slice G m d, .int .i64 cap, .int .i64 en] := by rw [← hw0]; exact e0
  have r0' : Bx w0 (B + 1) 25 [.int .i64 0, .slice none 0 0, .slice none 0 0, .int .i64 0, .int .i64 0] := by rw [← hw0]; exact r0
  have hb0' : Below B w w0 := by rw [← hw0]; exact hb0
  clear e0 r0 hb0
  have hbk : ∀ {w' : World}, Below B w w' → Sl w' A n c bl := fun h => hb.keep (by rw [hB]; exact h)
  have hgk : ∀ {w' : World}, Below B w w' → Ss w' G m d gl := fun h => hg.keep (by rw [hB]; exact h)
  have hmay := wvmay_any base A n c G m d cap en bl gl _ (hbk hb0') (hgk hb0') hn
  have x0 := e0'.cell 0 rfl
  have x1 := e0'.cell 1 rfl
  have x2 := e0'.cell 2 rfl
  have x3 := e0'.cell 3 rfl
  have x4 := e0'.cell 4 rfl
  rcases shut_cases ⟨base, bl, gl, cap, en⟩ p with ⟨hx, hnv⟩ | ⟨hx, ⟨hv, hp0, hp1⟩, hc⟩ | ⟨hx, ⟨hv, hp0, hp1⟩, hc⟩
  · rw [zw_lit] at hx
    rw [hx]
    clear hx
    have HN := Lib.hid hnv; clear hnv
    go_enter Try.func58, Try.ntmps58
    rw [hB]
    go_wp2_with fail
    refine hmay.mono ?_
    rintro e w1 ⟨he, hb1⟩
    clear x0 x1 x2 x3 x4
    have e1 := e0'.kept hb1
    have r1 := r0'.kept hb1
    have b1 := hb0'.trans (hb1.mono (Nat.le_of_lt e0'.lt))
    have x0 := e1.cell 0 rfl
    have x1 := e1.cell 1 rfl
    have x2 := e1.cell 2 rfl
    have x3 := e1.cell 3 rfl
    have x4 := e1.cell 4 rfl
    cases hk : wmay ⟨base, bl, gl, cap, en⟩ with
    | false =>
      rw [hk] at he; subst he
      have t0 := r1.cell 0 rfl
      have t1 := r1.cell 1 rfl
      have t2 := r1.cell 2 rfl
      have t3 := r1.cell 3 rfl
      have t4 := r1.cell 4 rfl
      have tf0 := r1.free 0
      have tf1 := r1.free 1
      have tf2 := r1.free 2
      have tf3 := r1.free 3
      have tf4 := r1.free 4
      go_wp2_with fail
      have OV := (((((r1.set 0 (.int .i64 0)).set 1 (.slice none 0 0)).set 2 (.slice none 0 0)).set 3 (.int .i64 0)).set 4 (.int .i64 0))
      have y0 := OV.cell 0 rfl
      have y1 := OV.cell 1 rfl
      have y2 := OV.cell 2 rfl
      have y3 := OV.cell 3 rfl
      have y4 := OV.cell 4 rfl
      have bz := (((((b1.setCell (p := ⟨B + 1, 0, none⟩) (by simp) (.int .i64 0)).setCell (p := ⟨B + 1, 1, none⟩) (by simp) (.slice none 0 0)).setCell (p := ⟨B + 1, 2, none⟩) (by simp) (.slice none 0 0)).setCell (p := ⟨B + 1, 3, none⟩) (by simp) (.int .i64 0)).setCell (p := ⟨B + 1, 4, none⟩) (by simp) (.int .i64 0))
      exact bodyPost_ret (v := .tuple #[.agg #[.int .i64 0, .slice none 0 0, .slice none 0 0, .int .i64 0, .int .i64 0], .int .i64 1]) (by simp [results, Try.results58, go_sem, y0, y1, y2, y3, y4]) rfl ⟨none, 0, 0, none, 0, 0, rfl, Sb.none _ _, Sq.none _ _, bz⟩
    | true =>
      rw [hk] at he; subst he
      have hpos : posB p = false := posB_not.2 (fun h => HN.out ⟨(wmay_iff _).1 hk, h.1, h.2⟩)
      have HK := Lib.hid hk; clear hk
      have t0 := r1.cell 0 rfl
      have t1 := r1.cell 1 rfl
      have t2 := r1.cell 2 rfl
      have t3 := r1.cell 3 rfl
      have t4 := r1.cell 4 rfl
      have tf0 := r1.free 0
      have tf1 := r1.free 1
      have tf2 := r1.free 2
      have tf3 := r1.free 3
      have tf4 := r1.free 4
      go_wp2_with fail
      refine (wpos_any p _).mono ?_
      rintro e w9 ⟨he, rfl⟩
      rw [hpos] at he
      subst he
      go_wp2_with fail
      have OV := (((((r1.set 0 (.int .i64 0)).set 1 (.slice none 0 0)).set 2 (.slice none 0 0)).set 3 (.int .i64 0)).set 4 (.int .i64 0))
      have y0 := OV.cell 0 rfl
      have y1 := OV.cell 1 rfl
      have y2 := OV.cell 2 rfl
      have y3 := OV.cell 3 rfl
      have y4 := OV.cell 4 rfl
      have bz := (((((b1.setCell (p := ⟨B + 1, 0, none⟩) (by simp) (.int .i64 0)).setCell (p := ⟨B + 1, 1, none⟩) (by simp) (.slice none 0 0)).setCell (p := ⟨B + 1, 2, none⟩) (by simp) (.slice none 0 0)).setCell (p := ⟨B + 1, 3, none⟩) (by simp) (.int .i64 0)).setCell (p := ⟨B + 1, 4, none⟩) (by simp) (.int .i64 0))
      exact bodyPost_ret (v := .tuple #[.agg #[.int .i64 0, .slice none 0 0, .slice none 0 0, .int .i64 0, .int .i64 0], .int .i64 1]) (by simp [results, Try.results58, go_sem, y0, y1, y2, y3, y4]) rfl ⟨none, 0, 0, none, 0, 0, rfl, Sb.none _ _, Sq.none _ _, bz⟩
  · rw [zw_lit] at hx
    rw [hx]
    clear hx
    have hpos : posB p = true := posB_iff.2 ⟨hp0, hp1⟩
    go_enter Try.func58, Try.ntmps58
    rw [hB]
    go_wp2_with fail
    refine hmay.mono ?_
    rintro e w1 ⟨he, hb1⟩
    clear x0 x1 x2 x3 x4
    have e1 := e0'.kept hb1
    have r1 := r0'.kept hb1
    have b1 := hb0'.trans (hb1.mono (Nat.le_of_lt e0'.lt))
    have x0 := e1.cell 0 rfl
    have x1 := e1.cell 1 rfl
    have x2 := e1.cell 2 rfl
    have x3 := e1.cell 3 rfl
    have x4 := e1.cell 4 rfl
    rw [(wmay_iff _).2 hv] at he; subst he
    have hup := wend_any base A n c G m d cap en gl
    obtain ⟨U, hU⟩ : ∃ U, lastOf base gl = U := ⟨_, rfl⟩
    have hen : en = -1 ∨ U ≤ en := by have := hv.en; rw [show upW ⟨base, bl, gl, cap, en⟩ = lastOf base gl from rfl, hU] at this; exact this
    have hU0 : 0 ≤ U := by have := up_ge hv; have := hv.base0; rw [show upW ⟨base, bl, gl, cap, en⟩ = lastOf base gl from rfl, hU] at *; rw [show (⟨base, bl, gl, cap, en⟩ : Wv).base = base from rfl] at *; omega
    rw [show upW ⟨base, bl, gl, cap, en⟩ = lastOf base gl from rfl, hU] at hc
    rw [hU] at hup
    try simp only at hc
    have HU := Lib.hid hU; clear hU hv
    have t0 := r1.cell 0 rfl
    have t1 := r1.cell 1 rfl
    have t2 := r1.cell 2 rfl
    have t3 := r1.cell 3 rfl
    have t4 := r1.cell 4 rfl
    have tf0 := r1.free 0
    have tf1 := r1.free 1
    have tf2 := r1.free 2
    have tf3 := r1.free 3
    have tf4 := r1.free 4
    go_wp2_with fail
    refine (wpos_any p _).mono ?_
    rintro e w9 ⟨he, rfl⟩
    rw [hpos] at he
    subst he
    by_cases h1 : 0 ≤ en ∧ en ≠ p
    · obtain ⟨h2, h3⟩ := h1
      have h4 : (en != p) = true := by simpa using h3
      have h4' : (en != -1) = true := by simp; omega
      clear hc hen h3
      go_wp2_with fail
      have OV := (((((r1.set 0 (.int .i64 0)).set 1 (.slice none 0 0)).set 2 (.slice none 0 0)).set 3 (.int .i64 0)).set 4 (.int .i64 0))
      have y0 := OV.cell 0 rfl
      have y1 := OV.cell 1 rfl
      have y2 := OV.cell 2 rfl
      have y3 := OV.cell 3 rfl
      have y4 := OV.cell 4 rfl
      have bz := (((((b1.setCell (p := ⟨B + 1, 0, none⟩) (by simp) (.int .i64 0)).setCell (p := ⟨B + 1, 1, none⟩) (by simp) (.slice none 0 0)).setCell (p := ⟨B + 1, 2, none⟩) (by simp) (.slice none 0 0)).setCell (p := ⟨B + 1, 3, none⟩) (by simp) (.int .i64 0)).setCell (p := ⟨B + 1, 4, none⟩) (by simp) (.int .i64 0))
      exact bodyPost_ret (v := .tuple #[.agg #[.int .i64 0, .slice none 0 0, .slice none 0 0, .int .i64 0, .int .i64 0], .int .i64 5]) (by simp [results, Try.results58, go_sem, y0, y1, y2, y3, y4]) rfl ⟨none, 0, 0, none, 0, 0, rfl, Sb.none _ _, Sq.none _ _, bz⟩
    · have h5 : p < U := by omega
      have h5' : decide (p < U) = true := decide_eq_true h5
      clear hc
      rcases hen with h | h
      · have h' : (en != -1) = false := by simp [h]
        clear h1 h h5
        go_wp2_with fail
        refine (hup _ (hgk b1)).mono ?_
        rintro e w2 ⟨rfl, hb2⟩
        clear x0 x1 x2 x3 x4
        have e2 := e1.kept hb2
        have r2 := r1.kept hb2
        have b2 := b1.trans (hb2.mono (Nat.le_of_lt e1.lt))
        have t0 := r2.cell 0 rfl
        have t1 := r2.cell 1 rfl
        have t2 := r2.cell 2 rfl
        have t3 := r2.cell 3 rfl
        have t4 := r2.cell 4 rfl
        have tf0 := r2.free 0
        have tf1 := r2.free 1
        have tf2 := r2.free 2
        have tf3 := r2.free 3
        have tf4 := r2.free 4
        go_wp2_with fail
        have OV := (((((r2.set 0 (.int .i64 0)).set 1 (.slice none 0 0)).set 2 (.slice none 0 0)).set 3 (.int .i64 0)).set 4 (.int .i64 0))
        have y0 := OV.cell 0 rfl
        have y1 := OV.cell 1 rfl
        have y2 := OV.cell 2 rfl
        have y3 := OV.cell 3 rfl
        have y4 := OV.cell 4 rfl
        have bz := (((((b2.setCell (p := ⟨B + 1, 0, none⟩) (by simp) (.int .i64 0)).setCell (p := ⟨B + 1, 1, none⟩) (by simp) (.slice none 0 0)).setCell (p := ⟨B + 1, 2, none⟩) (by simp) (.slice none 0 0)).setCell (p := ⟨B + 1, 3, none⟩) (by simp) (.int .i64 0)).setCell (p := ⟨B + 1, 4, none⟩) (by simp) (.int .i64 0))
        exact bodyPost_ret (v := .tuple #[.agg #[.int .i64 0, .slice none 0 0, .slice none 0 0, .int .i64 0, .int .i64 0], .int .i64 5]) (by simp [results, Try.results58, go_sem, y0, y1, y2, y3, y4]) rfl ⟨none, 0, 0, none, 0, 0, rfl, Sb.none _ _, Sq.none _ _, bz⟩
      · have h' : (en != -1) = true := by simp; omega
        have h6 : (en != p) = false := by simp; omega
        clear h1 h h5
        go_wp2_with fail
        refine (hup _ (hgk b1)).mono ?_
        rintro e w2 ⟨rfl, hb2⟩
        clear x0 x1 x2 x3 x4
        have e2 := e1.kept hb2
        have r2 := r1.kept hb2
        have b2 := b1.trans (hb2.mono (Nat.le_of_lt e1.lt))
        have t0 := r2.cell 0 rfl
        have t1 := r2.cell 1 rfl
        have t2 := r2.cell 2 rfl
        have t3 := r2.cell 3 rfl
        have t4 := r2.cell 4 rfl
        have tf0 := r2.free 0
        have tf1 := r2.free 1
        have tf2 := r2.free 2
        have tf3 := r2.free 3
        have tf4 := r2.free 4
        go_wp2_with fail
        have OV := (((((r2.set 0 (.int .i64 0)).set 1 (.slice none 0 0)).set 2 (.slice none 0 0)).set 3 (.int .i64 0)).set 4 (.int .i64 0))
        have y0 := OV.cell 0 rfl
        have y1 := OV.cell 1 rfl
        have y2 := OV.cell 2 rfl
        have y3 := OV.cell 3 rfl
        have y4 := OV.cell 4 rfl
        have bz := (((((b2.setCell (p := ⟨B + 1, 0, none⟩) (by simp) (.int .i64 0)).setCell (p := ⟨B + 1, 1, none⟩) (by simp) (.slice none 0 0)).setCell (p := ⟨B + 1, 2, none⟩) (by simp) (.slice none 0 0)).setCell (p := ⟨B + 1, 3, none⟩) (by simp) (.int .i64 0)).setCell (p := ⟨B + 1, 4, none⟩) (by simp) (.int .i64 0))
        exact bodyPost_ret (v := .tuple #[.agg #[.int .i64 0, .slice none 0 0, .slice none 0 0, .int .i64 0, .int .i64 0], .int .i64 5]) (by simp [results, Try.results58, go_sem, y0, y1, y2, y3, y4]) rfl ⟨none, 0, 0, none, 0, 0, rfl, Sb.none _ _, Sq.none _ _, bz⟩
  · rw [hx]
    clear hx
    have hpos : posB p = true := posB_iff.2 ⟨hp0, hp1⟩
    go_enter Try.func58, Try.ntmps58
    rw [hB]
    go_wp2_with fail
    refine hmay.mono ?_
    rintro e w1 ⟨he, hb1⟩
    clear x0 x1 x2 x3 x4
    have e1 := e0'.kept hb1
    have r1 := r0'.kept hb1
    have b1 := hb0'.trans (hb1.mono (Nat.le_of_lt e0'.lt))
    have x0 := e1.cell 0 rfl
    have x1 := e1.cell 1 rfl
    have x2 := e1.cell 2 rfl
    have x3 := e1.cell 3 rfl
    have x4 := e1.cell 4 rfl
    rw [(wmay_iff _).2 hv] at he; subst he
    have hup := wend_any base A n c G m d cap en gl
    obtain ⟨U, hU⟩ : ∃ U, lastOf base gl = U := ⟨_, rfl⟩
    have hen : en = -1 ∨ U ≤ en := by have := hv.en; rw [show upW ⟨base, bl, gl, cap, en⟩ = lastOf base gl from rfl, hU] at this; exact this
    have hU0 : 0 ≤ U := by have := up_ge hv; have := hv.base0; rw [show upW ⟨base, bl, gl, cap, en⟩ = lastOf base gl from rfl, hU] at *; rw [show (⟨base, bl, gl, cap, en⟩ : Wv).base = base from rfl] at *; omega
    rw [show upW ⟨base, bl, gl, cap, en⟩ = lastOf base gl from rfl, hU] at hc
    rw [hU] at hup
    try simp only at hc
    have hns : n ≤ 1000000 := by have := b_small hv; rw [show (⟨base, bl, gl, cap, en⟩ : Wv).b = bl from rfl, hbl] at this; omega
    have hms : m ≤ 1000000 := by have := hv.len; rw [show (⟨base, bl, gl, cap, en⟩ : Wv).got = gl from rfl, hgl] at this; omega
    have HU := Lib.hid hU; clear hU hv
    have h5 : decide (p < U) = false := decide_eq_false (by omega)
    go_wp2_with fail
    refine (wpos_any p _).mono ?_
    rintro e w9 ⟨he, rfl⟩
    rw [hpos] at he
    subst he
    go_upto_region 3 with fail
    go_cut [29] (fun s29 wx => s29 = .bool false ∧ Below w1.heap.size w1 wx)
    case first =>
      rcases hen with h | h
      · have h' : (en != -1) = false := by simp [h]
        clear hc h
        go_wp2_with fail
        refine (hup _ (hgk b1)).mono ?_
        rintro e w2 ⟨rfl, hb2⟩
        go_wp2_with fail
        go_meet
        case rel => exact ⟨rfl, hb2⟩
      · have h' : (en != -1) = true := by simp; omega
        have h6 : (en != p) = false := by simp; omega
        clear hc h
        go_wp2_with fail
        refine (hup _ (hgk b1)).mono ?_
        rintro e w2 ⟨rfl, hb2⟩
        go_wp2_with fail
        go_meet
        case rel => exact ⟨rfl, hb2⟩
    case rest =>
    obtain ⟨rfl, hb2⟩ := hcut
    rename World => w2
    clear x0 x1 x2 x3 x4 hc hen
    have e2 := e1.kept hb2
    have r2 := r1.kept hb2
    have b2 := b1.trans (hb2.mono (Nat.le_of_lt e1.lt))
    have x0 := e2.cell 0 rfl
    have x1 := e2.cell 1 rfl
    have x2 := e2.cell 2 rfl
    have x3 := e2.cell 3 rfl
    have x4 := e2.cell 4 rfl
    have hr2 := r2.lt
    have he2 := e2.lt
    go_upto_region 5 with fail
    go_cut [32] (fun s32 wx => ∃ R q H r, Bx wx B 25 [.int .i64 base, .slice R n q, .slice H m r, .int .i64 cap, .int .i64 en] ∧ Bx wx (B + 1) 25 [.int .i64 0, .slice none 0 0, .slice none 0 0, .int .i64 0, .int .i64 0] ∧ Below B w wx ∧ Sb wx (B + 1 + 1) R n q bl ∧ Sq wx (B + 1 + 1) H m r gl)
    case first =>
      go_wp2_with fail
      refine (wowned_any base A n c G m d cap en bl gl _ (hbk b2) (hgk b2) hns hms).mono ?_
      rintro e w3 ⟨R, q, H, r, rfl, sb, sq, hb3⟩
      clear x0 x1 x2 x3 x4
      have e3 := e2.kept hb3
      have r3 := r2.kept hb3
      have b3 := b2.trans (hb3.mono (Nat.le_of_lt e2.lt))
      have sb' := sb.mono (base' := B + 1 + 1) (by omega)
      have sq' := sq.mono (base' := B + 1 + 1) (by omega)
      have hbB : B < B + 1 + 1 := by omega
      have z0 := e3.free 0
      have z1 := e3.free 1
      have z2 := e3.free 2
      have z3 := e3.free 3
      have z4 := e3.free 4
      have z'0 := e3.cell 0 rfl
      have z'1 := e3.cell 1 rfl
      have z'2 := e3.cell 2 rfl
      have z'3 := e3.cell 3 rfl
      have z'4 := e3.cell 4 rfl
      go_wp2_with fail
      go_meet
      case rel =>
        exact ⟨R, q, H, r, (((((e3.set 0 (.int .i64 base)).set 1 (.slice R n q)).set 2 (.slice H m r)).set 3 (.int .i64 cap)).set 4 (.int .i64 en)), (((((r3.far (p := ⟨B, 0, none⟩) (by simp) (.int .i64 base)).far (p := ⟨B, 1, none⟩) (by simp) (.slice R n q)).far (p := ⟨B, 2, none⟩) (by simp) (.slice H m r)).far (p := ⟨B, 3, none⟩) (by simp) (.int .i64 cap)).far (p := ⟨B, 4, none⟩) (by simp) (.int .i64 en)), (((((b3.setCell (p := ⟨B, 0, none⟩) (by simp) (.int .i64 base)).setCell (p := ⟨B, 1, none⟩) (by simp) (.slice R n q)).setCell (p := ⟨B, 2, none⟩) (by simp) (.slice H m r)).setCell (p := ⟨B, 3, none⟩) (by simp) (.int .i64 cap)).setCell (p := ⟨B, 4, none⟩) (by simp) (.int .i64 en)), (((((sb'.set (p := ⟨B, 0, none⟩) hbB (.int .i64 base)).set (p := ⟨B, 1, none⟩) hbB (.slice R n q)).set (p := ⟨B, 2, none⟩) hbB (.slice H m r)).set (p := ⟨B, 3, none⟩) hbB (.int .i64 cap)).set (p := ⟨B, 4, none⟩) hbB (.int .i64 en)), (((((sq'.set (p := ⟨B, 0, none⟩) hbB (.int .i64 base)).set (p := ⟨B, 1, none⟩) hbB (.slice R n q)).set (p := ⟨B, 2, none⟩) hbB (.slice H m r)).set (p := ⟨B, 3, none⟩) hbB (.int .i64 cap)).set (p := ⟨B, 4, none⟩) hbB (.int .i64 en))⟩
    case rest =>
    obtain ⟨R, q, H, r, e4, r4, b4, s4, q4⟩ := hcut
    rename World => w4
    clear x0 x1 x2 x3 x4
    have zz := e4.free 4
    have z4 := e4.cell 4 rfl
    have e5 := e4.set 4 (.int .i64 p)
    have r5 := r4.far (p := ⟨B, 4, none⟩) (by simp) (.int .i64 p)
    have b5 := b4.setCell (p := ⟨B, 4, none⟩) (by simp) (.int .i64 p)
    have s5 := s4.set (p := ⟨B, 4, none⟩) (by simp; omega) (.int .i64 p)
    have q5 := q4.set (p := ⟨B, 4, none⟩) (by simp; omega) (.int .i64 p)
    have u0 := e5.cell 0 rfl
    have u1 := e5.cell 1 rfl
    have u2 := e5.cell 2 rfl
    have u3 := e5.cell 3 rfl
    have u4 := e5.cell 4 rfl
    have t0 := r5.cell 0 rfl
    have t1 := r5.cell 1 rfl
    have t2 := r5.cell 2 rfl
    have t3 := r5.cell 3 rfl
    have t4 := r5.cell 4 rfl
    have tf0 := r5.free 0
    have tf1 := r5.free 1
    have tf2 := r5.free 2
    have tf3 := r5.free 3
    have tf4 := r5.free 4
    go_wp2_with fail
    have OV := (((((r5.set 0 (.int .i64 base)).set 1 (.slice R n q)).set 2 (.slice H m r)).set 3 (.int .i64 cap)).set 4 (.int .i64 p))
    have y0 := OV.cell 0 rfl
    have y1 := OV.cell 1 rfl
    have y2 := OV.cell 2 rfl
    have y3 := OV.cell 3 rfl
    have y4 := OV.cell 4 rfl
    have bz := (((((b5.setCell (p := ⟨B + 1, 0, none⟩) (by simp) (.int .i64 base)).setCell (p := ⟨B + 1, 1, none⟩) (by simp) (.slice R n q)).setCell (p := ⟨B + 1, 2, none⟩) (by simp) (.slice H m r)).setCell (p := ⟨B + 1, 3, none⟩) (by simp) (.int .i64 cap)).setCell (p := ⟨B + 1, 4, none⟩) (by simp) (.int .i64 p))
    have sz := (((((s5.set (p := ⟨B + 1, 0, none⟩) (by simp) (.int .i64 base)).set (p := ⟨B + 1, 1, none⟩) (by simp) (.slice R n q)).set (p := ⟨B + 1, 2, none⟩) (by simp) (.slice H m r)).set (p := ⟨B + 1, 3, none⟩) (by simp) (.int .i64 cap)).set (p := ⟨B + 1, 4, none⟩) (by simp) (.int .i64 p))
    have qz := (((((q5.set (p := ⟨B + 1, 0, none⟩) (by simp) (.int .i64 base)).set (p := ⟨B + 1, 1, none⟩) (by simp) (.slice R n q)).set (p := ⟨B + 1, 2, none⟩) (by simp) (.slice H m r)).set (p := ⟨B + 1, 3, none⟩) (by simp) (.int .i64 cap)).set (p := ⟨B + 1, 4, none⟩) (by simp) (.int .i64 p))
    exact bodyPost_ret (v := .tuple #[.agg #[.int .i64 base, .slice R n q, .slice H m r, .int .i64 cap, .int .i64 p], .int .i64 0]) (by simp [results, Try.results58, go_sem, y0, y1, y2, y3, y4]) rfl ⟨R, n, q, H, m, r, rfl, sz.mono (by omega), qz.mono (by omega), bz⟩
end Go.Proofs.Ytggnhccpncgfiaa
namespace Go.Proofs.Ytggnhccpncgfiaa
open Go.RowKit
theorem gap_zero {l : List Sp} (h : mayB l = true) : gapF l 0 = gapIn l 0 := by unfold gapF; rw [if_pos h]; rfl
set_option maxRecDepth 100000 in
set_option maxHeartbeats 16000000 in
theorem rlmiss_any (A : Option Addr) (n c : Nat) (l : List Sp) (w : World) (h : Ss w A n c l) :
    Calls Try.prog 61 #[.slice A n c] w fun e w' => e = .returned (.int .i64 (gapF l 0)) ∧ Below w.heap.size w w' := by
  go_enter Try.func61, Try.ntmps61
  go_wp2_with fail
  refine (gap_any A n c l 0 w h).mono ?_
  rintro e w1 ⟨rfl, hb⟩
  go_wp2_with fail
  go_ret
  exact ⟨rfl, hb⟩
theorem va_n {n : Nat} {bl : List Int} {base cap en : Int} {gl : List Sp} (hv : Va ⟨base, bl, gl, cap, en⟩) (hl : bl.length = n) : n ≤ 140737488355328 := by
  have h1 := hv.blen; have h2 := hv.up; have h3 := hv.cap1
  have h4 : edW ⟨base, bl, gl, cap, en⟩ ≤ base + cap := by unfold edW; exact Int.min_le_left _ _
  dsimp only at h1 h2 h3
  omega
set_option maxRecDepth 100000 in
set_option maxHeartbeats 16000000 in
theorem rlcum_any (base : Int) (A : Option Addr) (n c : Nat) (G : Option Addr) (m d : Nat) (cap en : Int) (bl : List Int) (gl : List Sp) (w : World) (hb : Sl w A n c bl) (hg : Ss w G m d gl) (hv : Va ⟨base, bl, gl, cap, en⟩) :
    Calls Try.prog 57 #[.agg #[.int .i64 base, .slice A n c, .slice G m d, .int .i64 cap, .int .i64 en]] w fun e w' => e = .returned (.int .i64 (farR ⟨base, bl, gl, cap, en⟩)) ∧ Below w.heap.size w w' := by
  obtain ⟨B, hB⟩ : ∃ B, w.heap.size = B := ⟨_, rfl⟩
  have e1 := Bx.new w 25 [.int .i64 base, .slice A n c, .slice G m d, .int .i64 cap, .int .i64 en]
  have b1 := (Below.refl w.heap.size w).alloc (Nat.le_refl _) (.cells ([.int .i64 base, .slice A n c, .slice G m d, .int .i64 cap, .int .i64 en] : List Value).toArray 25)
  have s1 := hb.alloc (.cells ([.int .i64 base, .slice A n c, .slice G m d, .int .i64 cap, .int .i64 en] : List Value).toArray 25)
  have g1 := hg.alloc (.cells ([.int .i64 base, .slice A n c, .slice G m d, .int .i64 cap, .int .i64 en] : List Value).toArray 25)
  have HN := Lib.hid (va_n hv hb.rd.len)
  have hrdy : readyR ⟨base, bl, gl, cap, en⟩ = (rdyW ⟨base, bl, gl, cap, en⟩ : Int) := by unfold readyR; rw [if_pos ((wmay_iff _).2 hv)]
  have hbd : 0 ≤ base ∧ base ≤ 2305843009213693952 ∧ (rdyW ⟨base, bl, gl, cap, en⟩ : Int) ≤ n := ⟨hv.base0, hv.base1, by have := rdy_le ⟨base, bl, gl, cap, en⟩; have := hb.rd.len; dsimp only at *; omega⟩
  have hn := HN.out
  have i1 : IntKind.i64.wrap (base + (rdyW ⟨base, bl, gl, cap, en⟩ : Int)) = base + (rdyW ⟨base, bl, gl, cap, en⟩ : Int) := IntWalk.i64_in _ (by omega)
  have i2 : IntKind.i64.wrap (base + (rdyW ⟨base, bl, gl, cap, en⟩ : Int) + 1) = base + (rdyW ⟨base, bl, gl, cap, en⟩ : Int) + 1 := IntWalk.i64_in _ (by omega)
  rw [hB] at e1 b1 ⊢
  clear hb hg hn
  go_enter Try.func57, Try.ntmps57
  go_upto_region 1 with fail
  generalize w.alloc (.cells ([.int .i64 base, .slice A n c, .slice G m d, .int .i64 cap, .int .i64 en] : List Value).toArray 25) = w1 at e1 b1 s1 g1 ⊢
  clear hB
  have z1 : B ≤ w1.heap.size := Nat.le_of_lt e1.lt
  refine wp_region_tail 5 6 (fun (W : World) => Bx W B 25 [.int .i64 base, .slice A n c, .slice G m d, .int .i64 cap, .int .i64 en] ∧ Sl W A n c bl ∧ Ss W G m d gl ∧ Below B w W ∧ B ≤ W.heap.size) (by kernel_rfl) (by rfl) (by decide) ?_
  have HS : ((fun (W : World) => Bx W B 25 [.int .i64 base, .slice A n c, .slice G m d, .int .i64 cap, .int .i64 en] ∧ Sl W A n c bl ∧ Ss W G m d gl ∧ Below B w W ∧ B ≤ W.heap.size)) _ := ⟨e1.drew, s1.keep (Below.refl _ _).drew, g1.keep (Below.refl _ _).drew, b1.drew, z1⟩
  refine wpAnyT_take (i := 0) (v := .pointer (some ⟨B, 0, none⟩)) rfl (by kernel_rfl) (fun _ _ _ h => h) (Or.inl ⟨by rfl, fun w hSw => ?_⟩) HS ?_
  · clear hSw HS
    go_simp
  try simp only [Act.put, List.setIfInBounds_toArray, List.set_cons_zero, List.set_cons_succ]
  refine wpAnyT_take (i := 1) (v := .int .i64 base) rfl (by kernel_rfl) (fun _ _ _ h => h) (Or.inl ⟨by rfl, fun w hSw => ?_⟩) HS ?_
  · have cc := Bx.cell (hSw.1) 0 (v := .int .i64 base) rfl
    clear hSw HS
    go_simp
  try simp only [Act.put, List.setIfInBounds_toArray, List.set_cons_zero, List.set_cons_succ]
  refine wpAnyT_take (i := 2) (v := .agg #[.int .i64 base, .slice A n c, .slice G m d, .int .i64 cap, .int .i64 en]) rfl (by kernel_rfl) (fun _ _ _ h => h) (rsub_y (cs := [.int .i64 base, .slice A n c, .slice G m d, .int .i64 cap, .int .i64 en]) (vs := [.int .i64 base, .slice A n c, .slice G m d, .int .i64 cap, .int .i64 en]) ir_weave (by rfl) (.tmp 1) rfl rfl (fun w hSw => hSw.1) rfl rfl) HS ?_
  try simp only [Act.put, List.setIfInBounds_toArray, List.set_cons_zero, List.set_cons_succ]
  refine wpAnyT_one (k := 3) rfl (by kernel_rfl) (by decide) (fun K hK => ?_)
  go_simp
  refine (wready_any base A n c G m d cap en bl gl _ HS.2.1 HS.2.2.1 HN.out).mono ?_
  rintro e w2 ⟨rfl, hb⟩
  rw [hrdy]
  have HS : ((fun (W : World) => Bx W B 25 [.int .i64 base, .slice A n c, .slice G m d, .int .i64 cap, .int .i64 en] ∧ Sl W A n c bl ∧ Ss W G m d gl ∧ Below B w W ∧ B ≤ W.heap.size)) _ := ⟨HS.1.kept hb, HS.2.1.keep hb, HS.2.2.1.keep hb, HS.2.2.2.1.trans (hb.mono HS.2.2.2.2), Nat.le_trans HS.2.2.2.2 hb.size⟩
  refine hK _ _ HS ?_
  clear hK K
  try simp only [Act.put, List.setIfInBounds_toArray, List.set_cons_zero, List.set_cons_succ]
  refine wpAnyT_take (i := 4) (v := .int .i64 (base + (rdyW ⟨base, bl, gl, cap, en⟩ : Int))) rfl (by kernel_rfl) (fun _ _ _ h => h) (Or.inl ⟨by rfl, fun w hSw => ?_⟩) HS ?_
  · clear hSw HS
    go_simp
  try simp only [Act.put, List.setIfInBounds_toArray, List.set_cons_zero, List.set_cons_succ]
  refine ⟨by kernel_rfl, ?_⟩
  simp only [List.drop_succ_cons, List.drop_zero]
  obtain ⟨e3, s3, g3, b3, z3⟩ := HS
  clear e1 s1 g1 b1 z1
  have x4 := e3.cell 4 rfl
  by_cases hq : base + (rdyW ⟨base, bl, gl, cap, en⟩ : Int) = en
  · have dq : (base + (rdyW ⟨base, bl, gl, cap, en⟩ : Int) == en) = true := by simpa using hq
    have hr : farR ⟨base, bl, gl, cap, en⟩ = base + (rdyW ⟨base, bl, gl, cap, en⟩ : Int) + 1 := if_pos hq.symm
    have HR := Lib.hid hr
    clear hr hrdy hbd hv hq
    go_wp2_with fail
    go_ret
    exact ⟨by rw [HR.out]; rfl, b3⟩
  · have dq : (base + (rdyW ⟨base, bl, gl, cap, en⟩ : Int) == en) = false := by simpa using hq
    have hr : farR ⟨base, bl, gl, cap, en⟩ = base + (rdyW ⟨base, bl, gl, cap, en⟩ : Int) := if_neg (fun h => hq h.symm)
    have HR := Lib.hid hr
    clear hr hrdy hbd hv hq
    go_wp2_with fail
    go_ret
    exact ⟨by rw [HR.out]; rfl, b3⟩
end Go.Proofs.Ytggnhccpncgfiaa
namespace Go.Proofs.Ytggnhccpncgfiaa
open Go.RowKit
theorem info_rin : (Try.prog.info? 29).map (·.size) = some 6 := by kernel_rfl
theorem rin_struct : ∃ fs, Try.prog.underlying 29 = some (.struct fs) := ⟨_, Try.underlying29⟩
section
variable {W : World} {B : Nat} {t : TypeId} {cs : List Value}
theorem rin_put (h : Bx W B t cs) (vs : List Value) : Bx (W.setRow B vs.toArray) B t vs := setRow_heap W B _ vs.toArray t (0, 0) h
theorem rin_grown (W : World) (B : Nat) (vs : Array Value) : W.grownBy (W.setRow B vs) (some B) :=
  ⟨rfl, rfl, rfl, by simp [World.setRow], fun i _ hne => setRow_other W B i vs (fun e => hne (by rw [e]))⟩
/-- one is loaded whole, in a plain region -/
theorem rin_load {ops : Array Oper} {rest : List Oper} {o : Oper} {a : Act} {Q : Exit → Act → World → Prop} (hgd : o.guard = none) (x : Operand) (ho : o.op = .load 29 x) (hx : a.eval x = .pointer (some ⟨B, 0, none⟩))
    (h : Bx W B t cs) (hl : cs.length = 6) (k : wpList Try.prog ops Q rest (a.put o.dst (.agg cs.toArray)) W) : wpList Try.prog ops Q (o :: rest) a W := by
  obtain ⟨fs, hu⟩ := rin_struct
  exact wpList_load_row hgd _ x ho B hx t cs.toArray (0, 0) _ h hu rfl (by rw [info_rin]; simp [hl]) k
/-- one is stored whole -/
theorem rin_store {ops : Array Oper} {rest : List Oper} {o : Oper} {a : Act} {Q : Exit → Act → World → Prop} (hgd : o.guard = none) (x y : Operand) (ho : o.op = .store 29 x y) (hx : a.eval x = .pointer (some ⟨B, 0, none⟩))
    (vs : List Value) (hy : a.eval y = .agg vs.toArray) (h : Bx W B t cs) (hl : cs.length = 6) (hv : vs.length = 6) (h1 : vs.all (·.oneCell') = true) (k : wpList Try.prog ops Q rest (a.put o.dst undef) (W.setRow B vs.toArray)) : wpList Try.prog ops Q (o :: rest) a W :=
  wpList_store_row hgd _ x y ho B vs.toArray hx hy t cs.toArray h (by rw [info_rin]; simp [hv]) (by simp [hl, hv]) (by simpa using h1) k
theorem rin_var (h : Bx W B t cs) (hl : cs.length = 6) : (Go.loadVar 29 ⟨B, 0, none⟩).run Try.prog W = .ok (.agg cs.toArray) W := by
  obtain ⟨fs, hu⟩ := rin_struct
  exact run_loadVar_row W B t 29 cs.toArray (0, 0) _ h hu rfl (by rw [info_rin]; simp [hl])
variable {fn : Func} {tmps : Array Value} {R : Ending → World → Prop} {v u : Value} {ds : List Deferred} {p q r : Tmp}
theorem rin_end2 (hr : fn.results = #[.cell p 29, .tmp q]) (h2 : tmps.getD p undef = .pointer (some ⟨B, 0, none⟩)) (h3 : tmps.getD q undef = v)
    (e : Bx W B t cs) (hl : cs.length = 6) (hd : ds = []) (h : R (.returned (.tuple #[.agg cs.toArray, v])) W) : bodyPost Try.prog fn R .ret { tmps := tmps, defers := ds } W := by
  have l2 := rin_var e hl
  have h2a : tmps[p]?.getD undef = .pointer (some ⟨B, 0, none⟩) := by simpa using h2
  have h2b : tmps[q]?.getD undef = v := by simpa using h3
  refine bodyPost_ret (v := .tuple #[.agg cs.toArray, v]) ?_ hd h
  simp [results, hr, h2a, h2b, asAddr, l2]
end
theorem ir_inlets : IsR 30 24 := ⟨⟨_, Try.underlying30, rfl⟩, by kernel_rfl⟩
/-- a new box, stored whole -/
theorem rin_new (w : World) (vs : List Value) (hv : vs.length = 6) : Bx ((w.alloc (.cells ([.slice none 0 0, .int .i64 0, .int .i64 0, .int .i64 0, .int .i64 0, .int .i64 0] : List Value).toArray 29)).setRow w.heap.size vs.toArray) w.heap.size 29 vs ∧ Below w.heap.size w ((w.alloc (.cells ([.slice none 0 0, .int .i64 0, .int .i64 0, .int .i64 0, .int .i64 0, .int .i64 0] : List Value).toArray 29)).setRow w.heap.size vs.toArray) :=
  ⟨rin_put (Bx.new w 29 [.slice none 0 0, .int .i64 0, .int .i64 0, .int .i64 0, .int .i64 0, .int .i64 0]) vs, ((Below.refl _ _).alloc (Nat.le_refl _) _).grown (rin_grown _ w.heap.size _) (by simp) (fun k hk => by cases hk; exact Nat.le_refl _)⟩
end Go.Proofs.Ytggnhccpncgfiaa
namespace Go.Proofs.Ytggnhccpncgfiaa
open Go.RowKit
theorem info_ms : (Try.prog.info? 27).map (·.size) = some 5 := by kernel_rfl
theorem ms_struct : ∃ fs, Try.prog.underlying 27 = some (.struct fs) := ⟨_, Try.underlying27⟩
section
variable {W : World} {B : Nat} {t : TypeId} {cs : List Value}
/-- one is loaded whole, in a plain region -/
theorem ms_load {ops : Array Oper} {rest : List Oper} {o : Oper} {a : Act} {Q : Exit → Act → World → Prop} (hgd : o.guard = none) (x : Operand) (ho : o.op = .load 27 x) (hx : a.eval x = .pointer (some ⟨B, 0, none⟩))
    (h : Bx W B t cs) (hl : cs.length = 5) (k : wpList Try.prog ops Q rest (a.put o.dst (.agg cs.toArray)) W) : wpList Try.prog ops Q (o :: rest) a W := by
  obtain ⟨fs, hu⟩ := ms_struct
  exact wpList_load_row hgd _ x ho B hx t cs.toArray (0, 0) _ h hu rfl (by rw [info_ms]; simp [hl]) k
theorem ms_var (h : Bx W B t cs) (hl : cs.length = 5) : (Go.loadVar 27 ⟨B, 0, none⟩).run Try.prog W = .ok (.agg cs.toArray) W := by
  obtain ⟨fs, hu⟩ := ms_struct
  exact run_loadVar_row W B t 27 cs.toArray (0, 0) _ h hu rfl (by rw [info_ms]; simp [hl])
/-- one is loaded whole, in a region that draws its order -/
theorem ms_yields {ops : Array Oper} {S : World → Prop} {op : Oper} {a : Act} (hw : Region.wanted op (yielded ops a.tmps) = true) (x : Operand) (ho : op.op = .load 27 x)
    (hx : a.eval x = .pointer (some ⟨B, 0, none⟩)) (cs : List Value) (hl : cs.length = 5) (t : TypeId) (hS : ∀ W, S W → Bx W B t cs) : YieldsIf Try.prog ops S op (.agg cs.toArray) a := by
  obtain ⟨fs, hu⟩ := ms_struct
  exact .inl ⟨hw, fun w hw' => by
    unfold execOp
    simp only [ho, hx, Instr.loadAt, Instr.sureAddr, Sem.run_bind, Sem.run_pure, Result.andThen_ok, run_loadVar_row w B t 27 cs.toArray (0, 0) _ (hS w hw') hu rfl (by rw [info_ms]; simp [hl])]⟩
variable {fn : Func} {tmps : Array Value} {R : Ending → World → Prop} {v u : Value} {ds : List Deferred} {p q r : Tmp}
/-- a box alone, a box and one or two slots: what a call hands back -/
theorem ms_end1 (hr : fn.results = #[.cell p 27]) (h2 : tmps.getD p undef = .pointer (some ⟨B, 0, none⟩))
    (e : Bx W B t cs) (hl : cs.length = 5) (hd : ds = []) (h : R (.returned (.agg cs.toArray)) W) : bodyPost Try.prog fn R .ret { tmps := tmps, defers := ds } W := by
  have l2 := ms_var e hl
  have h2a : tmps[p]?.getD undef = .pointer (some ⟨B, 0, none⟩) := by simpa using h2
  refine bodyPost_ret (v := .agg cs.toArray) ?_ hd h
  simp [results, hr, h2a, asAddr, l2]
end
end Go.Proofs.Ytggnhccpncgfiaa
namespace Go.Proofs.Ytggnhccpncgfiaa
open Go.RowKit
set_option maxHeartbeats 400000 in
theorem clamp_any (n low high : Int) (w : World) :
    Calls Try.prog 101 #[.int .i64 n, .int .i64 low, .int .i64 high] w fun e w' => e = .returned (.int .i64 (if n < low ∨ high < low then low else if high < n then high else n)) ∧ w = w' := by
  by_cases h1 : n < low
  · rw [if_pos (.inl h1)]
    go_enter Try.func101, Try.ntmps101
    go_wp2
    go_ret
    exact ⟨rfl, rfl⟩
  · by_cases h2 : high < low
    · rw [if_pos (.inr h2)]
      go_enter Try.func101, Try.ntmps101
      go_wp2
      go_ret
      exact ⟨rfl, rfl⟩
    · rw [if_neg (by omega)]
      by_cases h3 : high < n
      · rw [if_pos h3]
        have h4 : min n high = high := by omega
        go_enter Try.func101, Try.ntmps101
        go_wp2
        go_ret
        exact ⟨rfl, rfl⟩
      · rw [if_neg h3]
        have h4 : min n high = n := by omega
        go_enter Try.func101, Try.ntmps101
        go_wp2
        go_ret
        exact ⟨rfl, rfl⟩
end Go.Proofs.Ytggnhccpncgfiaa
namespace Go.Proofs.Ytggnhccpncgfiaa
open Go.RowKit
theorem res8_of (n : Int) : ((n.tmod 8 + 8).tmod 8 = n % 8) ∧ -8 < n.tmod 8 ∧ n.tmod 8 < 8 := by
  rcases Int.le_total 0 n with h | h
  · have a := Int.tmod_eq_emod_of_nonneg (b := 8) h
    rw [a, Int.tmod_eq_emod_of_nonneg (by omega)]
    omega
  · have a : n.tmod 8 = -((-n) % 8) := by
      have b := Int.neg_tmod (-n) 8
      rw [Int.neg_neg] at b
      rw [b, Int.tmod_eq_emod_of_nonneg (by omega)]
    rw [a, Int.tmod_eq_emod_of_nonneg (by omega)]
    omega
set_option maxRecDepth 100000 in
set_option maxHeartbeats 4000000 in
/-- the residue by 8, of a number of which it may be told -/
theorem res8_any (n : Int) (B : Nat) (w : World) (hx : w.cell? ⟨B, 0, none⟩ = some (.int .i64 8)) (h0 : -4611686018427387904 ≤ n) (h1 : n ≤ 4611686018427387904) :
    Calls Try.prog 105 #[.int .i64 n, .pointer (some ⟨B, 0, none⟩)] w fun e w' => e = .returned (.int .i64 (n % 8)) ∧ Below w.heap.size w w' := by
  obtain ⟨k1, k2, k3⟩ := res8_of n
  obtain ⟨q, hq⟩ : ∃ q, n % 8 = q := ⟨_, rfl⟩
  obtain ⟨r, hr⟩ : ∃ r, n.tmod 8 = r := ⟨_, rfl⟩
  rw [hq, hr] at k1
  rw [hr] at k2 k3
  rw [hq]
  have HQ := Lib.hid hq; clear hq
  go_enter Try.func105, Try.ntmps105
  go_upto_region 8 with fail
  go_quiet (fail)
  go_wp2_with fail
  go_ret
  exact ⟨rfl, below_drewN (Below.refl _ _) _⟩
theorem res24_of (n : Int) : ((n.tmod 16777216 + 16777216).tmod 16777216 = n % 16777216) ∧ -16777216 < n.tmod 16777216 ∧ n.tmod 16777216 < 16777216 := by
  rcases Int.le_total 0 n with h | h
  · have a := Int.tmod_eq_emod_of_nonneg (b := 16777216) h
    rw [a, Int.tmod_eq_emod_of_nonneg (by omega)]
    omega
  · have a : n.tmod 16777216 = -((-n) % 16777216) := by
      have b := Int.neg_tmod (-n) 16777216
      rw [Int.neg_neg] at b
      rw [b, Int.tmod_eq_emod_of_nonneg (by omega)]
    rw [a, Int.tmod_eq_emod_of_nonneg (by omega)]
    omega
set_option maxRecDepth 100000 in
set_option maxHeartbeats 4000000 in
/-- the residue by 16777216, of a number of which it may be told -/
theorem res24_any (n : Int) (B : Nat) (w : World) (hx : w.cell? ⟨B, 0, none⟩ = some (.int .i64 16777216)) (h0 : -4611686018427387904 ≤ n) (h1 : n ≤ 4611686018427387904) :
    Calls Try.prog 105 #[.int .i64 n, .pointer (some ⟨B, 0, none⟩)] w fun e w' => e = .returned (.int .i64 (n % 16777216)) ∧ Below w.heap.size w w' := by
  obtain ⟨k1, k2, k3⟩ := res24_of n
  obtain ⟨q, hq⟩ : ∃ q, n % 16777216 = q := ⟨_, rfl⟩
  obtain ⟨r, hr⟩ : ∃ r, n.tmod 16777216 = r := ⟨_, rfl⟩
  rw [hq, hr] at k1
  rw [hr] at k2 k3
  rw [hq]
  have HQ := Lib.hid hq; clear hq
  go_enter Try.func105, Try.ntmps105
  go_upto_region 8 with fail
  go_quiet (fail)
  go_wp2_with fail
  go_ret
  exact ⟨rfl, below_drewN (Below.refl _ _) _⟩
/-- the function value that tells the residue by m; it is bound to a block of its own -/
theorem modulo_any (m : Int) (w : World) :
    Calls Try.prog 103 #[.int .i64 m] w fun e w' => e = .returned (.func (.func 105) #[] #[.pointer (some ⟨w.heap.size, 0, none⟩)]) ∧ Bx w' w.heap.size 3 [.int .i64 m] ∧ Below w.heap.size w w' := by
  have hmf : ∀ (fn : Fn) (first cap : Array Value) (w : World), (Instr.makeFunc fn first cap).run Try.prog w = .ok (.func fn first cap) w := fun _ _ _ _ => rfl
  go_enter Try.func103, Try.ntmps103
  go_wp2
  go_ret
  exact ⟨rfl, Bx.new w 3 [.int .i64 m], (Below.refl _ _).alloc (Nat.le_refl _) _⟩
/-- a number that is moved to the nearest one of a range -/
def clM (n low high : Int) : Int := if n < low ∨ high < low then low else if high < n then high else n
theorem cl_any (n low high : Int) (w : World) :
    Calls Try.prog 101 #[.int .i64 n, .int .i64 low, .int .i64 high] w fun e w' => e = .returned (.int .i64 (clM n low high)) ∧ w = w' := clamp_any n low high w
theorem clm_id (n low high : Int) (h : low ≤ high) : n = clM n low high ↔ low ≤ n ∧ n ≤ high := by
  unfold clM
  by_cases a : n < low ∨ high < low
  · rw [if_pos a]; omega
  · rw [if_neg a]; split <;> omega
theorem clm_ge (n low high : Int) (h : low ≤ high) : low ≤ clM n low high := by
  unfold clM
  by_cases a : n < low ∨ high < low
  · rw [if_pos a]; omega
  · rw [if_neg a]; split <;> omega
theorem two_new (W : World) (o : Obj) (t : TypeId) (cs : List Value) : Bx ((W.alloc o).alloc (.cells cs.toArray t)) (W.heap.size + 1) t cs := by
  have := Bx.new (W.alloc o) t cs
  have hsz : (W.alloc o).heap.size = W.heap.size + 1 := by simp
  rw [hsz] at this; exact this
theorem two_below (W : World) (o o' : Obj) : Below W.heap.size W ((W.alloc o).alloc o') := ((Below.refl _ _).alloc (Nat.le_refl _) _).alloc (by simp) _
set_option maxRecDepth 100000 in
set_option maxHeartbeats 4000000 in
theorem near_any (pk bt ca md pt : Int) (w : World) :
    Calls Try.prog 82 #[.agg #[.int .i64 pk, .int .i64 bt, .int .i64 ca, .int .i64 md, .int .i64 pt]] w fun e w' => e = .returned (.agg #[.int .i64 (clM pk 0 1152921504606846976), .int .i64 (clM bt 0 1152921504606846976), .int .i64 (clM ca 0 1152921504606846976), .int .i64 (clM md 0 (clM ca 0 1152921504606846976)), .int .i64 (clM pt 0 1024)]) ∧ Below w.heap.size w w' := by
  go_enter Try.func82, Try.ntmps82
  go_wp2_with (go_at_call 101; refine (cl_any _ _ _ _).mono ?_; rintro e w1 ⟨rfl, rfl⟩)
  exact ms_end1 (by rfl) (by rfl) (two_new w _ _ [.int .i64 (clM pk 0 1152921504606846976), .int .i64 (clM bt 0 1152921504606846976), .int .i64 (clM ca 0 1152921504606846976), .int .i64 (clM md 0 (clM ca 0 1152921504606846976)), .int .i64 (clM pt 0 1024)]) rfl rfl ⟨rfl, two_below _ _ _⟩
theorem near_iff (pk bt ca md pt : Int) : mmay ⟨pk, bt, ca, md, pt⟩ = true ↔ pk = clM pk 0 1152921504606846976 ∧ bt = clM bt 0 1152921504606846976 ∧ ca = clM ca 0 1152921504606846976 ∧ md = clM md 0 (clM ca 0 1152921504606846976) ∧ pt = clM pt 0 1024 := by
  rw [clm_id pk _ _ (by decide), clm_id bt _ _ (by decide), clm_id pt _ _ (by decide), clm_id md _ _ (clm_ge ca 0 _ (by decide)), mmay_iff]
  constructor
  · intro ⟨a, b, c, d, e, f, g, h, i, j⟩
    dsimp only at *
    have hc := (clm_id ca 0 1152921504606846976 (by decide)).2 ⟨e, f⟩
    exact ⟨⟨a, b⟩, ⟨c, d⟩, hc, ⟨g, by rw [← hc]; exact h⟩, i, j⟩
  · intro ⟨⟨a, b⟩, ⟨c, d⟩, hc, ⟨g, h⟩, i, j⟩
    have he := (clm_id ca 0 1152921504606846976 (by decide)).1 hc
    rw [← hc] at h
    exact ⟨a, b, c, d, he.1, he.2, g, h, i, j⟩
set_option maxRecDepth 100000 in
set_option maxHeartbeats 4000000 in
theorem mkmay_any (pk bt ca md pt : Int) (w : World) :
    Calls Try.prog 53 #[.agg #[.int .i64 pk, .int .i64 bt, .int .i64 ca, .int .i64 md, .int .i64 pt]] w fun e w' => e = .returned (.bool (mmay ⟨pk, bt, ca, md, pt⟩)) ∧ Below w.heap.size w w' := by
  obtain ⟨B, hB⟩ : ∃ B, w.heap.size = B := ⟨_, rfl⟩
  rw [hB]
  have e0 : Bx (w.alloc (.cells #[.int .i64 pk, .int .i64 bt, .int .i64 ca, .int .i64 md, .int .i64 pt] 27)) B 27 [.int .i64 pk, .int .i64 bt, .int .i64 ca, .int .i64 md, .int .i64 pt] := by rw [← hB]; exact Bx.new w _ _
  have b0 : Below B w (w.alloc (.cells #[.int .i64 pk, .int .i64 bt, .int .i64 ca, .int .i64 md, .int .i64 pt] 27)) := (Below.refl _ _).alloc (by omega) _
  obtain ⟨y1, H1⟩ : ∃ y, clM pk 0 1152921504606846976 = y := ⟨_, rfl⟩
  obtain ⟨y2, H2⟩ : ∃ y, clM bt 0 1152921504606846976 = y := ⟨_, rfl⟩
  obtain ⟨y3, H3⟩ : ∃ y, clM ca 0 1152921504606846976 = y := ⟨_, rfl⟩
  obtain ⟨y4, H4⟩ : ∃ y, clM md 0 y3 = y := ⟨_, rfl⟩
  obtain ⟨y5, H5⟩ : ∃ y, clM pt 0 1024 = y := ⟨_, rfl⟩
  have hq := near_iff pk bt ca md pt
  rw [H1, H2, H3, H4, H5] at hq
  obtain ⟨q, hq2⟩ : ∃ q, mmay ⟨pk, bt, ca, md, pt⟩ = q := ⟨_, rfl⟩
  rw [hq2] at hq ⊢
  have HQ := Lib.hid hq; clear hq hq2
  go_enter Try.func53, Try.ntmps53
  go_upto_region 1 with fail
  refine wp_region_tail 3 5 (fun (W : World) => Bx W B 27 [.int .i64 pk, .int .i64 bt, .int .i64 ca, .int .i64 md, .int .i64 pt] ∧ Below B w W) (by kernel_rfl) (by rfl) (by decide) ?_
  have HS : ((fun (W : World) => Bx W B 27 [.int .i64 pk, .int .i64 bt, .int .i64 ca, .int .i64 md, .int .i64 pt] ∧ Below B w W)) _ := ⟨e0.drew, b0.drew⟩
  refine wpAnyT_take (i := 0) (v := .agg #[.int .i64 pk, .int .i64 bt, .int .i64 ca, .int .i64 md, .int .i64 pt]) rfl (by kernel_rfl) (fun _ _ _ h => h) (ms_yields (by rfl) (.tmp 1) rfl rfl [.int .i64 pk, .int .i64 bt, .int .i64 ca, .int .i64 md, .int .i64 pt] rfl 27 (fun W hW => hW.1)) HS ?_
  try simp only [Act.put, List.setIfInBounds_toArray, List.set_cons_zero, List.set_cons_succ]
  refine wpAnyT_take (i := 1) (v := .agg #[.int .i64 pk, .int .i64 bt, .int .i64 ca, .int .i64 md, .int .i64 pt]) rfl (by kernel_rfl) (fun _ _ _ h => h) (ms_yields (by rfl) (.tmp 1) rfl rfl [.int .i64 pk, .int .i64 bt, .int .i64 ca, .int .i64 md, .int .i64 pt] rfl 27 (fun W hW => hW.1)) HS ?_
  try simp only [Act.put, List.setIfInBounds_toArray, List.set_cons_zero, List.set_cons_succ]
  refine wpAnyT_one (k := 2) rfl (by kernel_rfl) (by decide) (fun K hK => ?_)
  go_simp
  refine (near_any pk bt ca md pt _).mono ?_
  rintro e w2 ⟨rfl, hb2⟩
  rw [H1, H2, H3, H4, H5]
  have HS : (fun (W : World) => Bx W B 27 [.int .i64 pk, .int .i64 bt, .int .i64 ca, .int .i64 md, .int .i64 pt] ∧ Below B w W) _ := ⟨(e0.drew).kept hb2, b0.drew.trans (hb2.mono (Nat.le_of_lt e0.drew.lt))⟩
  refine hK _ _ HS ?_
  clear hK K
  try simp only [Act.put, List.setIfInBounds_toArray, List.set_cons_zero, List.set_cons_succ]
  refine ⟨by kernel_rfl, ?_⟩
  simp only [List.drop_succ_cons, List.drop_zero]
  have K1 := Lib.hid H1; have K2 := Lib.hid H2; have K3 := Lib.hid H3; have K4 := Lib.hid H4; have K5 := Lib.hid H5; clear H1 H2 H3 H4 H5
  go_wp2_with fail
  all_goals (go_ret; refine ⟨?_, HS.2⟩; have hq := HQ.out; cases q <;> simp_all)
end Go.Proofs.Ytggnhccpncgfiaa
