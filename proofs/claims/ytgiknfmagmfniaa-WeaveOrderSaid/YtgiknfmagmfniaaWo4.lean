/- Package weave: May, Edge, Over, Ready, Shut as contracts of the calls. -/
import Derived.Test.YtgiknfmagmfniaaProg
import Derived.Test.YtgiknfmagmfniaaWo3a
import Derived.Test.YtgiknfmagmfniaaWo3b
import Derived.Test.YtgiknfmagmfniaaWo3c
import Derived.WalkKit
import Derived.WalkSpells
import Derived.WalkSmall
import Derived.Lib.Hide
import Derived.Below
import Derived.Outline
namespace Go.Proofs.Ytgiknfmagmfniaa
open Go.RowKit
set_option linter.unusedSimpArgs false
set_option linter.unusedVariables false


theorem wvmay_any (base : Int) (A : Option Addr) (n c : Nat) (G : Option Addr) (m d : Nat) (cap en : Int) (bl : List Int) (gl : List Sp) (w : World) (hb : Sl w A n c bl) (hg : Ss w G m d gl) (hn : n ≤ 140737488355328) : Calls Try.prog 27 #[.agg #[.int .i64 base, .slice A n c, .slice G m d, .int .i64 cap, .int .i64 en]] w fun e w' => e = .returned (.bool (wmay ⟨base, bl, gl, cap, en⟩)) ∧ Below w.heap.size w w' := by
  have hbl := hb.rd.len
  by_cases c1 : 0 ≤ cap
  case neg => rw [wmay_false (fun h => c1 h.cap0)]; exact wvmay_1 base A n c G m d cap en bl gl w hb hg hn c1
  case pos =>
  by_cases c2 : cap ≤ 65536
  case neg => rw [wmay_false (fun h => c2 h.cap1)]; exact wvmay_2 base A n c G m d cap en bl gl w hb hg hn c1 c2
  case pos =>
  cases c3 : posB base with
  | false => rw [wmay_false (fun h => posB_not.1 c3 ⟨h.base0, h.base1⟩)]; exact wvmay_3 base A n c G m d cap en bl gl w hb hg hn c1 c2 c3
  | true =>
  cases c4 : mayB gl with
  | false => rw [wmay_false (fun h => by have := h.may; rw [show (⟨base, bl, gl, cap, en⟩ : Wv).got = gl from rfl, c4] at this; cases this)]; exact wvmay_4 base A n c G m d cap en bl gl w hb hg hn c1 c2 c3 c4
  | true =>
  have hchn := (mayB_parts c4).2
  by_cases c5 : base ≤ headOf base gl
  case neg =>
    rw [wmay_false (fun h => c5 (by
      cases hgl : gl with
      | nil => exact Int.le_refl _
      | cons p t =>
        have := (head_chain hchn).1 h.ch
        rw [hgl] at this
        rw [← hgl, head_sp (by rw [hgl]; simp), hgl]
        have h3 : ¬ (sp (p :: t) 0).1 < base := fun h4 => this ⟨by simp, h4⟩
        omega))]
    exact wvmay_5 base A n c G m d cap en bl gl w hb hg hn c1 c2 c3 c4 c5
  case pos =>
  by_cases c6 : lastOf base gl ≤ min (base + cap) 2305843009213693952
  case neg => rw [wmay_false (w := ⟨base, bl, gl, cap, en⟩) (fun h => c6 h.up)]; exact wvmay_6 base A n c G m d cap en bl gl w hb hg hn c1 c2 c3 c4 c5 c6
  case pos =>
  by_cases c7 : (n : Int) = lastOf base gl - base
  case neg => rw [wmay_false (fun h => c7 (by have := h.blen; rw [← hbl]; exact this))]; exact wvmay_7 base A n c G m d cap en bl gl w hb hg hn c1 c2 c3 c4 c5 c6 c7
  case pos =>
  cases c8 : okW ⟨base, bl, gl, cap, en⟩ with
  | false => rw [wmay_false (fun h => by have := (okW_iff _).2 h.ok; rw [c8] at this; cases this)]; exact wvmay_8 base A n c G m d cap en bl gl w hb hg hn c1 c2 c3 c4 c5 c6 c7 c8
  | true =>
  obtain ⟨p0, p1⟩ := posB_iff.1 c3
  have hch : chain (base - 1) gl = true := (head_chain hchn).2 (fun h => by rw [head_sp h.1] at c5; omega)
  have hva : (en = -1 ∨ lastOf base gl ≤ en) → wmay ⟨base, bl, gl, cap, en⟩ = true := fun h => (wmay_iff _).2 ⟨(mayB_parts c4).1, c1, c2, p0, p1, c6, (by show (bl.length : Int) = _; rw [hbl]; exact c7), h, hch, (okW_iff _).1 c8⟩
  by_cases c9 : en = -1
  case pos => rw [hva (.inl c9)]; exact wvmay_9 base A n c G m d cap en bl gl w hb hg hn c1 c2 c3 c4 c5 c6 c7 c8 c9
  case neg =>
  have hw : wmay ⟨base, bl, gl, cap, en⟩ = decide (lastOf base gl ≤ en) := by
    by_cases h : lastOf base gl ≤ en
    · rw [hva (.inr h), decide_eq_true h]
    · rw [wmay_false (w := ⟨base, bl, gl, cap, en⟩) (fun hv => hv.en.elim c9 h), decide_eq_false h]
  rw [hw]
  exact wvmay_10 base A n c G m d cap en bl gl w hb hg hn c1 c2 c3 c4 c5 c6 c7 c8 c9

theorem gap_rdy {w : Wv} (h : Va w) : gapF w.got w.base = w.base + rdyW w := by
  rw [gapF_of h.may h.base0]
  have hge := gap_ge w.got w.base
  have hout := gap_out h.chm w.base
  have hlen := h.blen
  have : rdyW w = (gapIn w.got w.base - w.base).toNat := by
    rcases gap_cases w.got w.base with ⟨h1, h2⟩ | ⟨p, hp, ⟨h1, h2⟩, h3⟩
    · refine rdy_of (by omega) (fun i hi => by omega) (fun _ => ?_)
      rw [show (gapIn w.got w.base - w.base).toNat = 0 by omega]
      simpa using h2
    · have hup := (up_in h (n := p.2 - 1) ⟨p, hp, by omega, by omega⟩).2
      refine rdy_of (by omega) (fun i hi => ⟨p, hp, by omega, by omega⟩) (fun _ => ?_)
      rw [show w.base + ((gapIn w.got w.base - w.base).toNat : Int) = gapIn w.got w.base by omega]
      exact hout
  omega

set_option maxHeartbeats 1000000 in
theorem wedge_any (base : Int) (A : Option Addr) (n c : Nat) (G : Option Addr) (m d : Nat) (cap en : Int) (bl : List Int) (gl : List Sp) (w : World) (hb : Sl w A n c bl) (hg : Ss w G m d gl) (hn : n ≤ 140737488355328) :
    Calls Try.prog 25 #[.agg #[.int .i64 base, .slice A n c, .slice G m d, .int .i64 cap, .int .i64 en]] w fun e w' => e = .returned (.int .i64 (edgeR ⟨base, bl, gl, cap, en⟩)) ∧ Below w.heap.size w w' := by
  have hbl := hb.rd.len
  have hgl := hg.rd.len
  have e0 := Bx.new w 25 [.int .i64 base, .slice A n c, .slice G m d, .int .i64 cap, .int .i64 en]
  have hb0 : Below w.heap.size w (w.alloc (.cells #[.int .i64 base, .slice A n c, .slice G m d, .int .i64 cap, .int .i64 en] 25)) := (Below.refl _ _).alloc (Nat.le_refl _) _
  have x0 := e0.cell 0 rfl
  have x1 := e0.cell 1 rfl
  have x2 := e0.cell 2 rfl
  have x3 := e0.cell 3 rfl
  have x4 := e0.cell 4 rfl
  have hmay := wvmay_any base A n c G m d cap en bl gl _ (hb.keep hb0) (hg.keep hb0) hn
  go_enter Try.func25, Try.ntmps25
  go_wp2_with fail
  refine hmay.mono ?_
  rintro e w1 ⟨he, hb1⟩
  clear x0 x1 x2 x3 x4
  have e1 := e0.kept hb1
  have x0 := e1.cell 0 rfl
  have x1 := e1.cell 1 rfl
  have x2 := e1.cell 2 rfl
  have x3 := e1.cell 3 rfl
  have x4 := e1.cell 4 rfl
  have b1 := hb0.trans (hb1.mono hb0.size)
  cases hk : wmay ⟨base, bl, gl, cap, en⟩ with
  | false =>
    rw [hk] at he; subst he
    have hx : edgeR ⟨base, bl, gl, cap, en⟩ = 0 := by unfold edgeR; rw [hk]; rfl
    have HX := Lib.hid hx; clear hx
    go_wp2_with fail
    go_ret
    exact ⟨ret_i HX.out.symm, b1⟩
  | true =>
    rw [hk] at he; subst he
    have hx : edgeR ⟨base, bl, gl, cap, en⟩ = min (base + cap) 2305843009213693952 := by unfold edgeR; rw [if_pos hk]; rfl
    have HX := Lib.hid hx; clear hx
    have hv := (wmay_iff _).1 hk
    have v0 : 0 ≤ base := hv.base0
    have v1 : base ≤ 2305843009213693952 := hv.base1
    have v2 : 0 ≤ cap := hv.cap0
    have v3 : cap ≤ 65536 := hv.cap1
    clear hv hk
    go_wp2_with fail
    refine (wedge_in base A n c G m d cap en _ v0 v1 v2 v3).mono ?_
    rintro e w2 ⟨rfl, hb2⟩
    go_wp2_with fail
    go_ret
    exact ⟨ret_i HX.out.symm, b1.trans (hb2.mono b1.size)⟩

set_option maxHeartbeats 1000000 in
theorem wover_any (base : Int) (A : Option Addr) (n c : Nat) (G : Option Addr) (m d : Nat) (cap en : Int) (bl : List Int) (gl : List Sp) (w : World) (hb : Sl w A n c bl) (hg : Ss w G m d gl) (hn : n ≤ 140737488355328) :
    Calls Try.prog 23 #[.agg #[.int .i64 base, .slice A n c, .slice G m d, .int .i64 cap, .int .i64 en]] w fun e w' => e = .returned (.bool (overR ⟨base, bl, gl, cap, en⟩)) ∧ Below w.heap.size w w' := by
  have hbl := hb.rd.len
  have hgl := hg.rd.len
  have e0 := Bx.new w 25 [.int .i64 base, .slice A n c, .slice G m d, .int .i64 cap, .int .i64 en]
  have hb0 : Below w.heap.size w (w.alloc (.cells #[.int .i64 base, .slice A n c, .slice G m d, .int .i64 cap, .int .i64 en] 25)) := (Below.refl _ _).alloc (Nat.le_refl _) _
  have x0 := e0.cell 0 rfl
  have x1 := e0.cell 1 rfl
  have x2 := e0.cell 2 rfl
  have x3 := e0.cell 3 rfl
  have x4 := e0.cell 4 rfl
  have hmay := wvmay_any base A n c G m d cap en bl gl _ (hb.keep hb0) (hg.keep hb0) hn
  go_enter Try.func23, Try.ntmps23
  go_wp2_with fail
  refine hmay.mono ?_
  rintro e w1 ⟨he, hb1⟩
  clear x0 x1 x2 x3 x4
  have e1 := e0.kept hb1
  have x0 := e1.cell 0 rfl
  have x1 := e1.cell 1 rfl
  have x2 := e1.cell 2 rfl
  have x3 := e1.cell 3 rfl
  have x4 := e1.cell 4 rfl
  have b1 := hb0.trans (hb1.mono hb0.size)
  cases hk : wmay ⟨base, bl, gl, cap, en⟩ with
  | false =>
    rw [hk] at he; subst he
    have hx : overR ⟨base, bl, gl, cap, en⟩ = false := by unfold overR; rw [hk]; rfl
    have HX := Lib.hid hx; clear hx
    go_wp2_with fail
    go_ret
    exact ⟨by rw [HX.out]; rfl, b1⟩
  | true =>
    rw [hk] at he; subst he
    have hx : overR ⟨base, bl, gl, cap, en⟩ = decide (base = en) := by unfold overR; rw [hk, Bool.true_and]; exact decide_eq_decide.2 ⟨fun h => h.symm, fun h => h.symm⟩
    have HX := Lib.hid hx; clear hx
    go_wp2_with fail
    go_ret
    exact ⟨by rw [HX.out]; rfl, b1⟩

set_option maxHeartbeats 2000000 in
theorem wready_any (base : Int) (A : Option Addr) (n c : Nat) (G : Option Addr) (m d : Nat) (cap en : Int) (bl : List Int) (gl : List Sp) (w : World) (hb : Sl w A n c bl) (hg : Ss w G m d gl) (hn : n ≤ 140737488355328) :
    Calls Try.prog 21 #[.agg #[.int .i64 base, .slice A n c, .slice G m d, .int .i64 cap, .int .i64 en]] w fun e w' => e = .returned (.int .i64 (readyR ⟨base, bl, gl, cap, en⟩)) ∧ Below w.heap.size w w' := by
  have hbl := hb.rd.len
  have hgl := hg.rd.len
  have e0 := Bx.new w 25 [.int .i64 base, .slice A n c, .slice G m d, .int .i64 cap, .int .i64 en]
  have hb0 : Below w.heap.size w (w.alloc (.cells #[.int .i64 base, .slice A n c, .slice G m d, .int .i64 cap, .int .i64 en] 25)) := (Below.refl _ _).alloc (Nat.le_refl _) _
  obtain ⟨B, hB⟩ : ∃ B, w.heap.size = B := ⟨_, rfl⟩
  rw [hB] at e0 hb0
  obtain ⟨w0, hw0⟩ : ∃ w0, w.alloc (.cells #[.int .i64 base, .slice A n c, .slice G m d, .int .i64 cap, .int .i64 en] 25) = w0 := ⟨_, rfl⟩
  have e1 : Bx w0 B 25 [.int .i64 base, .slice A n c, .slice G m d, .int .i64 cap, .int .i64 en] := by rw [← hw0]; exact e0
  have b1 : Below B w w0 := by rw [← hw0]; exact hb0
  clear e0 hb0
  have hbk : ∀ {w' : World}, Below B w w' → Sl w' A n c bl := fun h => hb.keep (by rw [hB]; exact h)
  have hgk : ∀ {w' : World}, Below B w w' → Ss w' G m d gl := fun h => hg.keep (by rw [hB]; exact h)
  have hmay := wvmay_any base A n c G m d cap en bl gl _ (hbk b1) (hgk b1) hn
  have hgap := fun (w' : World) (h : Below B w w') => gap_any G m d gl base w' (hgk h)
  have x0 := e1.cell 0 rfl
  have x1 := e1.cell 1 rfl
  have x2 := e1.cell 2 rfl
  have x3 := e1.cell 3 rfl
  have x4 := e1.cell 4 rfl
  have e0 := e1
  have hb0 := b1
  clear e1 b1
  go_enter Try.func21, Try.ntmps21
  rw [hB]
  go_wp2_with fail
  refine hmay.mono ?_
  rintro e w1 ⟨he, hb1⟩
  clear x0 x1 x2 x3 x4
  have e1 := e0.kept hb1
  have x0 := e1.cell 0 rfl
  have x1 := e1.cell 1 rfl
  have x2 := e1.cell 2 rfl
  have x3 := e1.cell 3 rfl
  have x4 := e1.cell 4 rfl
  have b1 := hb0.trans (hb1.mono (Nat.le_of_lt e0.lt))
  cases hk : wmay ⟨base, bl, gl, cap, en⟩ with
  | false =>
    rw [hk] at he; subst he
    have hx : readyR ⟨base, bl, gl, cap, en⟩ = 0 := by unfold readyR; rw [hk]; rfl
    have HX := Lib.hid hx; clear hx
    go_wp2_with fail
    go_ret
    exact ⟨ret_i HX.out.symm, b1⟩
  | true =>
    rw [hk] at he; subst he
    have hv := (wmay_iff _).1 hk
    have hx : readyR ⟨base, bl, gl, cap, en⟩ = (rdyW ⟨base, bl, gl, cap, en⟩ : Int) := by unfold readyR; rw [if_pos hk]
    have hgr : gapF gl base = base + (rdyW ⟨base, bl, gl, cap, en⟩ : Int) := gap_rdy hv
    have hrl := rdy_le ⟨base, bl, gl, cap, en⟩
    have hbs := b_small hv
    have v0 : 0 ≤ base := hv.base0
    have v1 : base ≤ 2305843009213693952 := hv.base1
    obtain ⟨R0, hR0⟩ : ∃ R0, rdyW ⟨base, bl, gl, cap, en⟩ = R0 := ⟨_, rfl⟩
    rw [hR0] at hx hgr hrl
    rw [hgr] at hgap
    have hR : R0 ≤ 65536 := Nat.le_trans hrl hbs
    have q1 : IntKind.i64.wrap (base + (R0 : Int) - base) = (R0 : Int) := by rw [IntWalk.i64_in _ (by omega)]; omega
    have HX := Lib.hid hx; clear hx hv hk hgr hrl hbs hR0
    go_wp2_with fail
    have e2 := e1.drew
    have b2 := b1.drew
    clear x0 x1 x2 x3 x4
    refine wp_region_tail 8 9 (fun w' : World => w'.cell? ⟨B, 0, none⟩ = some (.int .i64 base) ∧ w'.cell? ⟨B, 2, none⟩ = some (.slice G m d)) (by kernel_rfl) (by rfl) (by decide) ?_
    have HS : ((fun w' : World => w'.cell? ⟨B, 0, none⟩ = some (.int .i64 base) ∧ w'.cell? ⟨B, 2, none⟩ = some (.slice G m d))) _ := ⟨e2.cell 0 rfl, e2.cell 2 rfl⟩
    refine wpAnyT_take (i := 0) (v := ?vv1) rfl (by kernel_rfl) (fun _ _ _ h => h) (Or.inl ⟨by rfl, fun w hSw => ?yy1⟩) HS ?rr1
    case yy1 =>
      (try dsimp only at hSw); go_simp
      try with_reducible rfl
    try simp only [Act.put, List.setIfInBounds_toArray, List.set_cons_zero, List.set_cons_succ]
    refine wpAnyT_take (i := 1) (v := ?vv2) rfl (by kernel_rfl) (fun _ _ _ h => h) (Or.inl ⟨by rfl, fun w hSw => ?yy2⟩) HS ?rr2
    case yy2 =>
      (try dsimp only at hSw); go_simp
      try with_reducible rfl
    try simp only [Act.put, List.setIfInBounds_toArray, List.set_cons_zero, List.set_cons_succ]
    refine wpAnyT_take (i := 2) (v := ?vv3) rfl (by kernel_rfl) (fun _ _ _ h => h) (Or.inl ⟨by rfl, fun w hSw => ?yy3⟩) HS ?rr3
    case yy3 =>
      (try dsimp only at hSw); go_simp
      try with_reducible rfl
    try simp only [Act.put, List.setIfInBounds_toArray, List.set_cons_zero, List.set_cons_succ]
    refine wpAnyT_take (i := 3) (v := ?vv4) rfl (by kernel_rfl) (fun _ _ _ h => h) (Or.inl ⟨by rfl, fun w hSw => ?yy4⟩) HS ?rr4
    case yy4 =>
      (try dsimp only at hSw); go_simp
      try with_reducible rfl
    try simp only [Act.put, List.setIfInBounds_toArray, List.set_cons_zero, List.set_cons_succ]
    refine wpAnyT_take (i := 5) (v := ?vv5) rfl (by kernel_rfl) (fun _ _ _ h => h) (Or.inl ⟨by rfl, fun w hSw => ?yy5⟩) HS ?rr5
    case yy5 =>
      (try dsimp only at hSw); go_simp
      try with_reducible rfl
    try simp only [Act.put, List.setIfInBounds_toArray, List.set_cons_zero, List.set_cons_succ]
    refine wpAnyT_take (i := 6) (v := ?vv6) rfl (by kernel_rfl) (fun _ _ _ h => h) (Or.inl ⟨by rfl, fun w hSw => ?yy6⟩) HS ?rr6
    case yy6 =>
      (try dsimp only at hSw); go_simp
      try with_reducible rfl
    try simp only [Act.put, List.setIfInBounds_toArray, List.set_cons_zero, List.set_cons_succ]
    refine wpAnyT_one (k := 4) rfl (by kernel_rfl) (by decide) (fun K hK => ?_)
    go_simp
    refine (hgap _ b2).mono ?_
    rintro e w3 ⟨rfl, hb3⟩
    have e3 := e2.kept hb3
    have b3 := b2.trans (hb3.mono (Nat.le_of_lt e2.lt))
    have HS : ((fun w' : World => w'.cell? ⟨B, 0, none⟩ = some (.int .i64 base) ∧ w'.cell? ⟨B, 2, none⟩ = some (.slice G m d))) _ := ⟨e3.cell 0 rfl, e3.cell 2 rfl⟩
    refine hK _ _ HS ?_
    clear hK K
    try simp only [Act.put, List.setIfInBounds_toArray, List.set_cons_zero, List.set_cons_succ]
    refine wpAnyT_take (i := 7) (v := ?vv7) rfl (by kernel_rfl) (fun _ _ _ h => h) (Or.inl ⟨by rfl, fun w hSw => ?yy7⟩) HS ?rr7
    case yy7 =>
      (try dsimp only at hSw); go_simp
      try with_reducible rfl
    try simp only [Act.put, List.setIfInBounds_toArray, List.set_cons_zero, List.set_cons_succ]
    refine ⟨by kernel_rfl, ?_⟩
    simp only [List.drop_succ_cons, List.drop_zero]
    clear HS
    go_wp2_with fail
    go_ret
    exact ⟨ret_i HX.out.symm, b3⟩

set_option maxRecDepth 100000 in
set_option maxHeartbeats 4000000 in
theorem wshut_any (base : Int) (A : Option Addr) (n c : Nat) (G : Option Addr) (m d : Nat) (cap en : Int) (bl : List Int) (gl : List Sp) (w : World) (hb : Sl w A n c bl) (hg : Ss w G m d gl) (hn : n ≤ 140737488355328) (p : Int) (hp : W64 p) :
    Calls Try.prog 14 #[.agg #[.int .i64 base, .slice A n c, .slice G m d, .int .i64 cap, .int .i64 en], .int .i64 p] w fun e w' => TellW w w' e (wshutR ⟨base, bl, gl, cap, en⟩ p) := by
  unfold TellW
  have hbl := hb.rd.len
  have hgl := hg.rd.len
  obtain ⟨B, hB⟩ : ∃ B, w.heap.size = B := ⟨_, rfl⟩
  have e0 := (Bx.new w 25 [.int .i64 base, .slice A n c, .slice G m d, .int .i64 cap, .int .i64 en]).alloc (.cells #[.int .i64 0, .slice none 0 0, .slice none 0 0, .int .i64 0, .int .i64 0] 25)
  have r0 := Bx.new (w.alloc (.cells #[.int .i64 base, .slice A n c, .slice G m d, .int .i64 cap, .int .i64 en] 25)) 25 [.int .i64 0, .slice none 0 0, .slice none 0 0, .int .i64 0, .int .i64 0]
  have hb0 : Below w.heap.size w ((w.alloc (.cells #[.int .i64 base, .slice A n c, .slice G m d, .int .i64 cap, .int .i64 en] 25)).alloc (.cells #[.int .i64 0, .slice none 0 0, .slice none 0 0, .int .i64 0, .int .i64 0] 25)) := ((Below.refl _ _).alloc (Nat.le_refl _) _).alloc (by simp) _
  rw [World.size_alloc] at r0
  rw [hB] at e0 r0 hb0
  obtain ⟨w0, hw0⟩ : ∃ w0, (w.alloc (.cells #[.int .i64 base, .slice A n c, .slice G m d, .int .i64 cap, .int .i64 en] 25)).alloc (.cells #[.int .i64 0, .slice none 0 0, .slice none 0 0, .int .i64 0, .int .i64 0] 25) = w0 := ⟨_, rfl⟩
  have e0' : Bx w0 B 25 [.int .i64 base, .slice A n c, .slice G m d, .int .i64 cap, .int .i64 en] := by rw [← hw0]; exact e0
  have r0' : Bx w0 (B + 1) 25 [.int .i64 0, .slice none 0 0, .slice none 0 0, .int .i64 0, .int .i64 0] := by rw [← hw0]; exact r0
  have hb0' : Below B w w0 := by rw [← hw0]; exact hb0
  clear e0 r0 hb0
  have hbk : ∀ {w' : World}, Below B w w' → Sl w' A n c bl := fun h => hb.keep (by rw [hB]; exact h)
  have hgk : ∀ {w' : World}, Below B w w' → Ss w' G m d gl := fun h => hg.keep (by rw [hB]; exact h)
  have hmay := wvmay_any base A n c G m d cap en bl gl _ (hbk hb0') (hgk hb0') hn
  have x0 := e0'.cell 0 rfl
  have x1 := e0'.cell 1 rfl
  have x2 := e0'.cell 2 rfl
  have x3 := e0'.cell 3 rfl
  have x4 := e0'.cell 4 rfl
  rcases shut_cases ⟨base, bl, gl, cap, en⟩ p with ⟨hx, hnv⟩ | ⟨hx, ⟨hv, hp0, hp1⟩, hc⟩ | ⟨hx, ⟨hv, hp0, hp1⟩, hc⟩
  · rw [zw_lit] at hx
    rw [hx]
    clear hx
    have HN := Lib.hid hnv; clear hnv
    go_enter Try.func14, Try.ntmps14
    rw [hB]
    go_wp2_with fail
    refine hmay.mono ?_
    rintro e w1 ⟨he, hb1⟩
    clear x0 x1 x2 x3 x4
    have e1 := e0'.kept hb1
    have r1 := r0'.kept hb1
    have b1 := hb0'.trans (hb1.mono (Nat.le_of_lt e0'.lt))
    have x0 := e1.cell 0 rfl
    have x1 := e1.cell 1 rfl
    have x2 := e1.cell 2 rfl
    have x3 := e1.cell 3 rfl
    have x4 := e1.cell 4 rfl
    cases hk : wmay ⟨base, bl, gl, cap, en⟩ with
    | false =>
      rw [hk] at he; subst he
      have t0 := r1.cell 0 rfl
      have t1 := r1.cell 1 rfl
      have t2 := r1.cell 2 rfl
      have t3 := r1.cell 3 rfl
      have t4 := r1.cell 4 rfl
      have tf0 := r1.free 0
      have tf1 := r1.free 1
      have tf2 := r1.free 2
      have tf3 := r1.free 3
      have tf4 := r1.free 4
      go_wp2_with fail
      have OV := (((((r1.set 0 (.int .i64 0)).set 1 (.slice none 0 0)).set 2 (.slice none 0 0)).set 3 (.int .i64 0)).set 4 (.int .i64 0))
      have y0 := OV.cell 0 rfl
      have y1 := OV.cell 1 rfl
      have y2 := OV.cell 2 rfl
      have y3 := OV.cell 3 rfl
      have y4 := OV.cell 4 rfl
      have bz := (((((b1.setCell (p := ⟨B + 1, 0, none⟩) (by simp) (.int .i64 0)).setCell (p := ⟨B + 1, 1, none⟩) (by simp) (.slice none 0 0)).setCell (p := ⟨B + 1, 2, none⟩) (by simp) (.slice none 0 0)).setCell (p := ⟨B + 1, 3, none⟩) (by simp) (.int .i64 0)).setCell (p := ⟨B + 1, 4, none⟩) (by simp) (.int .i64 0))
      exact bodyPost_ret (v := .tuple #[.agg #[.int .i64 0, .slice none 0 0, .slice none 0 0, .int .i64 0, .int .i64 0], .int .i64 1]) (by simp [results, Try.results14, go_sem, y0, y1, y2, y3, y4]) rfl ⟨none, 0, 0, none, 0, 0, rfl, Sb.none _ _, Sq.none _ _, bz⟩
    | true =>
      rw [hk] at he; subst he
      have hpos : posB p = false := posB_not.2 (fun h => HN.out ⟨(wmay_iff _).1 hk, h.1, h.2⟩)
      have HK := Lib.hid hk; clear hk
      have t0 := r1.cell 0 rfl
      have t1 := r1.cell 1 rfl
      have t2 := r1.cell 2 rfl
      have t3 := r1.cell 3 rfl
      have t4 := r1.cell 4 rfl
      have tf0 := r1.free 0
      have tf1 := r1.free 1
      have tf2 := r1.free 2
      have tf3 := r1.free 3
      have tf4 := r1.free 4
      go_wp2_with fail
      refine (wpos_any p _).mono ?_
      rintro e w9 ⟨he, rfl⟩
      rw [hpos] at he
      subst he
      go_wp2_with fail
      have OV := (((((r1.set 0 (.int .i64 0)).set 1 (.slice none 0 0)).set 2 (.slice none 0 0)).set 3 (.int .i64 0)).set 4 (.int .i64 0))
      have y0 := OV.cell 0 rfl
      have y1 := OV.cell 1 rfl
      have y2 := OV.cell 2 rfl
      have y3 := OV.cell 3 rfl
      have y4 := OV.cell 4 rfl
      have bz := (((((b1.setCell (p := ⟨B + 1, 0, none⟩) (by simp) (.int .i64 0)).setCell (p := ⟨B + 1, 1, none⟩) (by simp) (.slice none 0 0)).setCell (p := ⟨B + 1, 2, none⟩) (by simp) (.slice none 0 0)).setCell (p := ⟨B + 1, 3, none⟩) (by simp) (.int .i64 0)).setCell (p := ⟨B + 1, 4, none⟩) (by simp) (.int .i64 0))
      exact bodyPost_ret (v := .tuple #[.agg #[.int .i64 0, .slice none 0 0, .slice none 0 0, .int .i64 0, .int .i64 0], .int .i64 1]) (by simp [results, Try.results14, go_sem, y0, y1, y2, y3, y4]) rfl ⟨none, 0, 0, none, 0, 0, rfl, Sb.none _ _, Sq.none _ _, bz⟩
  · rw [zw_lit] at hx
    rw [hx]
    clear hx
    have hpos : posB p = true := posB_iff.2 ⟨hp0, hp1⟩
    go_enter Try.func14, Try.ntmps14
    rw [hB]
    go_wp2_with fail
    refine hmay.mono ?_
    rintro e w1 ⟨he, hb1⟩
    clear x0 x1 x2 x3 x4
    have e1 := e0'.kept hb1
    have r1 := r0'.kept hb1
    have b1 := hb0'.trans (hb1.mono (Nat.le_of_lt e0'.lt))
    have x0 := e1.cell 0 rfl
    have x1 := e1.cell 1 rfl
    have x2 := e1.cell 2 rfl
    have x3 := e1.cell 3 rfl
    have x4 := e1.cell 4 rfl
    rw [(wmay_iff _).2 hv] at he; subst he
    have hup := wend_any base A n c G m d cap en gl
    obtain ⟨U, hU⟩ : ∃ U, lastOf base gl = U := ⟨_, rfl⟩
    have hen : en = -1 ∨ U ≤ en := by have := hv.en; rw [show upW ⟨base, bl, gl, cap, en⟩ = lastOf base gl from rfl, hU] at this; exact this
    have hU0 : 0 ≤ U := by have := up_ge hv; have := hv.base0; rw [show upW ⟨base, bl, gl, cap, en⟩ = lastOf base gl from rfl, hU] at *; rw [show (⟨base, bl, gl, cap, en⟩ : Wv).base = base from rfl] at *; omega
    rw [show upW ⟨base, bl, gl, cap, en⟩ = lastOf base gl from rfl, hU] at hc
    rw [hU] at hup
    try simp only at hc
    have HU := Lib.hid hU; clear hU hv
    have t0 := r1.cell 0 rfl
    have t1 := r1.cell 1 rfl
    have t2 := r1.cell 2 rfl
    have t3 := r1.cell 3 rfl
    have t4 := r1.cell 4 rfl
    have tf0 := r1.free 0
    have tf1 := r1.free 1
    have tf2 := r1.free 2
    have tf3 := r1.free 3
    have tf4 := r1.free 4
    go_wp2_with fail
    refine (wpos_any p _).mono ?_
    rintro e w9 ⟨he, rfl⟩
    rw [hpos] at he
    subst he
    by_cases h1 : 0 ≤ en ∧ en ≠ p
    · obtain ⟨h2, h3⟩ := h1
      have h4 : (en != p) = true := by simpa using h3
      have h4' : (en != -1) = true := by simp; omega
      clear hc hen h3
      go_wp2_with fail
      have OV := (((((r1.set 0 (.int .i64 0)).set 1 (.slice none 0 0)).set 2 (.slice none 0 0)).set 3 (.int .i64 0)).set 4 (.int .i64 0))
      have y0 := OV.cell 0 rfl
      have y1 := OV.cell 1 rfl
      have y2 := OV.cell 2 rfl
      have y3 := OV.cell 3 rfl
      have y4 := OV.cell 4 rfl
      have bz := (((((b1.setCell (p := ⟨B + 1, 0, none⟩) (by simp) (.int .i64 0)).setCell (p := ⟨B + 1, 1, none⟩) (by simp) (.slice none 0 0)).setCell (p := ⟨B + 1, 2, none⟩) (by simp) (.slice none 0 0)).setCell (p := ⟨B + 1, 3, none⟩) (by simp) (.int .i64 0)).setCell (p := ⟨B + 1, 4, none⟩) (by simp) (.int .i64 0))
      exact bodyPost_ret (v := .tuple #[.agg #[.int .i64 0, .slice none 0 0, .slice none 0 0, .int .i64 0, .int .i64 0], .int .i64 5]) (by simp [results, Try.results14, go_sem, y0, y1, y2, y3, y4]) rfl ⟨none, 0, 0, none, 0, 0, rfl, Sb.none _ _, Sq.none _ _, bz⟩
    · have h5 : p < U := by omega
      have h5' : decide (p < U) = true := decide_eq_true h5
      clear hc
      rcases hen with h | h
      · have h' : (en != -1) = false := by simp [h]
        clear h1 h h5
        go_wp2_with fail
        refine (hup _ (hgk b1)).mono ?_
        rintro e w2 ⟨rfl, hb2⟩
        clear x0 x1 x2 x3 x4
        have e2 := e1.kept hb2
        have r2 := r1.kept hb2
        have b2 := b1.trans (hb2.mono (Nat.le_of_lt e1.lt))
        have t0 := r2.cell 0 rfl
        have t1 := r2.cell 1 rfl
        have t2 := r2.cell 2 rfl
        have t3 := r2.cell 3 rfl
        have t4 := r2.cell 4 rfl
        have tf0 := r2.free 0
        have tf1 := r2.free 1
        have tf2 := r2.free 2
        have tf3 := r2.free 3
        have tf4 := r2.free 4
        go_wp2_with fail
        have OV := (((((r2.set 0 (.int .i64 0)).set 1 (.slice none 0 0)).set 2 (.slice none 0 0)).set 3 (.int .i64 0)).set 4 (.int .i64 0))
        have y0 := OV.cell 0 rfl
        have y1 := OV.cell 1 rfl
        have y2 := OV.cell 2 rfl
        have y3 := OV.cell 3 rfl
        have y4 := OV.cell 4 rfl
        have bz := (((((b2.setCell (p := ⟨B + 1, 0, none⟩) (by simp) (.int .i64 0)).setCell (p := ⟨B + 1, 1, none⟩) (by simp) (.slice none 0 0)).setCell (p := ⟨B + 1, 2, none⟩) (by simp) (.slice none 0 0)).setCell (p := ⟨B + 1, 3, none⟩) (by simp) (.int .i64 0)).setCell (p := ⟨B + 1, 4, none⟩) (by simp) (.int .i64 0))
        exact bodyPost_ret (v := .tuple #[.agg #[.int .i64 0, .slice none 0 0, .slice none 0 0, .int .i64 0, .int .i64 0], .int .i64 5]) (by simp [results, Try.results14, go_sem, y0, y1, y2, y3, y4]) rfl ⟨none, 0, 0, none, 0, 0, rfl, Sb.none _ _, Sq.none _ _, bz⟩
      · have h' : (en != -1) = true := by simp; omega
        have h6 : (en != p) = false := by simp; omega
        clear h1 h h5
        go_wp2_with fail
        refine (hup _ (hgk b1)).mono ?_
        rintro e w2 ⟨rfl, hb2⟩
        clear x0 x1 x2 x3 x4
        have e2 := e1.kept hb2
        have r2 := r1.kept hb2
        have b2 := b1.trans (hb2.mono (Nat.le_of_lt e1.lt))
        have t0 := r2.cell 0 rfl
        have t1 := r2.cell 1 rfl
        have t2 := r2.cell 2 rfl
        have t3 := r2.cell 3 rfl
        have t4 := r2.cell 4 rfl
        have tf0 := r2.free 0
        have tf1 := r2.free 1
        have tf2 := r2.free 2
        have tf3 := r2.free 3
        have tf4 := r2.free 4
        go_wp2_with fail
        have OV := (((((r2.set 0 (.int .i64 0)).set 1 (.slice none 0 0)).set 2 (.slice none 0 0)).set 3 (.int .i64 0)).set 4 (.int .i64 0))
        have y0 := OV.cell 0 rfl
        have y1 := OV.cell 1 rfl
        have y2 := OV.cell 2 rfl
        have y3 := OV.cell 3 rfl
        have y4 := OV.cell 4 rfl
        have bz := (((((b2.setCell (p := ⟨B + 1, 0, none⟩) (by simp) (.int .i64 0)).setCell (p := ⟨B + 1, 1, none⟩) (by simp) (.slice none 0 0)).setCell (p := ⟨B + 1, 2, none⟩) (by simp) (.slice none 0 0)).setCell (p := ⟨B + 1, 3, none⟩) (by simp) (.int .i64 0)).setCell (p := ⟨B + 1, 4, none⟩) (by simp) (.int .i64 0))
        exact bodyPost_ret (v := .tuple #[.agg #[.int .i64 0, .slice none 0 0, .slice none 0 0, .int .i64 0, .int .i64 0], .int .i64 5]) (by simp [results, Try.results14, go_sem, y0, y1, y2, y3, y4]) rfl ⟨none, 0, 0, none, 0, 0, rfl, Sb.none _ _, Sq.none _ _, bz⟩
  · rw [hx]
    clear hx
    have hpos : posB p = true := posB_iff.2 ⟨hp0, hp1⟩
    go_enter Try.func14, Try.ntmps14
    rw [hB]
    go_wp2_with fail
    refine hmay.mono ?_
    rintro e w1 ⟨he, hb1⟩
    clear x0 x1 x2 x3 x4
    have e1 := e0'.kept hb1
    have r1 := r0'.kept hb1
    have b1 := hb0'.trans (hb1.mono (Nat.le_of_lt e0'.lt))
    have x0 := e1.cell 0 rfl
    have x1 := e1.cell 1 rfl
    have x2 := e1.cell 2 rfl
    have x3 := e1.cell 3 rfl
    have x4 := e1.cell 4 rfl
    rw [(wmay_iff _).2 hv] at he; subst he
    have hup := wend_any base A n c G m d cap en gl
    obtain ⟨U, hU⟩ : ∃ U, lastOf base gl = U := ⟨_, rfl⟩
    have hen : en = -1 ∨ U ≤ en := by have := hv.en; rw [show upW ⟨base, bl, gl, cap, en⟩ = lastOf base gl from rfl, hU] at this; exact this
    have hU0 : 0 ≤ U := by have := up_ge hv; have := hv.base0; rw [show upW ⟨base, bl, gl, cap, en⟩ = lastOf base gl from rfl, hU] at *; rw [show (⟨base, bl, gl, cap, en⟩ : Wv).base = base from rfl] at *; omega
    rw [show upW ⟨base, bl, gl, cap, en⟩ = lastOf base gl from rfl, hU] at hc
    rw [hU] at hup
    try simp only at hc
    have hns : n ≤ 1000000 := by have := b_small hv; rw [show (⟨base, bl, gl, cap, en⟩ : Wv).b = bl from rfl, hbl] at this; omega
    have hms : m ≤ 1000000 := by have := hv.len; rw [show (⟨base, bl, gl, cap, en⟩ : Wv).got = gl from rfl, hgl] at this; omega
    have HU := Lib.hid hU; clear hU hv
    have h5 : decide (p < U) = false := decide_eq_false (by omega)
    go_wp2_with fail
    refine (wpos_any p _).mono ?_
    rintro e w9 ⟨he, rfl⟩
    rw [hpos] at he
    subst he
    go_upto_region 3 with fail
    go_cut [29] (fun s29 wx => s29 = .bool false ∧ Below w1.heap.size w1 wx)
    case first =>
      rcases hen with h | h
      · have h' : (en != -1) = false := by simp [h]
        clear hc h
        go_wp2_with fail
        refine (hup _ (hgk b1)).mono ?_
        rintro e w2 ⟨rfl, hb2⟩
        go_wp2_with fail
        go_meet
        case rel => exact ⟨rfl, hb2⟩
      · have h' : (en != -1) = true := by simp; omega
        have h6 : (en != p) = false := by simp; omega
        clear hc h
        go_wp2_with fail
        refine (hup _ (hgk b1)).mono ?_
        rintro e w2 ⟨rfl, hb2⟩
        go_wp2_with fail
        go_meet
        case rel => exact ⟨rfl, hb2⟩
    case rest =>
    obtain ⟨rfl, hb2⟩ := hcut
    rename World => w2
    clear x0 x1 x2 x3 x4 hc hen
    have e2 := e1.kept hb2
    have r2 := r1.kept hb2
    have b2 := b1.trans (hb2.mono (Nat.le_of_lt e1.lt))
    have x0 := e2.cell 0 rfl
    have x1 := e2.cell 1 rfl
    have x2 := e2.cell 2 rfl
    have x3 := e2.cell 3 rfl
    have x4 := e2.cell 4 rfl
    have hr2 := r2.lt
    have he2 := e2.lt
    go_upto_region 5 with fail
    go_cut [32] (fun s32 wx => ∃ R q H r, Bx wx B 25 [.int .i64 base, .slice R n q, .slice H m r, .int .i64 cap, .int .i64 en] ∧ Bx wx (B + 1) 25 [.int .i64 0, .slice none 0 0, .slice none 0 0, .int .i64 0, .int .i64 0] ∧ Below B w wx ∧ Sb wx (B + 1 + 1) R n q bl ∧ Sq wx (B + 1 + 1) H m r gl)
    case first =>
      go_wp2_with fail
      refine (wowned_any base A n c G m d cap en bl gl _ (hbk b2) (hgk b2) hns hms).mono ?_
      rintro e w3 ⟨R, q, H, r, rfl, sb, sq, hb3⟩
      clear x0 x1 x2 x3 x4
      have e3 := e2.kept hb3
      have r3 := r2.kept hb3
      have b3 := b2.trans (hb3.mono (Nat.le_of_lt e2.lt))
      have sb' := sb.mono (base' := B + 1 + 1) (by omega)
      have sq' := sq.mono (base' := B + 1 + 1) (by omega)
      have hbB : B < B + 1 + 1 := by omega
      have z0 := e3.free 0
      have z1 := e3.free 1
      have z2 := e3.free 2
      have z3 := e3.free 3
      have z4 := e3.free 4
      have z'0 := e3.cell 0 rfl
      have z'1 := e3.cell 1 rfl
      have z'2 := e3.cell 2 rfl
      have z'3 := e3.cell 3 rfl
      have z'4 := e3.cell 4 rfl
      go_wp2_with fail
      go_meet
      case rel =>
        exact ⟨R, q, H, r, (((((e3.set 0 (.int .i64 base)).set 1 (.slice R n q)).set 2 (.slice H m r)).set 3 (.int .i64 cap)).set 4 (.int .i64 en)), (((((r3.far (p := ⟨B, 0, none⟩) (by simp) (.int .i64 base)).far (p := ⟨B, 1, none⟩) (by simp) (.slice R n q)).far (p := ⟨B, 2, none⟩) (by simp) (.slice H m r)).far (p := ⟨B, 3, none⟩) (by simp) (.int .i64 cap)).far (p := ⟨B, 4, none⟩) (by simp) (.int .i64 en)), (((((b3.setCell (p := ⟨B, 0, none⟩) (by simp) (.int .i64 base)).setCell (p := ⟨B, 1, none⟩) (by simp) (.slice R n q)).setCell (p := ⟨B, 2, none⟩) (by simp) (.slice H m r)).setCell (p := ⟨B, 3, none⟩) (by simp) (.int .i64 cap)).setCell (p := ⟨B, 4, none⟩) (by simp) (.int .i64 en)), (((((sb'.set (p := ⟨B, 0, none⟩) hbB (.int .i64 base)).set (p := ⟨B, 1, none⟩) hbB (.slice R n q)).set (p := ⟨B, 2, none⟩) hbB (.slice H m r)).set (p := ⟨B, 3, none⟩) hbB (.int .i64 cap)).set (p := ⟨B, 4, none⟩) hbB (.int .i64 en)), (((((sq'.set (p := ⟨B, 0, none⟩) hbB (.int .i64 base)).set (p := ⟨B, 1, none⟩) hbB (.slice R n q)).set (p := ⟨B, 2, none⟩) hbB (.slice H m r)).set (p := ⟨B, 3, none⟩) hbB (.int .i64 cap)).set (p := ⟨B, 4, none⟩) hbB (.int .i64 en))⟩
    case rest =>
    obtain ⟨R, q, H, r, e4, r4, b4, s4, q4⟩ := hcut
    rename World => w4
    clear x0 x1 x2 x3 x4
    have zz := e4.free 4
    have z4 := e4.cell 4 rfl
    have e5 := e4.set 4 (.int .i64 p)
    have r5 := r4.far (p := ⟨B, 4, none⟩) (by simp) (.int .i64 p)
    have b5 := b4.setCell (p := ⟨B, 4, none⟩) (by simp) (.int .i64 p)
    have s5 := s4.set (p := ⟨B, 4, none⟩) (by simp; omega) (.int .i64 p)
    have q5 := q4.set (p := ⟨B, 4, none⟩) (by simp; omega) (.int .i64 p)
    have u0 := e5.cell 0 rfl
    have u1 := e5.cell 1 rfl
    have u2 := e5.cell 2 rfl
    have u3 := e5.cell 3 rfl
    have u4 := e5.cell 4 rfl
    have t0 := r5.cell 0 rfl
    have t1 := r5.cell 1 rfl
    have t2 := r5.cell 2 rfl
    have t3 := r5.cell 3 rfl
    have t4 := r5.cell 4 rfl
    have tf0 := r5.free 0
    have tf1 := r5.free 1
    have tf2 := r5.free 2
    have tf3 := r5.free 3
    have tf4 := r5.free 4
    go_wp2_with fail
    have OV := (((((r5.set 0 (.int .i64 base)).set 1 (.slice R n q)).set 2 (.slice H m r)).set 3 (.int .i64 cap)).set 4 (.int .i64 p))
    have y0 := OV.cell 0 rfl
    have y1 := OV.cell 1 rfl
    have y2 := OV.cell 2 rfl
    have y3 := OV.cell 3 rfl
    have y4 := OV.cell 4 rfl
    have bz := (((((b5.setCell (p := ⟨B + 1, 0, none⟩) (by simp) (.int .i64 base)).setCell (p := ⟨B + 1, 1, none⟩) (by simp) (.slice R n q)).setCell (p := ⟨B + 1, 2, none⟩) (by simp) (.slice H m r)).setCell (p := ⟨B + 1, 3, none⟩) (by simp) (.int .i64 cap)).setCell (p := ⟨B + 1, 4, none⟩) (by simp) (.int .i64 p))
    have sz := (((((s5.set (p := ⟨B + 1, 0, none⟩) (by simp) (.int .i64 base)).set (p := ⟨B + 1, 1, none⟩) (by simp) (.slice R n q)).set (p := ⟨B + 1, 2, none⟩) (by simp) (.slice H m r)).set (p := ⟨B + 1, 3, none⟩) (by simp) (.int .i64 cap)).set (p := ⟨B + 1, 4, none⟩) (by simp) (.int .i64 p))
    have qz := (((((q5.set (p := ⟨B + 1, 0, none⟩) (by simp) (.int .i64 base)).set (p := ⟨B + 1, 1, none⟩) (by simp) (.slice R n q)).set (p := ⟨B + 1, 2, none⟩) (by simp) (.slice H m r)).set (p := ⟨B + 1, 3, none⟩) (by simp) (.int .i64 cap)).set (p := ⟨B + 1, 4, none⟩) (by simp) (.int .i64 p))
    exact bodyPost_ret (v := .tuple #[.agg #[.int .i64 base, .slice R n q, .slice H m r, .int .i64 cap, .int .i64 p], .int .i64 0]) (by simp [results, Try.results14, go_sem, y0, y1, y2, y3, y4]) rfl ⟨R, n, q, H, m, r, rfl, sz.mono (by omega), qz.mono (by omega), bz⟩
end Go.Proofs.Ytgiknfmagmfniaa
