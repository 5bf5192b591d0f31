/- The walk of the law LeastOf. -/
import Derived.Test.YtihheanjlabioaaProg
import Derived.Test.YtihheanjlabioaaLeAwake
import Derived.Test.YtihheanjlabioaaLeIn
import Derived.Test.YtihheanjlabioaaLeSer
import Derived.Test.YtihheanjlabioaaTail2
import Derived.OrdersHeld
import Derived.Deep.DeepCutAuto
import Derived.Deep.LoopGhost
import Derived.StillTail
import Derived.WalkKit
import Derived.WalkSpells
import Derived.WalkSmall
import Derived.Lib.Hide
import Derived.Below
import Derived.Outline
namespace Go.Proofs.Ytihheanjlabioaa.leastOf
open Go.RowKit
set_option linter.unusedVariables false
set_option linter.unusedSimpArgs false

section
variable {w w' : World} {base e n : Nat} {v : Value} {l : List Int}
theorem Goti.below (h : Goti w base e v n l) (hb : Below w.heap.size w w') : Goti w' base e v n l := by
  obtain ⟨⟨h1, h2⟩, h3⟩ := h
  refine ⟨⟨h1, ?_⟩, h3⟩
  rcases h2 with h2 | ⟨g, cap, cur, hv, hg, hh, r⟩
  · exact Or.inl h2
  · exact Or.inr ⟨g, cap, cur, hv, hg, by rw [hb.block g (Array.getElem?_eq_some_iff.1 hh).1]; exact hh, r⟩
theorem Goti.grown {row : Option Nat} (h : Goti w base e v n l) (hg : w.grownBy w' row) (hne : v.ownBlock = none ∨ v.ownBlock ≠ row) : Goti w' base e v n l := ⟨h.row.kept hg hne, h.wide⟩
theorem Sn.grownAny {b0 : Nat} {G : Option Addr} {m d : Nat} {k : List Sp} {row : Option Nat} (h : Sn w b0 G m d k) (hg : w.grownBy w' row) (hB : ∀ b, row = some b → b < b0) : Sn w' b0 G m d k := by
  refine ⟨⟨h.ss.le, h.ss.max, h.ss.nil, h.ss.rd.len, h.ss.rd.wide, fun h0 => ?_⟩, h.at_⟩
  obtain ⟨b, o, e, hlt, hc⟩ := h.ss.rd.at_ h0
  have hge := h.at_ b o _ e
  have hh := hg.block b hlt (by intro e2; have := hB b e2.symm; omega)
  refine ⟨b, o, e, Nat.lt_of_lt_of_le hlt hg.size, fun i hi => ?_⟩
  rw [← (hc i hi).1, ← (hc i hi).2]
  exact ⟨World.cell?_of_block (w := w) hh, World.cell?_of_block (w := w) hh⟩
end

/-- a whole windowed minimum is loaded, in a region that draws its order -/
theorem le_yields {ops : Array Oper} {S : World → Prop} {op : Oper} {a : Act} {B : Nat} (hw : Region.wanted op (yielded ops a.tmps) = true) (x : Operand) (ho : op.op = .load 24 x)
    (hx : a.eval x = .pointer (some ⟨B, 0, none⟩)) (cs : List Value) (hl : cs.length = 3) (t : TypeId) (hS : ∀ W, S W → Bx W B t cs) : YieldsIf Try.prog ops S op (.agg cs.toArray) a := by
  obtain ⟨fs, hu⟩ := least_struct
  exact .inl ⟨hw, fun w hw' => by
    unfold execOp
    simp only [ho, hx, Instr.loadAt, Instr.sureAddr, Sem.run_bind, Sem.run_pure, Result.andThen_ok, run_loadVar_row w B t 24 cs.toArray (0, 0) _ (hS w hw') hu rfl (by rw [info_least]; simp [hl])]⟩

set_option maxRecDepth 100000 in
set_option maxHeartbeats 8000000 in
theorem walk (span : Int) (A1 : Option Addr) (n1 c1 : Nat) (lt : List Int) (A2 : Option Addr) (n2 c2 : Nat) (sz : List Int) (w : World) (hw1 : W64 span) (h1 : Si w A1 n1 c1 lt) (h2 : Si w A2 n2 c2 sz) :
    Calls Try.prog 4 #[.int .i64 span, .slice A1 n1 c1, .slice A2 n2 c2] w fun e w' => e = .returned (.bool true) ∧ Below w.heap.size w w' := by
  have HN1 := h1.max; have HN2 := h2.max
  have HM1 := h1.le; have HM2 := h2.le
  unfold maxLen at HN1 HN2
  obtain ⟨B, hB⟩ : ∃ B, w.heap.size = B := ⟨_, rfl⟩
  rw [hB]
  have HB := Lib.hid hB
  clear hw1 hB
  go_enter Try.func4, Try.ntmps4
  go_wp2_with fail
  refine (leawake_any _).mono ?_
  rintro e w1 ⟨rfl, hb1⟩
  have b1 : Below B w w1 := by rw [← HB.out]; exact hb1
  have k1 := h1.keep hb1; have k2 := h2.keep hb1
  have hsz1 : B ≤ w1.heap.size := by rw [← HB.out]; exact hb1.size
  clear h1 h2 hb1
  by_cases c1' : span < 1
  case pos =>
    have dc1 : decide (span < 1) = true := decide_eq_true c1'
    go_wp2_with fail
    go_ret
    exact ⟨rfl, b1⟩
  case neg =>
  have dc1 : decide (span < 1) = false := decide_eq_false c1'
  by_cases c2' : 1000000 < span
  case pos =>
    have dc2 : decide (1000000 < span) = true := decide_eq_true c2'
    go_wp2_with fail
    go_ret
    exact ⟨rfl, b1⟩
  case neg =>
  have dc2 : decide (1000000 < span) = false := decide_eq_false c2'
  by_cases c3' : 90 < n1
  case pos =>
    have dc3 : decide (90 < n1) = true := decide_eq_true c3'
    go_wp2_with fail
    go_ret
    exact ⟨rfl, b1⟩
  case neg =>
  have dc3 : decide (90 < n1) = false := decide_eq_false c3'
  by_cases c4' : n2 < n1
  case pos =>
    have dc4 : decide (n2 < n1) = true := decide_eq_true c4'
    go_wp2_with fail
    go_ret
    exact ⟨rfl, b1⟩
  case neg =>
  have dc4 : decide (n2 < n1) = false := decide_eq_false c4'
  go_wp2_with fail
  have e2 := Bx.new w1 24 [.int .i64 span, .slice none 0 0, .int .i64 0]
  have b2 := b1.alloc hsz1 (.cells #[.int .i64 span, .slice none 0 0, .int .i64 0] 24)
  have b2' : Below w1.heap.size w1 (w1.alloc (.cells #[.int .i64 span, .slice none 0 0, .int .i64 0] 24)) := (Below.refl w1.heap.size w1).alloc (Nat.le_refl _) (.cells #[.int .i64 span, .slice none 0 0, .int .i64 0] 24)
  obtain ⟨V, hV⟩ : ∃ V, w1.heap.size = V := ⟨_, rfl⟩
  rw [hV] at e2 hsz1 b2' ⊢
  generalize w1.alloc (.cells #[.int .i64 span, .slice none 0 0, .int .i64 0] 24) = w2 at e2 b2 b2' ⊢
  obtain ⟨Z, hZ⟩ : ∃ Z, w2.heap.size = Z := ⟨_, rfl⟩
  have hVZ : V < Z := by rw [← hZ]; exact e2.lt
  have HZ := Lib.hid hZ
  have HJ1 := Lib.hid k1; have HJ2 := Lib.hid k2; have HV := Lib.hid hV
  clear k1 k2 hV hZ b1
  go_loopw [9, 10, 11, 12] (fun s9 s10 s11 s12 wr => ∃ (k f : Nat) (v : Lv) (R : Option Addr) (m d b0 : Nat), k ≤ n1 ∧ f ≤ k ∧ s9 = .int .i64 (tm lt k) ∧ s10 = .int .i64 (f : Int) ∧ s12 = .int .i64 (k : Int) ∧ Hid (Goti wr Z 3 s11 k (whens lt k) ∧ Bx wr V 24 [.int .i64 span, .slice R m d, .int .i64 v.high] ∧ Sn wr b0 R m d v.l ∧ (∀ b, s11.ownBlock = some b → b < b0) ∧ Ser v (recs lt sz f k) (tm lt k) ∧ v.span = span ∧ Small lt k ∧ Small sz k ∧ Below B w wr ∧ Below V w1 wr ∧ Z ≤ wr.heap.size)) (fun _ _ _ i _ => n1 - (intOf i).toNat)
  case atStart =>
    refine ⟨0, 0, ⟨span, [], 0⟩, none, 0, 0, 0, Nat.zero_le _, Nat.le_refl _, rfl, rfl, rfl, Goti.nil _ _ _, e2, Sn.none _ _, (fun b h => by cases h), ?_, rfl, (fun i hi => absurd hi (by omega)), (fun i hi => absurd hi (by omega)), b2, b2', Nat.le_of_eq HZ.out.symm⟩
    rw [recs_self]
    exact ser_nil (v := ⟨span, [], 0⟩) ⟨by dsimp only; omega, by dsimp only; omega, Nat.zero_le _, Int.le_refl 0, by show (0 : Int) ≤ 7; decide, fun i hi => absurd hi (by simp)⟩ rfl
  case round =>
    obtain ⟨k, f, v, R, m, d, b0, hkn, hfk, rfl, rfl, rfl, HI⟩ := hrel
    clear e2 b2 b2'
    have br := HI.out.2.2.2.2.2.2.2.2.2.1
    have bw := HI.out.2.2.2.2.2.2.2.2.1
    have hsz : Z ≤ wr.heap.size := HI.out.2.2.2.2.2.2.2.2.2.2
    have brw : Below w1.heap.size w1 wr := by rw [HV.out]; exact br
    by_cases hlt : k < n1
    case neg =>
      obtain rfl : k = n1 := by omega
      have hd : decide (k < k) = false := decide_eq_false (by omega)
      go_wp2_with fail
      go_ret
      exact ⟨rfl, bw⟩
    case pos =>
    have hd : decide (k < n1) = true := decide_eq_true hlt
    have hk2 : k < n2 := by omega
    obtain ⟨bl, ol, hAl, hbl, hcl⟩ := (HJ1.out.keep brw).rd.at_ (by omega)
    subst hAl
    obtain ⟨bs, os, hAs, hbs, hcs⟩ := (HJ2.out.keep brw).rd.at_ (by omega)
    subst hAs
    have z1 := hcl k hlt
    have z2 := hcs k hk2
    obtain ⟨p, hp⟩ : ∃ p, it lt k = p := ⟨_, rfl⟩
    obtain ⟨q, hq⟩ : ∃ q, it sz k = q := ⟨_, rfl⟩
    rw [hp] at z1
    rw [hq] at z2
    have HP := Lib.hid hp; have HQ := Lib.hid hq
    clear hcl hcs hp hq
    by_cases g1 : p < 0
    case pos =>
      have dg1 : decide (p < 0) = true := decide_eq_true g1
      go_wp2_with fail
      go_ret
      exact ⟨rfl, bw⟩
    case neg =>
    have dg1 : decide (p < 0) = false := decide_eq_false g1
    by_cases g2 : 1000000 < p
    case pos =>
      have dg2 : decide (1000000 < p) = true := decide_eq_true g2
      go_wp2_with fail
      go_ret
      exact ⟨rfl, bw⟩
    case neg =>
    have dg2 : decide (1000000 < p) = false := decide_eq_false g2
    by_cases g3 : q < 0
    case pos =>
      have dg3 : decide (q < 0) = true := decide_eq_true g3
      go_wp2_with fail
      go_ret
      exact ⟨rfl, bw⟩
    case neg =>
    have dg3 : decide (q < 0) = false := decide_eq_false g3
    by_cases g4 : 1000000 < q
    case pos =>
      have dg4 : decide (1000000 < q) = true := decide_eq_true g4
      go_wp2_with fail
      go_ret
      exact ⟨rfl, bw⟩
    case neg =>
    have dg4 : decide (1000000 < q) = false := decide_eq_false g4
    have hsl := small_snoc HI.out.2.2.2.2.2.2.1 (by rw [HP.out]; omega) (by rw [HP.out]; omega)
    have hss := small_snoc HI.out.2.2.2.2.2.2.2.1 (by rw [HQ.out]; omega) (by rw [HQ.out]; omega)
    have htb := tm_bd HI.out.2.2.2.2.2.2.1
    have hts := tm_succ lt k
    rw [HP.out] at hts
    obtain ⟨a, ha⟩ : ∃ a, tm lt k = a := ⟨_, rfl⟩
    rw [ha] at htb hts ⊢
    obtain ⟨ta0, ta1⟩ := htb
    have hser := HI.out.2.2.2.2.1
    have hmet := ser_met hser (a := tm lt (k + 1)) (n := it sz k) (by rw [hts]; omega) (by rw [hts]; omega) (by rw [HQ.out]; omega) (by rw [HQ.out]; omega) (by rw [hts, ha]; omega)
    have hstep := ser_step hser hfk (by omega) (by rw [HP.out]; omega) hmet
    have hspan := (met_span hmet).trans HI.out.2.2.2.2.2.1
    have hok0 := (met_valid hmet).2
    rw [hts, HQ.out] at hstep hspan hok0
    have HTS := Lib.hid hts; have HSL := Lib.hid hsl; have HSS := Lib.hid hss
    have hvs := HI.out.2.2.2.2.2.1
    obtain ⟨x, hx⟩ : ∃ x, metR v (a + p) q = x := ⟨_, rfl⟩
    rw [hx] at hstep hspan hok0
    obtain ⟨x, xb, xe⟩ := x
    dsimp only at hstep hspan hok0
    subst hok0
    have hv1 : (⟨span, v.l, v.high⟩ : Lv) = v := by rw [← hvs]
    have HX := Lib.hid hx; have HST := Lib.hid hstep; have HSP := Lib.hid hspan; have HV1 := Lib.hid hv1
    have wap : W64 (a + p) := by unfold W64; omega
    have WAP := Lib.hid wap
    have HG : Hid (Goti wr Z 3 u11 k (whens lt k)) := HI.out.1
    clear hsl hss ha hts hser hmet hstep hspan hvs hx hv1 wap
    go_upto_region 15 with (at_builtin; go_loud (refine wpList_appi _ rfl (.tmp 84) (.tmp 86) 35 rfl Z 3 Try.underlying35 info_int _ _ _ rfl (HG.out.alloc (.cells #[.int .i64 (a + p)] 3)) rfl (fun h => by cases h) (ri_one wr WAP.out 3) (by omega) (by simp; omega) ?_; intro v' w3 hg' hgrow' hown'))
    have hgr : (wr.alloc (.cells #[.int .i64 (a + p)] 3)).grownBy w3 u11.ownBlock := hgrow'
    have how : v'.ownBlock = u11.ownBlock ∨ v'.ownBlock = some (wr.alloc (.cells #[.int .i64 (a + p)] 3)).heap.size := hown'
    clear hgrow' hown'
    have hal : Below wr.heap.size wr (wr.alloc (.cells #[.int .i64 (a + p)] 3)) := (Below.refl _ _).alloc (Nat.le_refl _) _
    have e3 : Bx w3 V 24 [.int .i64 span, .slice R m d, .int .i64 v.high] := (HI.out.2.1.kept hal).grown hgr (fun h => by have := (HG.out.row.lt V h.symm).1; omega)
    have s3 : Sn w3 b0 R m d v.l := Sn.grownAny (HI.out.2.2.1.keep hal) hgr HI.out.2.2.2.1
    have br3 : Below V w1 w3 := (br.alloc (by omega) _).grown hgr (by simp; omega) (fun b h => by have := (HG.out.row.lt b h).1; omega)
    have bw3 : Below B w w3 := ((bw.alloc (by omega) _).grown hgr (by simp; omega) (fun b h => by have := (HG.out.row.lt b h).1; omega))
    have hsz3 : Z ≤ w3.heap.size := by have := hgr.size; simp at this; omega
    have hbs0 : bs < w3.heap.size := by have := hgr.size; simp at this; omega
    have z3 : w3.cell? ⟨bs, os + k, none⟩ = some (.int .i64 q) := by
      obtain ⟨b', o', hA', hb', hc'⟩ := (HJ2.out.keep (by rw [HV.out]; exact br3)).rd.at_ (by omega)
      cases hA'
      rw [hc' k hk2, HQ.out]
    have hbs3 := hbs0
    have g3 : Goti w3 Z 3 v' (k + 1) (whens lt (k + 1)) := by rw [whens_snoc, HTS.out]; exact hg'
    have HG3 := Lib.hid g3; have HGR := Lib.hid hgr; have HOW := Lib.hid how; have HAL := Lib.hid hal
    clear hg' g3 hgr how hal z1 z2 hbs hbs0
    go_cut [13, 14, 15] (fun s13 s14 s15 wx => ∃ Vb R1 m1 d1, s13 = .pointer (some ⟨Vb, 0, none⟩) ∧ s14 = .bool xb ∧ s15 = .int .i64 0 ∧ Hid (w3.heap.size ≤ Vb ∧ Bx wx Vb 24 [.int .i64 x.span, .slice R1 m1 d1, .int .i64 x.high] ∧ Sn wx w3.heap.size R1 m1 d1 x.l ∧ Below w3.heap.size w3 wx))
    case first =>
      have d0 : Below w3.heap.size w3 w3.drew := (Below.refl _ _).drew
      refine wp_region_tail 14 15 (fun (W : World) => W.cell? ⟨bs, os + k, none⟩ = some (.int .i64 q) ∧ Below w3.heap.size w3 W) (by kernel_rfl) (by rfl) (by decide) ?_
      have HS : ((fun (W : World) => W.cell? ⟨bs, os + k, none⟩ = some (.int .i64 q) ∧ Below w3.heap.size w3 W)) _ := ⟨(d0.cell (p := ⟨bs, os + k, none⟩) hbs3).trans z3, d0⟩
      refine wpAnyT_take (i := 0) (v := .agg #[.int .i64 span, .slice R m d, .int .i64 v.high]) rfl (by kernel_rfl) (fun _ _ _ h => h) (le_yields (by rfl) (.tmp 8) rfl rfl [.int .i64 span, .slice R m d, .int .i64 v.high] rfl 24 (fun W hW => e3.below hW.2 e3.lt)) HS ?_
      try simp only [Act.put, List.setIfInBounds_toArray, List.set_cons_zero, List.set_cons_succ]
      refine wpAnyT_take (i := 1) (v := ?vv1) rfl (by kernel_rfl) (fun _ _ _ h => h) (Or.inl ⟨by rfl, fun w hSw => ?yy1⟩) HS ?rr1
      case yy1 =>
        (try dsimp only at hSw); go_simp
        try with_reducible rfl
      try simp only [Act.put, List.setIfInBounds_toArray, List.set_cons_zero, List.set_cons_succ]
      refine wpAnyT_take (i := 2) (v := ?vv2) rfl (by kernel_rfl) (fun _ _ _ h => h) (Or.inl ⟨by rfl, fun w hSw => ?yy2⟩) HS ?rr2
      case yy2 =>
        (try dsimp only at hSw); go_simp
        try with_reducible rfl
      try simp only [Act.put, List.setIfInBounds_toArray, List.set_cons_zero, List.set_cons_succ]
      refine wpAnyT_take (i := 3) (v := ?vv3) rfl (by kernel_rfl) (fun _ _ _ h => h) (Or.inl ⟨by rfl, fun w hSw => ?yy3⟩) HS ?rr3
      case yy3 =>
        (try dsimp only at hSw); go_simp
        try with_reducible rfl
      try simp only [Act.put, List.setIfInBounds_toArray, List.set_cons_zero, List.set_cons_succ]
      refine wpAnyT_take (i := 4) (v := ?vv4) rfl (by kernel_rfl) (fun _ _ _ h => h) (Or.inl ⟨by rfl, fun w hSw => ?yy4⟩) HS ?rr4
      case yy4 =>
        (try dsimp only at hSw); go_simp
        try with_reducible rfl
      try simp only [Act.put, List.setIfInBounds_toArray, List.set_cons_zero, List.set_cons_succ]
      refine wpAnyT_take (i := 5) (v := ?vv5) rfl (by kernel_rfl) (fun _ _ _ h => h) (Or.inl ⟨by rfl, fun w hSw => ?yy5⟩) HS ?rr5
      case yy5 =>
        (try dsimp only at hSw); go_simp
        try with_reducible rfl
      try simp only [Act.put, List.setIfInBounds_toArray, List.set_cons_zero, List.set_cons_succ]
      refine wpAnyT_two (k1 := 6) (k2 := 11) rfl rfl (by kernel_rfl) (by decide) (by decide) (fun K hK => ?_) (fun K hK => ?_)
      · go_simp
        refine (lemet_any span R m d v.high v.l (a + p) q _ (s3.ss.keep d0)).mono ?_
        rintro e w4 ⟨R1, m1, d1, he, hs4, hb4⟩
        rw [HV1.out, HX.out] at he hs4
        dsimp only at he hs4
        subst he
        have d4 := d0.trans (hb4.mono (Nat.le_refl _))
        have HS : ((fun (W : World) => W.cell? ⟨bs, os + k, none⟩ = some (.int .i64 q) ∧ Below w3.heap.size w3 W)) _ := ⟨(d4.cell (p := ⟨bs, os + k, none⟩) hbs3).trans z3, d4⟩
        refine hK _ _ HS ?_
        clear hK K
        try simp only [Act.put, List.setIfInBounds_toArray, List.set_cons_zero, List.set_cons_succ]
        refine wpAnyT_take (i := 7) (v := ?vv6) rfl (by kernel_rfl) (fun _ _ _ h => h) (Or.inl ⟨by rfl, fun w hSw => ?yy6⟩) HS ?rr6
        case yy6 =>
          (try dsimp only at hSw); go_simp
          try with_reducible rfl
        try simp only [Act.put, List.setIfInBounds_toArray, List.set_cons_zero, List.set_cons_succ]
        refine wpAnyT_take (i := 8) (v := ?vv7) rfl (by kernel_rfl) (fun _ _ _ h => h) (Or.inl ⟨by rfl, fun w hSw => ?yy7⟩) HS ?rr7
        case yy7 =>
          (try dsimp only at hSw); go_simp
          try with_reducible rfl
        try simp only [Act.put, List.setIfInBounds_toArray, List.set_cons_zero, List.set_cons_succ]
        refine wpAnyT_take (i := 9) (v := ?vv8) rfl (by kernel_rfl) (fun _ _ _ h => h) (Or.inl ⟨by rfl, fun w hSw => ?yy8⟩) HS ?rr8
        case yy8 =>
          (try dsimp only at hSw); go_simp
          try with_reducible rfl
        try simp only [Act.put, List.setIfInBounds_toArray, List.set_cons_zero, List.set_cons_succ]
        refine wpAnyT_take (i := 10) (v := ?vv9) rfl (by kernel_rfl) (fun _ _ _ h => h) (Or.inl ⟨by rfl, fun w hSw => ?yy9⟩) HS ?rr9
        case yy9 =>
          (try dsimp only at hSw); go_simp
          try with_reducible rfl
        try simp only [Act.put, List.setIfInBounds_toArray, List.set_cons_zero, List.set_cons_succ]
        have d5 := d4.alloc d4.size (.cells #[.int .i64 0, .slice none 0 0, .int .i64 0] 24)
        have y5 := Bx.new w4 24 [.int .i64 0, .slice none 0 0, .int .i64 0]
        have hs5 := hs4.keep ((Below.refl w4.heap.size w4).alloc (Nat.le_refl _) (.cells #[.int .i64 0, .slice none 0 0, .int .i64 0] 24))
        refine wpAnyT_one (k := 11) rfl (by kernel_rfl) (by decide) (fun K hK => ?_)
        go_simp
        have HS : ((fun (W : World) => W.cell? ⟨bs, os + k, none⟩ = some (.int .i64 q) ∧ Below w3.heap.size w3 W)) _ := ⟨(d5.cell (p := ⟨bs, os + k, none⟩) hbs3).trans z3, d5⟩
        refine hK _ _ HS ?_
        clear hK K
        try simp only [Act.put, List.setIfInBounds_toArray, List.set_cons_zero, List.set_cons_succ]
        have d6 := d5.grown (le_grown (w4.alloc (.cells #[.int .i64 0, .slice none 0 0, .int .i64 0] 24)) w4.heap.size #[.int .i64 x.span, .slice R1 m1 d1, .int .i64 x.high]) (by have := d5.size; exact this) (fun k hk => by cases hk; exact d4.size)
        refine wpAnyT_one (k := 12) rfl (by kernel_rfl) (by decide) (fun K hK => ?_)
        rw [if_pos (by rfl)]
        refine wp_store_row 24 (.tmp 13) (.tmp 96) rfl w4.heap.size #[.int .i64 x.span, .slice R1 m1 d1, .int .i64 x.high] (by rfl) (by rfl) 24 _ y5 (by rw [info_least]; rfl) (by rfl) (by have h : ([.int .i64 x.span, .slice R1 m1 d1, .int .i64 x.high] : List Value).all (·.oneCell') = true := rfl; simpa using h) ?_
        have HS : ((fun (W : World) => W.cell? ⟨bs, os + k, none⟩ = some (.int .i64 q) ∧ Below w3.heap.size w3 W)) _ := ⟨(d6.cell (p := ⟨bs, os + k, none⟩) hbs3).trans z3, d6⟩
        refine hK _ _ HS ?_
        clear hK K
        try simp only [Act.put, List.setIfInBounds_toArray, List.set_cons_zero, List.set_cons_succ]
        refine wpAnyT_take (i := 13) (v := ?vv10) rfl (by kernel_rfl) (fun _ _ _ h => h) (Or.inl ⟨by rfl, fun w hSw => ?yy10⟩) HS ?rr10
        case yy10 =>
          (try dsimp only at hSw); go_simp
          try with_reducible rfl
        try simp only [Act.put, List.setIfInBounds_toArray, List.set_cons_zero, List.set_cons_succ]
        refine ⟨by kernel_rfl, ?_⟩
        simp only [List.drop_succ_cons, List.drop_zero]
        go_wp2_with fail
        go_meet
        case rel => exact ⟨w4.heap.size, R1, m1, d1, rfl, rfl, rfl, ⟨d4.size, le_put y5 [.int .i64 x.span, .slice R1 m1 d1, .int .i64 x.high], (hs4.keep (((Below.refl w4.heap.size w4).alloc (Nat.le_refl _) (.cells #[.int .i64 0, .slice none 0 0, .int .i64 0] 24)).grown (le_grown _ w4.heap.size #[.int .i64 x.span, .slice R1 m1 d1, .int .i64 x.high]) (by simp) (fun k hk => by cases hk; exact Nat.le_refl _))).mono (Nat.le_refl _), d6⟩⟩
      · go_simp
        have d4 := d0.alloc (Nat.le_refl _) (.cells #[.int .i64 0, .slice none 0 0, .int .i64 0] 24)
        have y4 := Bx.new w3.drew 24 [.int .i64 0, .slice none 0 0, .int .i64 0]
        have HS : ((fun (W : World) => W.cell? ⟨bs, os + k, none⟩ = some (.int .i64 q) ∧ Below w3.heap.size w3 W)) _ := ⟨(d4.cell (p := ⟨bs, os + k, none⟩) hbs3).trans z3, d4⟩
        refine hK _ _ HS ?_
        clear hK K
        try simp only [Act.put, List.setIfInBounds_toArray, List.set_cons_zero, List.set_cons_succ]
        refine wpAnyT_one (k := 6) rfl (by kernel_rfl) (by decide) (fun K hK => ?_)
        go_simp
        refine (lemet_any span R m d v.high v.l (a + p) q _ (s3.ss.keep d4)).mono ?_
        rintro e w5 ⟨R1, m1, d1, he, hs4, hb4⟩
        rw [HV1.out, HX.out] at he hs4
        dsimp only at he hs4
        subst he
        have d5 := d4.trans (hb4.mono d4.size)
        have y5 := y4.kept hb4
        have HS : ((fun (W : World) => W.cell? ⟨bs, os + k, none⟩ = some (.int .i64 q) ∧ Below w3.heap.size w3 W)) _ := ⟨(d5.cell (p := ⟨bs, os + k, none⟩) hbs3).trans z3, d5⟩
        refine hK _ _ HS ?_
        clear hK K
        try simp only [Act.put, List.setIfInBounds_toArray, List.set_cons_zero, List.set_cons_succ]
        refine wpAnyT_take (i := 7) (v := ?vv11) rfl (by kernel_rfl) (fun _ _ _ h => h) (Or.inl ⟨by rfl, fun w hSw => ?yy11⟩) HS ?rr11
        case yy11 =>
          (try dsimp only at hSw); go_simp
          try with_reducible rfl
        try simp only [Act.put, List.setIfInBounds_toArray, List.set_cons_zero, List.set_cons_succ]
        refine wpAnyT_take (i := 8) (v := ?vv12) rfl (by kernel_rfl) (fun _ _ _ h => h) (Or.inl ⟨by rfl, fun w hSw => ?yy12⟩) HS ?rr12
        case yy12 =>
          (try dsimp only at hSw); go_simp
          try with_reducible rfl
        try simp only [Act.put, List.setIfInBounds_toArray, List.set_cons_zero, List.set_cons_succ]
        refine wpAnyT_take (i := 9) (v := ?vv13) rfl (by kernel_rfl) (fun _ _ _ h => h) (Or.inl ⟨by rfl, fun w hSw => ?yy13⟩) HS ?rr13
        case yy13 =>
          (try dsimp only at hSw); go_simp
          try with_reducible rfl
        try simp only [Act.put, List.setIfInBounds_toArray, List.set_cons_zero, List.set_cons_succ]
        refine wpAnyT_take (i := 10) (v := ?vv14) rfl (by kernel_rfl) (fun _ _ _ h => h) (Or.inl ⟨by rfl, fun w hSw => ?yy14⟩) HS ?rr14
        case yy14 =>
          (try dsimp only at hSw); go_simp
          try with_reducible rfl
        try simp only [Act.put, List.setIfInBounds_toArray, List.set_cons_zero, List.set_cons_succ]
        have d6 := d5.grown (le_grown w5 w3.drew.heap.size #[.int .i64 x.span, .slice R1 m1 d1, .int .i64 x.high]) d5.size (fun k hk => by cases hk; exact Nat.le_refl _)
        refine wpAnyT_one (k := 12) rfl (by kernel_rfl) (by decide) (fun K hK => ?_)
        rw [if_pos (by rfl)]
        refine wp_store_row 24 (.tmp 13) (.tmp 96) rfl w3.drew.heap.size #[.int .i64 x.span, .slice R1 m1 d1, .int .i64 x.high] (by rfl) (by rfl) 24 _ y5 (by rw [info_least]; rfl) (by rfl) (by have h : ([.int .i64 x.span, .slice R1 m1 d1, .int .i64 x.high] : List Value).all (·.oneCell') = true := rfl; simpa using h) ?_
        have HS : ((fun (W : World) => W.cell? ⟨bs, os + k, none⟩ = some (.int .i64 q) ∧ Below w3.heap.size w3 W)) _ := ⟨(d6.cell (p := ⟨bs, os + k, none⟩) hbs3).trans z3, d6⟩
        refine hK _ _ HS ?_
        clear hK K
        try simp only [Act.put, List.setIfInBounds_toArray, List.set_cons_zero, List.set_cons_succ]
        refine wpAnyT_take (i := 13) (v := ?vv15) rfl (by kernel_rfl) (fun _ _ _ h => h) (Or.inl ⟨by rfl, fun w hSw => ?yy15⟩) HS ?rr15
        case yy15 =>
          (try dsimp only at hSw); go_simp
          try with_reducible rfl
        try simp only [Act.put, List.setIfInBounds_toArray, List.set_cons_zero, List.set_cons_succ]
        refine ⟨by kernel_rfl, ?_⟩
        simp only [List.drop_succ_cons, List.drop_zero]
        go_wp2_with fail
        go_meet
        case rel => exact ⟨w3.drew.heap.size, R1, m1, d1, rfl, rfl, rfl, ⟨Nat.le_refl _, le_put y5 [.int .i64 x.span, .slice R1 m1 d1, .int .i64 x.high], (hs4.grown (le_grown w5 w3.drew.heap.size #[.int .i64 x.span, .slice R1 m1 d1, .int .i64 x.high]) (by simp)).mono (by simp), d6⟩⟩
    case rest =>
    obtain ⟨Vb, R1, m1, d1, rfl, rfl, rfl, HC⟩ := hcut
    have ec := e3.kept HC.out.2.2.2
    have vc := HC.out.2.1
    have gc := Goti.below HG3.out HC.out.2.2.2
    have hVne : v'.ownBlock = none ∨ v'.ownBlock ≠ some V := .inr (fun h => by have := (HG3.out.row.lt V h).1; omega)
    have ed := le_put ec [.int .i64 x.span, .slice R1 m1 d1, .int .i64 x.high]
    have gd := Goti.grown gc (le_grown wc V #[.int .i64 x.span, .slice R1 m1 d1, .int .i64 x.high]) hVne
    have sd := HC.out.2.2.1.grown (le_grown wc V #[.int .i64 x.span, .slice R1 m1 d1, .int .i64 x.high]) e3.lt
    have brc := br3.trans (HC.out.2.2.2.mono (by omega))
    have bwc := bw3.trans (HC.out.2.2.2.mono (by omega))
    have hszc : Z ≤ wc.heap.size := Nat.le_trans hsz3 HC.out.2.2.2.size
    have brd : Below V w1 (wc.setRow V #[.int .i64 x.span, .slice R1 m1 d1, .int .i64 x.high]) := brc.grown (le_grown wc V #[.int .i64 x.span, .slice R1 m1 d1, .int .i64 x.high]) (Nat.le_of_lt ec.lt) (fun b h => by cases h; exact Nat.le_refl _)
    have bwd := bwc.grown (le_grown wc V #[.int .i64 x.span, .slice R1 m1 d1, .int .i64 x.high]) (Nat.le_of_lt (Nat.lt_of_le_of_lt hsz1 ec.lt)) (fun b h => by cases h; exact hsz1)
    have hszd : Z ≤ (wc.setRow V #[.int .i64 x.span, .slice R1 m1 d1, .int .i64 x.high]).heap.size := by have := (le_grown wc V #[.int .i64 x.span, .slice R1 m1 d1, .int .i64 x.high]).size; omega
    have hvb : ∀ b, v'.ownBlock = some b → b < w3.heap.size := fun b h => (HG3.out.row.lt b h).2
    go_upto_if 102 with (first | (refine le_load rfl (.tmp 13) rfl rfl vc rfl ?_) | (refine le_store rfl (.tmp 8) (.tmp 101) rfl rfl [.int .i64 x.span, .slice R1 m1 d1, .int .i64 x.high] rfl ec rfl rfl rfl ?_))
    generalize wc.setRow V #[.int .i64 x.span, .slice R1 m1 d1, .int .i64 x.high] = wd at ed gd sd brd bwd hszd ⊢
    clear vc gc ec brc bwc hszc HC e3 s3 br3 bw3
    go_cut [10] (fun s10 wx => s10 = .int .i64 ((if xb = true then k else f : Nat) : Int) ∧ wx = wd)
    case first =>
      cases xb with
      | true =>
        go_wp2_with fail
        go_meet
        case rel => exact ⟨by simp, rfl⟩
      | false =>
        go_wp2_with fail
        go_meet
        case rel => exact ⟨by simp, rfl⟩
    case rest =>
    obtain ⟨rfl, rfl⟩ := hcut
    obtain ⟨F, hF⟩ : ∃ F, (if xb = true then k else f) = F := ⟨_, rfl⟩
    have hFk : F ≤ k := by rw [← hF]; split <;> omega
    have hser := HST.out
    rw [hF] at hser ⊢
    have HSER := Lib.hid hser
    clear hF hser
    rename World => wd
    have z4 : wd.cell? ⟨bs, os + k, none⟩ = some (.int .i64 q) := by
      obtain ⟨b', o', hA', hb', hc'⟩ := (HJ2.out.keep (by rw [HV.out]; exact brd)).rd.at_ (by omega)
      cases hA'
      rw [hc' k hk2, HQ.out]
    obtain ⟨A3, c3, hv3, g3⟩ := gd.si
    subst hv3
    have HG3s := Lib.hid g3
    clear g3
    go_wp2_with fail
    clear z4
    go_loopw [16, 17] (fun s16 s17 wz => ∃ (j : Nat) (m : Int), F ≤ j ∧ j ≤ k ∧ s17 = .int .i64 (j : Int) ∧ s16 = .int .i64 m ∧ Hid (MinOf span (a + p) (recs lt sz F j ++ [(a + p, q)]) m) ∧ wd = wz) (fun _ i _ => k - (intOf i).toNat)
    case atStart =>
      refine ⟨F, q, Nat.le_refl _, hFk, rfl, rfl, ?_, rfl⟩
      rw [recs_self]
      exact min_start (by omega)
    case round =>
      obtain ⟨j, m, hFj, hjk, rfl, rfl, HM, rfl⟩ := hrel
      by_cases hj : j < k
      case pos =>
        have dj : decide (j < k) = true := decide_eq_true hj
        obtain ⟨b', o', hA', hb', hc'⟩ := (HJ2.out.keep (by rw [HV.out]; exact brd)).rd.at_ (by omega)
        cases hA'
        have y2 := hc' j (by omega)
        obtain ⟨b3, o3, hA3, hb3, hc3⟩ := HG3s.out.rd.at_ (by omega)
        subst hA3
        have y1 := hc3 j (by omega)
        rw [it_whens (by omega)] at y1
        have tb := tm_bd (k := j + 1) (lt := lt) (fun i hi => HSL.out i (by omega))
        have hrs := recs_snoc lt sz hFj
        obtain ⟨t, ht⟩ : ∃ t, tm lt (j + 1) = t := ⟨_, rfl⟩
        obtain ⟨u, hu⟩ : ∃ u, it sz j = u := ⟨_, rfl⟩
        have hr1 : rec1 lt sz j = (t, u) := by unfold rec1; rw [ht, hu]
        rw [ht] at tb y1
        rw [hu] at y2
        rw [hr1] at hrs
        obtain ⟨tb0, tb1⟩ := tb
        have HR := Lib.hid hrs
        clear hc' hc3 ht hu hr1 hrs
        by_cases h5 : a + p - t ≤ span
        · have d5 : decide (a + p - t ≤ span) = true := decide_eq_true h5
          by_cases h6 : u < m
          · have d6 : decide (u < m) = true := decide_eq_true h6
            go_wp2_with fail
            go_roundw
            case rel => exact ⟨j + 1, u, by omega, by omega, by go_num, rfl, by rw [HR.out]; exact min_less (p := (t, u)) HM.out h5 h6, by first | rfl | trivial⟩
            case measure => simp [intOf]; omega
          · have d6 : decide (u < m) = false := decide_eq_false h6
            go_wp2_with fail
            go_roundw
            case rel => exact ⟨j + 1, m, by omega, by omega, by go_num, rfl, by rw [HR.out]; exact min_more (p := (t, u)) HM.out (.inr h6), by first | rfl | trivial⟩
            case measure => simp [intOf]; omega
        · have d5 : decide (a + p - t ≤ span) = false := decide_eq_false h5
          go_wp2_with fail
          go_roundw
          case rel => exact ⟨j + 1, m, by omega, by omega, by go_num, rfl, by rw [HR.out]; exact min_more (p := (t, u)) HM.out (.inl h5), by first | rfl | trivial⟩
          case measure => simp [intOf]; omega
      case neg =>
      obtain rfl : j = k := by omega
      have dj : decide (j < j) = false := decide_eq_false (by omega)
      have hof : ofR x (a + p) = (m, true) := by
        have hm := HM.out
        rw [show recs lt sz F j ++ [(a + p, q)] = recs lt sz F (j + 1) by rw [recs_snoc _ _ hFj]; unfold rec1; rw [HTS.out, HQ.out]] at hm
        exact ser_of HSER.out (by omega) (by omega) (by rw [HSP.out]; exact hm.one) (by rw [HSP.out]; exact hm.all)
      have hlm : lmay x = true := (lmay_iff x).2 HSER.out.ok
      have HOF := Lib.hid hof; have HLM := Lib.hid hlm
      clear hof hlm
      go_wp2_with (refine le_load rfl (.tmp 8) rfl rfl ed rfl ?_)
      refine (leof_any x.span R1 m1 d1 x.high x.l (a + p) _ sd.ss).mono ?_
      rintro e w7 ⟨rfl, hb7⟩
      rw [HOF.out]
      dsimp only
      have e7 := ed.kept hb7; have s7 := sd.keep hb7; have g7 := Goti.below gd hb7
      have b7 := bwd.trans (hb7.mono (by omega)); have r7 := brd.trans (hb7.mono (by omega)); have z7 : Z ≤ w7.heap.size := Nat.le_trans hszd hb7.size
      have y0 := e7.cell 0 rfl; have y1 := e7.cell 1 rfl; have y2 := e7.cell 2 rfl
      go_wp2_with fail
      refine (lemay_any x.span R1 m1 d1 x.high x.l _ s7.ss).mono ?_
      rintro e w8 ⟨rfl, hb8⟩
      rw [HLM.out]
      have e8 := e7.kept hb8; have s8 := s7.keep hb8; have g8 := Goti.below g7 hb8
      have b8 := b7.trans (hb8.mono (by omega)); have r8 := r7.trans (hb8.mono (by omega)); have z8 : Z ≤ w8.heap.size := Nat.le_trans z7 hb8.size
      clear y0 y1 y2
      go_wp2_with fail
      go_roundw
      case rel => exact ⟨j + 1, F, x, R1, m1, d1, w3.heap.size, by omega, by omega, by rw [HTS.out], rfl, by go_num, ⟨g8, by rw [← HSP.out]; exact e8, s8, hvb, by rw [HTS.out]; exact HSER.out, HSP.out, HSL.out, HSS.out, b8, r8, z8⟩⟩
      case measure => simp [intOf]; omega
end Go.Proofs.Ytihheanjlabioaa.leastOf
