/- The reference's made, as a contract of the call. -/
import Derived.Test.YtgiknfmagmfniaaSpMadeA
import Derived.Test.YtgiknfmagmfniaaSpAddP
import Derived.Deep.DeepCutAuto
namespace Go.Proofs.Ytgiknfmagmfniaa
open Go.RowKit

theorem made_push' {l : List Sp} {s : Sp} {wo : Bool} {e : List Int} {i : Nat} {o : List Sp} {u v : Int} (h : Between l s e) (m : Made l s wo e i o) (hi : i + 1 < e.length) (hc : cond wo l s (it e i)) (hl : lastOf (-1) o < u) (hu : it e i = u) (hv : it e (i + 1) = v) : Made l s wo e (i + 1) (o ++ [(u, v)]) := by
  subst hu hv; exact made_push h m hi hc hl

theorem gots_last {w : World} {base e g j co : Nat} {r : List Sp} {p q v : Int} (h : Gots w base e (.slice (some ⟨g, 0, none⟩) (j + 1) co) (j + 1) (r ++ [(p, q)])) (hj : r.length = j) (hv : W64 v) :
    Gots (w.setCell ⟨g, j * 2 + 1, none⟩ (.int .i64 v)) base e (.slice (some ⟨g, 0, none⟩) (j + 1) co) (j + 1) (r ++ [(p, v)]) := by
  have h1 := (h.row.stored (j * 2 + 1) (.int .i64 v)).1
  rw [vals_app, vals_one, List.set_append_right _ _ (by rw [vals_length]; omega), vals_length, hj, show j * 2 + 1 - j * 2 = 1 by omega] at h1
  refine ⟨by rw [vals_app, vals_one]; exact h1, wide_app (fun x hx => h.wide x (List.mem_append.2 (.inl hx))) (wide_one (h.wide (p, q) (by simp)).1 hv)⟩

theorem gots_ss2 {w : World} {base e n : Nat} {v : Value} {l : List Sp} (h : Gots w base e v n l) : ∃ A c, v = .slice A n c ∧ Ss w A n c l := h.ss

set_option linter.unusedSimpArgs false in
set_option maxRecDepth 100000 in
set_option maxHeartbeats 4000000 in
theorem made_any (A : Option Addr) (n c : Nat) (l : List Sp) (a b : Int) (wo : Bool) (w : World) (hs : Ss w A n c l) (ha : W64 a) (hbw : W64 b) (hm : mayB l = true) (hv : vld a b = true) :
    Calls Try.prog 56 #[.slice A n c, .agg #[.int .i64 a, .int .i64 b], .bool wo] w fun e w' => ∃ R m d, e = .returned (.slice R m d) ∧ ∃ r, Sq w' w.heap.size R m d r ∧ chain (-1) r = true ∧ (∀ n, inL r n ↔ cond wo l (a, b) n) ∧ Below w.heap.size w w' := by
  have hl := hs.rd.len
  have hn : n ≤ 1000 := by have := (mayB_parts hm).1; omega
  have s0 := Boxed2.new w 52 (.int .i64 a) (.int .i64 b)
  have hb0 : Below w.heap.size w (w.alloc (.cells #[.int .i64 a, .int .i64 b] 52)) := (Below.refl _ w).alloc (Nat.le_refl _) _
  have hs0 := hs.alloc (.cells #[.int .i64 a, .int .i64 b] 52)
  obtain ⟨w0, hw0⟩ : ∃ w0, w.alloc (.cells #[.int .i64 a, .int .i64 b] 52) = w0 := ⟨_, rfl⟩
  rw [hw0] at s0 hb0 hs0
  have hb0b := hb0
  have hb0s := hb0.size
  have hs0p := s0.fst
  have hs0q := s0.snd
  have hnil := hs.nil
  have w01 : Below w0.heap.size w0 w0.drew := (Below.refl _ _).drew
  have w02 : Below w0.heap.size w0 (w0.alloc (.cells #[.int .i64 a, .int .i64 b] 52)).drew := ((Below.refl _ _).alloc (Nat.le_refl _) _).drew
  have rs1 := hs0.rd.keep w01
  have rs2 := hs0.rd.keep w02
  have one2 := (ss_one w0 ha hbw 52).rd
  go_enter Try.func56, Try.ntmps56
  go_upto_region 1 with fail
  go_cut [7] (fun s7 wx => HasEnds wx s7 (l ++ [(a, b)]) ∧ Below w0.heap.size w0 wx)
  case first =>
    refine wp_region_any (by kernel_rfl) ?_
    change wpAny _ _ _ _ 7 #[false, false, false, false, false, false, false] _ (World.drew _)
    refine wpAny_take (i := 0) (v := ?_) rfl (by kernel_rfl) (by kernel_rfl) (by kernel_rfl) (fun _ _ _ h => h) (Or.inl ⟨by kernel_rfl, ?_⟩) ?_
    rotate_left
    · (intro w; go_simp; try with_reducible rfl)
    try simp only [Act.put, List.setIfInBounds_toArray, List.set_cons_zero, List.set_cons_succ, List.getElem_toArray, List.getElem_cons_zero, List.getElem_cons_succ]
    refine wpAny_ready (rs := [1, 2]) (by kernel_rfl) (by simp) ?_
    refine AllReady.cons rfl (fun K hK => ?_) (AllReady.cons rfl (fun K hK => ?_) AllReady.nil)
    · refine step_apps w0.drew rfl (.const (.slice none 0 0)) (.tmp 14) 23 rfl w0.heap.size 52 Try.underlying23 info_sp _ 0 [] rfl rfl ⟨World.ownsRow_nil _ _ _ _, fun _ h => (by simp at h)⟩ hnil rs1 (by omega) w01.size ?_
      intro v1 w1 q1 r1
      simp only [Nat.zero_add, List.nil_append] at q1 ⊢
      have b1 : Below w0.heap.size w0 w1 := w01.grown r1 w01.size (fun k hk => by cases hk)
      have kb1 := s0.below b1 s0.lt
      have kp1 := kb1.fst
      have kq1 := kb1.snd
      refine hK _ _ ?_
      clear hK K
      try simp only [Act.put, List.setIfInBounds_toArray, List.set_cons_zero, List.set_cons_succ, List.getElem_toArray, List.getElem_cons_zero, List.getElem_cons_succ]
      refine wpAny_ready (rs := [2]) (by kernel_rfl) (by simp) ?_
      refine AllReady.cons rfl (fun K hK => ?_) AllReady.nil
      go_simp
      refine hK _ _ ?_
      clear hK K
      try simp only [Act.put, List.setIfInBounds_toArray, List.set_cons_zero, List.set_cons_succ, List.getElem_toArray, List.getElem_cons_zero, List.getElem_cons_succ]
      refine wpAny_ready (rs := [3]) (by kernel_rfl) (by simp) ?_
      refine AllReady.cons rfl (fun K hK => ?_) AllReady.nil
      go_simp
      refine hK _ _ ?_
      clear hK K
      try simp only [Act.put, List.setIfInBounds_toArray, List.set_cons_zero, List.set_cons_succ, List.getElem_toArray, List.getElem_cons_zero, List.getElem_cons_succ]
      refine wpAny_ready (rs := [4]) (by kernel_rfl) (by simp) ?_
      refine AllReady.cons rfl (fun K hK => ?_) AllReady.nil
      refine step_apps (w1.alloc (.cells #[.int .i64 a, .int .i64 b] 52)) rfl (.tmp 15) (.tmp 17) 23 rfl w0.heap.size 52 Try.underlying23 info_sp _ _ _ rfl rfl ⟨q1.row.alloc _, q1.wide⟩ (fun h => (by cases h)) (ss_one w1 ha hbw 52).rd (by omega) (b1.alloc b1.size _).size ?_
      intro v2 w2 q2 r2
      have b2 : Below w0.heap.size w0 w2 := (b1.alloc b1.size _).grown r2 (b1.alloc b1.size _).size (fun k hk => (q1.row.lt k hk).1)
      obtain ⟨R2, c2, rfl, s2⟩ := q2.ss
      refine hK _ _ ?_
      clear hK K
      try simp only [Act.put, List.setIfInBounds_toArray, List.set_cons_zero, List.set_cons_succ, List.getElem_toArray, List.getElem_cons_zero, List.getElem_cons_succ]
      refine wpAny_ready (rs := [5]) (by kernel_rfl) (by simp) ?_
      refine AllReady.cons rfl (fun K hK => ?_) AllReady.nil
      go_simp
      refine (rends_any _ _ _ _ _ s2 (by omega)).mono ?_
      rintro e3 w3 ⟨v3, rfl, he3, hb3⟩
      have b3 := b2.trans (hb3.mono b2.size)
      refine hK _ _ ?_
      clear hK K
      try simp only [Act.put, List.setIfInBounds_toArray, List.set_cons_zero, List.set_cons_succ, List.getElem_toArray, List.getElem_cons_zero, List.getElem_cons_succ]
      refine wpAny_ready (rs := [6]) (by kernel_rfl) (by simp) ?_
      refine AllReady.cons rfl (fun K hK => ?_) AllReady.nil
      go_simp
      refine hK _ _ ?_
      clear hK K
      try simp only [Act.put, List.setIfInBounds_toArray, List.set_cons_zero, List.set_cons_succ, List.getElem_toArray, List.getElem_cons_zero, List.getElem_cons_succ]
      refine wpAny_done (by kernel_rfl) ?_ _
      go_wp2_with fail
      go_meet
      exact ⟨he3, b3⟩
    · go_simp
      refine hK _ _ ?_
      clear hK K
      try simp only [Act.put, List.setIfInBounds_toArray, List.set_cons_zero, List.set_cons_succ, List.getElem_toArray, List.getElem_cons_zero, List.getElem_cons_succ]
      refine wpAny_ready (rs := [1, 3]) (by kernel_rfl) (by simp) ?_
      refine AllReady.cons rfl (fun K hK => ?_) (AllReady.cons rfl (fun K hK => ?_) AllReady.nil)
      · refine step_apps w0.drew rfl (.const (.slice none 0 0)) (.tmp 14) 23 rfl w0.heap.size 52 Try.underlying23 info_sp _ 0 [] rfl rfl ⟨World.ownsRow_nil _ _ _ _, fun _ h => (by simp at h)⟩ hnil rs1 (by omega) w01.size ?_
        intro v1 w1 q1 r1
        simp only [Nat.zero_add, List.nil_append] at q1 ⊢
        have b1 : Below w0.heap.size w0 w1 := w01.grown r1 w01.size (fun k hk => by cases hk)
        have kb1 := s0.below b1 s0.lt
        have kp1 := kb1.fst
        have kq1 := kb1.snd
        refine hK _ _ ?_
        clear hK K
        try simp only [Act.put, List.setIfInBounds_toArray, List.set_cons_zero, List.set_cons_succ, List.getElem_toArray, List.getElem_cons_zero, List.getElem_cons_succ]
        refine wpAny_ready (rs := [3]) (by kernel_rfl) (by simp) ?_
        refine AllReady.cons rfl (fun K hK => ?_) AllReady.nil
        go_simp
        refine hK _ _ ?_
        clear hK K
        try simp only [Act.put, List.setIfInBounds_toArray, List.set_cons_zero, List.set_cons_succ, List.getElem_toArray, List.getElem_cons_zero, List.getElem_cons_succ]
        refine wpAny_ready (rs := [4]) (by kernel_rfl) (by simp) ?_
        refine AllReady.cons rfl (fun K hK => ?_) AllReady.nil
        refine step_apps (w1.alloc (.cells #[.int .i64 a, .int .i64 b] 52)) rfl (.tmp 15) (.tmp 17) 23 rfl w0.heap.size 52 Try.underlying23 info_sp _ _ _ rfl rfl ⟨q1.row.alloc _, q1.wide⟩ (fun h => (by cases h)) (ss_one w1 ha hbw 52).rd (by omega) (b1.alloc b1.size _).size ?_
        intro v2 w2 q2 r2
        have b2 : Below w0.heap.size w0 w2 := (b1.alloc b1.size _).grown r2 (b1.alloc b1.size _).size (fun k hk => (q1.row.lt k hk).1)
        obtain ⟨R2, c2, rfl, s2⟩ := q2.ss
        refine hK _ _ ?_
        clear hK K
        try simp only [Act.put, List.setIfInBounds_toArray, List.set_cons_zero, List.set_cons_succ, List.getElem_toArray, List.getElem_cons_zero, List.getElem_cons_succ]
        refine wpAny_ready (rs := [5]) (by kernel_rfl) (by simp) ?_
        refine AllReady.cons rfl (fun K hK => ?_) AllReady.nil
        go_simp
        refine (rends_any _ _ _ _ _ s2 (by omega)).mono ?_
        rintro e3 w3 ⟨v3, rfl, he3, hb3⟩
        have b3 := b2.trans (hb3.mono b2.size)
        refine hK _ _ ?_
        clear hK K
        try simp only [Act.put, List.setIfInBounds_toArray, List.set_cons_zero, List.set_cons_succ, List.getElem_toArray, List.getElem_cons_zero, List.getElem_cons_succ]
        refine wpAny_ready (rs := [6]) (by kernel_rfl) (by simp) ?_
        refine AllReady.cons rfl (fun K hK => ?_) AllReady.nil
        go_simp
        refine hK _ _ ?_
        clear hK K
        try simp only [Act.put, List.setIfInBounds_toArray, List.set_cons_zero, List.set_cons_succ, List.getElem_toArray, List.getElem_cons_zero, List.getElem_cons_succ]
        refine wpAny_done (by kernel_rfl) ?_ _
        go_wp2_with fail
        go_meet
        exact ⟨he3, b3⟩
      · go_simp
        refine hK _ _ ?_
        clear hK K
        try simp only [Act.put, List.setIfInBounds_toArray, List.set_cons_zero, List.set_cons_succ, List.getElem_toArray, List.getElem_cons_zero, List.getElem_cons_succ]
        refine wpAny_ready (rs := [1]) (by kernel_rfl) (by simp) ?_
        refine AllReady.cons rfl (fun K hK => ?_) AllReady.nil
        refine step_apps (w0.alloc (.cells #[.int .i64 a, .int .i64 b] 52)).drew rfl (.const (.slice none 0 0)) (.tmp 14) 23 rfl w0.heap.size 52 Try.underlying23 info_sp _ 0 [] rfl rfl ⟨World.ownsRow_nil _ _ _ _, fun _ h => (by simp at h)⟩ hnil rs2 (by omega) w02.size ?_
        intro v1 w1 q1 r1
        simp only [Nat.zero_add, List.nil_append] at q1 ⊢
        have b1 : Below w0.heap.size w0 w1 := w02.grown r1 w02.size (fun k hk => by cases hk)
        have kb1 := s0.below b1 s0.lt
        have kp1 := kb1.fst
        have kq1 := kb1.snd
        have src1 := one2.keep ((Below.refl _ _).drew.grown r1 (Nat.le_refl _) (fun k hk => by cases hk))
        refine hK _ _ ?_
        clear hK K
        try simp only [Act.put, List.setIfInBounds_toArray, List.set_cons_zero, List.set_cons_succ, List.getElem_toArray, List.getElem_cons_zero, List.getElem_cons_succ]
        refine wpAny_ready (rs := [4]) (by kernel_rfl) (by simp) ?_
        refine AllReady.cons rfl (fun K hK => ?_) AllReady.nil
        refine step_apps w1 rfl (.tmp 15) (.tmp 17) 23 rfl w0.heap.size 52 Try.underlying23 info_sp _ _ _ rfl rfl q1 (fun h => (by cases h)) src1 (by omega) b1.size ?_
        intro v2 w2 q2 r2
        have b2 : Below w0.heap.size w0 w2 := b1.grown r2 b1.size (fun k hk => (q1.row.lt k hk).1)
        obtain ⟨R2, c2, rfl, s2⟩ := q2.ss
        refine hK _ _ ?_
        clear hK K
        try simp only [Act.put, List.setIfInBounds_toArray, List.set_cons_zero, List.set_cons_succ, List.getElem_toArray, List.getElem_cons_zero, List.getElem_cons_succ]
        refine wpAny_ready (rs := [5]) (by kernel_rfl) (by simp) ?_
        refine AllReady.cons rfl (fun K hK => ?_) AllReady.nil
        go_simp
        refine (rends_any _ _ _ _ _ s2 (by omega)).mono ?_
        rintro e3 w3 ⟨v3, rfl, he3, hb3⟩
        have b3 := b2.trans (hb3.mono b2.size)
        refine hK _ _ ?_
        clear hK K
        try simp only [Act.put, List.setIfInBounds_toArray, List.set_cons_zero, List.set_cons_succ, List.getElem_toArray, List.getElem_cons_zero, List.getElem_cons_succ]
        refine wpAny_ready (rs := [6]) (by kernel_rfl) (by simp) ?_
        refine AllReady.cons rfl (fun K hK => ?_) AllReady.nil
        go_simp
        refine hK _ _ ?_
        clear hK K
        try simp only [Act.put, List.setIfInBounds_toArray, List.set_cons_zero, List.set_cons_succ, List.getElem_toArray, List.getElem_cons_zero, List.getElem_cons_succ]
        refine wpAny_done (by kernel_rfl) ?_ _
        go_wp2_with fail
        go_meet
        exact ⟨he3, b3⟩
  case rest =>
    obtain ⟨⟨R, m, d, e, rfl, hie⟩, b3⟩ := hcut
    have kb := s0.below b3 s0.lt
    have kp := kb.fst
    have kq := kb.snd
    have hmlen := hie.si.rd.len
    have hm2 := hie.len
    rw [List.length_append, List.length_singleton] at hm2
    have hva := vld_iff.1 hv
    have hbet : Between l (a, b) e := ⟨hie.rise, hie.mem, fun y hy => by
      obtain ⟨p, hp, h⟩ := (hie.mem y).1 hy
      rcases List.mem_append.1 hp with h1 | h1
      · have := ch_each (mayB_parts hm).2 p h1; omega
      · rw [List.mem_singleton] at h1; subst h1; simp only at h; omega⟩
    have hmb : m ≤ 2002 := by omega
    have hm0 : 0 < m := by
      rw [← hmlen]
      exact List.length_pos_of_mem ((hie.mem a).2 ⟨(a, b), by simp, .inl rfl⟩)
    have HE0 := hie.si.keep ((Below.refl _ wc).alloc (Nat.le_refl _) (.cells #[.int .i64 a, .int .i64 b] 52))
    have one0 := ss_one wc ha hbw 52
    have b4 : Below w0.heap.size w0 (wc.alloc (.cells #[.int .i64 a, .int .i64 b] 52)) := b3.alloc b3.size _
    have HA0 := hs0.keep b4
    obtain ⟨w1, hw1⟩ : ∃ w1, wc.alloc (.cells #[.int .i64 a, .int .i64 b] 52) = w1 := ⟨_, rfl⟩
    rw [hw1] at HE0 one0 b4 HA0
    have HE := Lib.hid HE0
    have HO := Lib.hid one0
    have HA := Lib.hid HA0
    have B4 := Lib.hid b4
    clear HE0 one0 HA0 b4 hie hs hs0 rs1 rs2 one2 hnil w01 w02 s0 hs0p hs0q kb hb0 b3
    go_wp2_with fail
    go_loopw [9, 10] (fun s i wr => ∃ (k : Nat) (r : List Sp), k + 1 ≤ m ∧ i = .int .i64 k ∧ Gots wr w1.heap.size 52 s r.length r ∧ Made l (a, b) wo e k r ∧ Below w1.heap.size w1 wr) (fun _ i _ => m - (intOf i).toNat)
    case atStart => exact ⟨0, [], by omega, rfl, ⟨World.ownsRow_nil _ _ _ _, fun _ h => (by simp at h)⟩, made_zero hbet (by omega), Below.refl _ _⟩
    case round =>
      obtain ⟨k, r, hk, rfl, hg, hmd, hb⟩ := hrel
      by_cases hlt : k + 1 < m
      · have hk0 : (k : Int) + 1 < (m : Int) := by omega
        have hk1 : (0 : Int) ≤ (k : Int) := by omega
        have hk2 : (k : Int) < (m : Int) := by omega
        have hk3 : (0 : Int) ≤ (k : Int) + 1 := by omega
        have hk4 : ((k : Int) + 1).toNat = k + 1 := by omega
        have hk5 : IntKind.i64.wrap ((k : Int) + 1) = (k : Int) + 1 := by rw [IntKind.wrap_i64]; omega
        obtain ⟨be, oe, rfl, hbe1, hce⟩ := HE.out.rd.at_ (by omega)
        have hbe : be < wr.heap.size := Nat.lt_of_lt_of_le hbe1 hb.size
        obtain ⟨u, hu1⟩ : ∃ u, it e k = u := ⟨_, rfl⟩
        obtain ⟨v, hv1⟩ : ∃ v, it e (k + 1) = v := ⟨_, rfl⟩
        have HZ1 := Lib.hid (hce k (by omega))
        have HZ2 := Lib.hid (hce (k + 1) (by omega))
        rw [hu1] at HZ1
        rw [hv1] at HZ2
        have z1 := (hb.cell (p := ⟨be, oe + k, none⟩) hbe1).trans HZ1.out
        have z2 := (hb.cell (p := ⟨be, oe + (k + 1), none⟩) hbe1).trans HZ2.out
        have HU : Hid (W64 u) := Lib.hid (by rw [← hu1]; exact it_wide HE.out.rd.wide k)
        have HV : Hid (W64 v) := Lib.hid (by rw [← hv1]; exact it_wide HE.out.rd.wide (k + 1))
        have hu0 : 0 ≤ u := by rw [← hu1]; exact (hbet.low _ (it_mem (by omega))).1
        have hin1 := rin_any A n c l u wr (HA.out.keep hb)
        have hin2 := rin_any _ _ _ _ u wr (HO.out.keep hb)
        have hx := inB_iff l u
        have hy := inB_iff [(a, b)] u
        rw [inL_cons] at hy
        have hyn : inB [(a, b)] u = true ↔ (a ≤ u ∧ u < b) := hy.trans ⟨fun h => h.elim id (fun h => absurd h (inL_nil _)), .inl⟩
        clear hce hy
        obtain ⟨x, hxx⟩ : ∃ x, inB l u = x := ⟨_, rfl⟩
        obtain ⟨y, hyy⟩ : ∃ y, inB [(a, b)] u = y := ⟨_, rfl⟩
        rw [hxx] at hin1 hx
        rw [hyy] at hin2 hyn
        have hcc : cond wo l (a, b) (it e k) ↔ (if wo = true then x = true ∧ ¬ y = true else x = true ∨ y = true) := by
          rw [hu1]; unfold cond; rw [hx, hyn]
        clear hx hyn hxx hyy
        cases wo with
        | true =>
          cases x with
          | true =>
            cases y with
            | true =>
              have hcond : ¬ cond _ l (a, b) (it e k) := fun h => by have := hcc.1 h; simp at this
              clear hcc
              go_wp2_with (first | (go_at_call_of 37 A; refine hin1.mono ?_; rintro e1 w2 ⟨rfl, rfl⟩) | (go_at_call 37; refine hin2.mono ?_; rintro e1 w2 ⟨rfl, rfl⟩))
              go_roundw
              case rel => exact ⟨k + 1, r, by omega, by go_num, hg, made_skip hbet hmd (by rw [hmlen]; exact hlt) hcond, hb⟩
              case measure => simp [intOf]; omega
            | false =>
              have hcond := hcc.2 (by simp)
              clear hcc
              have HG := Lib.hid hg; clear hg
              rcases List.eq_nil_or_concat r with rfl | ⟨r', ⟨p, q⟩, rfl⟩
              · obtain ⟨Ro, co, rfl, hso⟩ := HG.out.ss
                have hlast : lastOf (-1) ([] : List Sp) < u := by rw [lastOf_nil]; omega
                go_wp2_with (first | (go_at_call_of 37 A; refine hin1.mono ?_; rintro e1 w2 ⟨rfl, rfl⟩) | (go_at_call 37; refine hin2.mono ?_; rintro e1 w2 ⟨rfl, rfl⟩))
                go_quiet (fail)
                go_wp2
                go_region_held3 (fun w' => w'.cell? ⟨be, oe + k, none⟩ = some (.int .i64 u) ∧ w'.cell? ⟨be, oe + (k + 1), none⟩ = some (.int .i64 v))
                  (first | exact ⟨kp5, kq5⟩ | go_keep)
                  (first
                    | (refine step_apps _ (by rfl) (.tmp 88) (.tmp 99) 23 (by rfl) w1.heap.size 52 Try.underlying23 info_sp _ _ _ (by rfl) (by rfl) (l := [(u, v)]) ⟨(HG.out.row.alloc (.cells #[.int .i64 u, .int .i64 v] 52)), HG.out.wide⟩ (fun h => (by cases h)) ⟨rfl, wide_one HU.out HV.out, (ss_one wr HU.out HV.out 52).rd.at_⟩ (by first | omega | (simp; done) | (simp; omega)) ((below_drewN hb _).alloc hb.size (.cells #[.int .i64 u, .int .i64 v] 52)).size ?_; intro v5 w5 q5 r5; have b5 : Below w1.heap.size w1 w5 := ((below_drewN hb _).alloc hb.size (.cells #[.int .i64 u, .int .i64 v] 52)).grown r5 ((below_drewN hb _).alloc hb.size (.cells #[.int .i64 u, .int .i64 v] 52)).size (fun k hk => (HG.out.row.lt k hk).1); have kp5 := (b5.cell (p := ⟨be, oe + k, none⟩) hbe1).trans (HZ1.out); have kq5 := (b5.cell (p := ⟨be, oe + (k + 1), none⟩) hbe1).trans (HZ2.out)))
                all_goals go_wp2_with fail
                go_roundw
                case rel => exact ⟨k + 1, [] ++ [(u, v)], by omega, by go_num, by rw [List.length_append]; exact q5, made_push' hbet hmd (by rw [hmlen]; exact hlt) hcond hlast hu1 hv1, b5⟩
                case measure => simp [intOf]; omega
              · rw [List.concat_eq_append] at *
                have hlen : (r' ++ [(p, q)]).length = r'.length + 1 := by simp
                obtain ⟨j, hj⟩ : ∃ j, r'.length = j := ⟨_, rfl⟩
                have hgr := HG.out
                rw [hlen, hj] at hgr
                obtain ⟨g, co, rfl⟩ := ownsRow_succ hgr.row
                have hcells := vals_at (r' ++ [(p, q)]) j (by rw [hlen]; omega)
                have hspj : sp (r' ++ [(p, q)]) j = (p, q) := by rw [← hj]; unfold sp; simp
                rw [hspj] at hcells
                have y1 := (hgr.row.cellAt (j * 2) (by omega)).trans hcells.1
                have y2 := (hgr.row.cellAt (j * 2 + 1) (by omega)).trans hcells.2
                have y3 := hgr.row.frozenAt (j * 2 + 1)
                simp only at y1 y2
                have hjl := hmd.len
                rw [hlen, hj] at hjl
                have hs1 : IntKind.i64.wrap ((j : Int) + 1 - 1) = (j : Int) := by rw [IntKind.wrap_i64]; omega
                have hs2 : IntKind.i64.wrap (j : Int) = (j : Int) := by rw [IntKind.wrap_i64]; omega
                have hs3 : (0 : Int) < (j : Int) + 1 := by omega
                have hs4 : (0 : Int) ≤ (j : Int) := by omega
                have hs5 : (j : Int) < (j : Int) + 1 := by omega
                have HGR := Lib.hid hgr; clear hgr hcells hspj
                have HJ := Lib.hid hj; clear hj
                have HL := Lib.hid hlen; clear hlen
                by_cases hqu : q = u
                · have hd : decide (q = u) = true := decide_eq_true hqu
                  go_wp2_with (first | (go_at_call_of 37 A; refine hin1.mono ?_; rintro e1 w2 ⟨rfl, rfl⟩) | (go_at_call 37; refine hin2.mono ?_; rintro e1 w2 ⟨rfl, rfl⟩))
                  go_quiet (fail)
                  go_wp2
                  go_roundw
                  case rel =>
                    have hmd' := hmd
                    rw [hqu, ← hu1] at hmd'
                    have hmd2 := made_merge hbet hmd' (by rw [hmlen]; exact hlt) hcond
                    rw [hv1] at hmd2
                    have hgl := gots_last (w := wr.drewN nq) ⟨HGR.out.row, HGR.out.wide⟩ HJ.out HV.out
                    exact ⟨k + 1, r' ++ [(p, v)], by omega, by go_num, by rw [List.length_append, List.length_singleton, HJ.out]; exact hgl, hmd2, (below_drewN hb _).setCell (p := ⟨g, j * 2 + 1, none⟩) (HGR.out.row.lt g rfl).1 _⟩
                  case measure => simp [intOf]; omega
                · have hd : decide (q = u) = false := decide_eq_false hqu
                  have hlast : lastOf (-1) (r' ++ [(p, q)]) < u := by have h := hmd.last; rw [lastOf_snoc, hu1] at h; rw [lastOf_snoc]; simp only at h ⊢; omega
                  go_wp2_with (first | (go_at_call_of 37 A; refine hin1.mono ?_; rintro e1 w2 ⟨rfl, rfl⟩) | (go_at_call 37; refine hin2.mono ?_; rintro e1 w2 ⟨rfl, rfl⟩))
                  go_quiet (fail)
                  go_wp2
                  go_region_held3 (fun w' => w'.cell? ⟨be, oe + k, none⟩ = some (.int .i64 u) ∧ w'.cell? ⟨be, oe + (k + 1), none⟩ = some (.int .i64 v))
                    (first | exact ⟨kp5, kq5⟩ | go_keep)
                    (first
                      | (refine step_apps _ (by rfl) (.tmp 88) (.tmp 99) 23 (by rfl) w1.heap.size 52 Try.underlying23 info_sp _ _ _ (by rfl) (by rfl) (l := [(u, v)]) ⟨(HGR.out.row.alloc (.cells #[.int .i64 u, .int .i64 v] 52)), HGR.out.wide⟩ (fun h => (by cases h)) ⟨rfl, wide_one HU.out HV.out, (ss_one wr HU.out HV.out 52).rd.at_⟩ (by first | omega | (simp; done) | (simp; omega)) ((below_drewN hb _).alloc hb.size (.cells #[.int .i64 u, .int .i64 v] 52)).size ?_; intro v5 w5 q5 r5; have b5 : Below w1.heap.size w1 w5 := ((below_drewN hb _).alloc hb.size (.cells #[.int .i64 u, .int .i64 v] 52)).grown r5 ((below_drewN hb _).alloc hb.size (.cells #[.int .i64 u, .int .i64 v] 52)).size (fun k hk => (HGR.out.row.lt k hk).1); have kp5 := (b5.cell (p := ⟨be, oe + k, none⟩) hbe1).trans (HZ1.out); have kq5 := (b5.cell (p := ⟨be, oe + (k + 1), none⟩) hbe1).trans (HZ2.out)))
                  all_goals go_wp2_with fail
                  go_roundw
                  case rel => exact ⟨k + 1, (r' ++ [(p, q)]) ++ [(u, v)], by omega, by go_num, by rw [List.length_append, HL.out, HJ.out]; exact q5, made_push' hbet hmd (by rw [hmlen]; exact hlt) hcond hlast hu1 hv1, b5⟩
                  case measure => simp [intOf]; omega
          | false =>
            cases y with
            | true =>
              have hcond : ¬ cond _ l (a, b) (it e k) := fun h => by have := hcc.1 h; simp at this
              clear hcc
              go_wp2_with (first | (go_at_call_of 37 A; refine hin1.mono ?_; rintro e1 w2 ⟨rfl, rfl⟩) | (go_at_call 37; refine hin2.mono ?_; rintro e1 w2 ⟨rfl, rfl⟩))
              go_roundw
              case rel => exact ⟨k + 1, r, by omega, by go_num, hg, made_skip hbet hmd (by rw [hmlen]; exact hlt) hcond, hb⟩
              case measure => simp [intOf]; omega
            | false =>
              have hcond : ¬ cond _ l (a, b) (it e k) := fun h => by have := hcc.1 h; simp at this
              clear hcc
              go_wp2_with (first | (go_at_call_of 37 A; refine hin1.mono ?_; rintro e1 w2 ⟨rfl, rfl⟩) | (go_at_call 37; refine hin2.mono ?_; rintro e1 w2 ⟨rfl, rfl⟩))
              go_roundw
              case rel => exact ⟨k + 1, r, by omega, by go_num, hg, made_skip hbet hmd (by rw [hmlen]; exact hlt) hcond, hb⟩
              case measure => simp [intOf]; omega
        | false =>
          cases x with
          | true =>
            cases y with
            | true =>
              have hcond := hcc.2 (by simp)
              clear hcc
              have HG := Lib.hid hg; clear hg
              rcases List.eq_nil_or_concat r with rfl | ⟨r', ⟨p, q⟩, rfl⟩
              · obtain ⟨Ro, co, rfl, hso⟩ := HG.out.ss
                have hlast : lastOf (-1) ([] : List Sp) < u := by rw [lastOf_nil]; omega
                go_wp2_with (first | (go_at_call_of 37 A; refine hin1.mono ?_; rintro e1 w2 ⟨rfl, rfl⟩) | (go_at_call 37; refine hin2.mono ?_; rintro e1 w2 ⟨rfl, rfl⟩))
                go_quiet (fail)
                go_wp2
                go_region_held3 (fun w' => w'.cell? ⟨be, oe + k, none⟩ = some (.int .i64 u) ∧ w'.cell? ⟨be, oe + (k + 1), none⟩ = some (.int .i64 v))
                  (first | exact ⟨kp5, kq5⟩ | go_keep)
                  (first
                    | (refine step_apps _ (by rfl) (.tmp 88) (.tmp 99) 23 (by rfl) w1.heap.size 52 Try.underlying23 info_sp _ _ _ (by rfl) (by rfl) (l := [(u, v)]) ⟨(HG.out.row.alloc (.cells #[.int .i64 u, .int .i64 v] 52)), HG.out.wide⟩ (fun h => (by cases h)) ⟨rfl, wide_one HU.out HV.out, (ss_one wr HU.out HV.out 52).rd.at_⟩ (by first | omega | (simp; done) | (simp; omega)) ((below_drewN hb _).alloc hb.size (.cells #[.int .i64 u, .int .i64 v] 52)).size ?_; intro v5 w5 q5 r5; have b5 : Below w1.heap.size w1 w5 := ((below_drewN hb _).alloc hb.size (.cells #[.int .i64 u, .int .i64 v] 52)).grown r5 ((below_drewN hb _).alloc hb.size (.cells #[.int .i64 u, .int .i64 v] 52)).size (fun k hk => (HG.out.row.lt k hk).1); have kp5 := (b5.cell (p := ⟨be, oe + k, none⟩) hbe1).trans (HZ1.out); have kq5 := (b5.cell (p := ⟨be, oe + (k + 1), none⟩) hbe1).trans (HZ2.out)))
                all_goals go_wp2_with fail
                go_roundw
                case rel => exact ⟨k + 1, [] ++ [(u, v)], by omega, by go_num, by rw [List.length_append]; exact q5, made_push' hbet hmd (by rw [hmlen]; exact hlt) hcond hlast hu1 hv1, b5⟩
                case measure => simp [intOf]; omega
              · rw [List.concat_eq_append] at *
                have hlen : (r' ++ [(p, q)]).length = r'.length + 1 := by simp
                obtain ⟨j, hj⟩ : ∃ j, r'.length = j := ⟨_, rfl⟩
                have hgr := HG.out
                rw [hlen, hj] at hgr
                obtain ⟨g, co, rfl⟩ := ownsRow_succ hgr.row
                have hcells := vals_at (r' ++ [(p, q)]) j (by rw [hlen]; omega)
                have hspj : sp (r' ++ [(p, q)]) j = (p, q) := by rw [← hj]; unfold sp; simp
                rw [hspj] at hcells
                have y1 := (hgr.row.cellAt (j * 2) (by omega)).trans hcells.1
                have y2 := (hgr.row.cellAt (j * 2 + 1) (by omega)).trans hcells.2
                have y3 := hgr.row.frozenAt (j * 2 + 1)
                simp only at y1 y2
                have hjl := hmd.len
                rw [hlen, hj] at hjl
                have hs1 : IntKind.i64.wrap ((j : Int) + 1 - 1) = (j : Int) := by rw [IntKind.wrap_i64]; omega
                have hs2 : IntKind.i64.wrap (j : Int) = (j : Int) := by rw [IntKind.wrap_i64]; omega
                have hs3 : (0 : Int) < (j : Int) + 1 := by omega
                have hs4 : (0 : Int) ≤ (j : Int) := by omega
                have hs5 : (j : Int) < (j : Int) + 1 := by omega
                have HGR := Lib.hid hgr; clear hgr hcells hspj
                have HJ := Lib.hid hj; clear hj
                have HL := Lib.hid hlen; clear hlen
                by_cases hqu : q = u
                · have hd : decide (q = u) = true := decide_eq_true hqu
                  go_wp2_with (first | (go_at_call_of 37 A; refine hin1.mono ?_; rintro e1 w2 ⟨rfl, rfl⟩) | (go_at_call 37; refine hin2.mono ?_; rintro e1 w2 ⟨rfl, rfl⟩))
                  go_quiet (fail)
                  go_wp2
                  go_roundw
                  case rel =>
                    have hmd' := hmd
                    rw [hqu, ← hu1] at hmd'
                    have hmd2 := made_merge hbet hmd' (by rw [hmlen]; exact hlt) hcond
                    rw [hv1] at hmd2
                    have hgl := gots_last (w := wr.drewN nq) ⟨HGR.out.row, HGR.out.wide⟩ HJ.out HV.out
                    exact ⟨k + 1, r' ++ [(p, v)], by omega, by go_num, by rw [List.length_append, List.length_singleton, HJ.out]; exact hgl, hmd2, (below_drewN hb _).setCell (p := ⟨g, j * 2 + 1, none⟩) (HGR.out.row.lt g rfl).1 _⟩
                  case measure => simp [intOf]; omega
                · have hd : decide (q = u) = false := decide_eq_false hqu
                  have hlast : lastOf (-1) (r' ++ [(p, q)]) < u := by have h := hmd.last; rw [lastOf_snoc, hu1] at h; rw [lastOf_snoc]; simp only at h ⊢; omega
                  go_wp2_with (first | (go_at_call_of 37 A; refine hin1.mono ?_; rintro e1 w2 ⟨rfl, rfl⟩) | (go_at_call 37; refine hin2.mono ?_; rintro e1 w2 ⟨rfl, rfl⟩))
                  go_quiet (fail)
                  go_wp2
                  go_region_held3 (fun w' => w'.cell? ⟨be, oe + k, none⟩ = some (.int .i64 u) ∧ w'.cell? ⟨be, oe + (k + 1), none⟩ = some (.int .i64 v))
                    (first | exact ⟨kp5, kq5⟩ | go_keep)
                    (first
                      | (refine step_apps _ (by rfl) (.tmp 88) (.tmp 99) 23 (by rfl) w1.heap.size 52 Try.underlying23 info_sp _ _ _ (by rfl) (by rfl) (l := [(u, v)]) ⟨(HGR.out.row.alloc (.cells #[.int .i64 u, .int .i64 v] 52)), HGR.out.wide⟩ (fun h => (by cases h)) ⟨rfl, wide_one HU.out HV.out, (ss_one wr HU.out HV.out 52).rd.at_⟩ (by first | omega | (simp; done) | (simp; omega)) ((below_drewN hb _).alloc hb.size (.cells #[.int .i64 u, .int .i64 v] 52)).size ?_; intro v5 w5 q5 r5; have b5 : Below w1.heap.size w1 w5 := ((below_drewN hb _).alloc hb.size (.cells #[.int .i64 u, .int .i64 v] 52)).grown r5 ((below_drewN hb _).alloc hb.size (.cells #[.int .i64 u, .int .i64 v] 52)).size (fun k hk => (HGR.out.row.lt k hk).1); have kp5 := (b5.cell (p := ⟨be, oe + k, none⟩) hbe1).trans (HZ1.out); have kq5 := (b5.cell (p := ⟨be, oe + (k + 1), none⟩) hbe1).trans (HZ2.out)))
                  all_goals go_wp2_with fail
                  go_roundw
                  case rel => exact ⟨k + 1, (r' ++ [(p, q)]) ++ [(u, v)], by omega, by go_num, by rw [List.length_append, HL.out, HJ.out]; exact q5, made_push' hbet hmd (by rw [hmlen]; exact hlt) hcond hlast hu1 hv1, b5⟩
                  case measure => simp [intOf]; omega
            | false =>
              have hcond := hcc.2 (by simp)
              clear hcc
              have HG := Lib.hid hg; clear hg
              rcases List.eq_nil_or_concat r with rfl | ⟨r', ⟨p, q⟩, rfl⟩
              · obtain ⟨Ro, co, rfl, hso⟩ := HG.out.ss
                have hlast : lastOf (-1) ([] : List Sp) < u := by rw [lastOf_nil]; omega
                go_wp2_with (first | (go_at_call_of 37 A; refine hin1.mono ?_; rintro e1 w2 ⟨rfl, rfl⟩) | (go_at_call 37; refine hin2.mono ?_; rintro e1 w2 ⟨rfl, rfl⟩))
                go_quiet (fail)
                go_wp2
                go_region_held3 (fun w' => w'.cell? ⟨be, oe + k, none⟩ = some (.int .i64 u) ∧ w'.cell? ⟨be, oe + (k + 1), none⟩ = some (.int .i64 v))
                  (first | exact ⟨kp5, kq5⟩ | go_keep)
                  (first
                    | (refine step_apps _ (by rfl) (.tmp 88) (.tmp 99) 23 (by rfl) w1.heap.size 52 Try.underlying23 info_sp _ _ _ (by rfl) (by rfl) (l := [(u, v)]) ⟨(HG.out.row.alloc (.cells #[.int .i64 u, .int .i64 v] 52)), HG.out.wide⟩ (fun h => (by cases h)) ⟨rfl, wide_one HU.out HV.out, (ss_one wr HU.out HV.out 52).rd.at_⟩ (by first | omega | (simp; done) | (simp; omega)) ((below_drewN hb _).alloc hb.size (.cells #[.int .i64 u, .int .i64 v] 52)).size ?_; intro v5 w5 q5 r5; have b5 : Below w1.heap.size w1 w5 := ((below_drewN hb _).alloc hb.size (.cells #[.int .i64 u, .int .i64 v] 52)).grown r5 ((below_drewN hb _).alloc hb.size (.cells #[.int .i64 u, .int .i64 v] 52)).size (fun k hk => (HG.out.row.lt k hk).1); have kp5 := (b5.cell (p := ⟨be, oe + k, none⟩) hbe1).trans (HZ1.out); have kq5 := (b5.cell (p := ⟨be, oe + (k + 1), none⟩) hbe1).trans (HZ2.out)))
                all_goals go_wp2_with fail
                go_roundw
                case rel => exact ⟨k + 1, [] ++ [(u, v)], by omega, by go_num, by rw [List.length_append]; exact q5, made_push' hbet hmd (by rw [hmlen]; exact hlt) hcond hlast hu1 hv1, b5⟩
                case measure => simp [intOf]; omega
              · rw [List.concat_eq_append] at *
                have hlen : (r' ++ [(p, q)]).length = r'.length + 1 := by simp
                obtain ⟨j, hj⟩ : ∃ j, r'.length = j := ⟨_, rfl⟩
                have hgr := HG.out
                rw [hlen, hj] at hgr
                obtain ⟨g, co, rfl⟩ := ownsRow_succ hgr.row
                have hcells := vals_at (r' ++ [(p, q)]) j (by rw [hlen]; omega)
                have hspj : sp (r' ++ [(p, q)]) j = (p, q) := by rw [← hj]; unfold sp; simp
                rw [hspj] at hcells
                have y1 := (hgr.row.cellAt (j * 2) (by omega)).trans hcells.1
                have y2 := (hgr.row.cellAt (j * 2 + 1) (by omega)).trans hcells.2
                have y3 := hgr.row.frozenAt (j * 2 + 1)
                simp only at y1 y2
                have hjl := hmd.len
                rw [hlen, hj] at hjl
                have hs1 : IntKind.i64.wrap ((j : Int) + 1 - 1) = (j : Int) := by rw [IntKind.wrap_i64]; omega
                have hs2 : IntKind.i64.wrap (j : Int) = (j : Int) := by rw [IntKind.wrap_i64]; omega
                have hs3 : (0 : Int) < (j : Int) + 1 := by omega
                have hs4 : (0 : Int) ≤ (j : Int) := by omega
                have hs5 : (j : Int) < (j : Int) + 1 := by omega
                have HGR := Lib.hid hgr; clear hgr hcells hspj
                have HJ := Lib.hid hj; clear hj
                have HL := Lib.hid hlen; clear hlen
                by_cases hqu : q = u
                · have hd : decide (q = u) = true := decide_eq_true hqu
                  go_wp2_with (first | (go_at_call_of 37 A; refine hin1.mono ?_; rintro e1 w2 ⟨rfl, rfl⟩) | (go_at_call 37; refine hin2.mono ?_; rintro e1 w2 ⟨rfl, rfl⟩))
                  go_quiet (fail)
                  go_wp2
                  go_roundw
                  case rel =>
                    have hmd' := hmd
                    rw [hqu, ← hu1] at hmd'
                    have hmd2 := made_merge hbet hmd' (by rw [hmlen]; exact hlt) hcond
                    rw [hv1] at hmd2
                    have hgl := gots_last (w := wr.drewN nq) ⟨HGR.out.row, HGR.out.wide⟩ HJ.out HV.out
                    exact ⟨k + 1, r' ++ [(p, v)], by omega, by go_num, by rw [List.length_append, List.length_singleton, HJ.out]; exact hgl, hmd2, (below_drewN hb _).setCell (p := ⟨g, j * 2 + 1, none⟩) (HGR.out.row.lt g rfl).1 _⟩
                  case measure => simp [intOf]; omega
                · have hd : decide (q = u) = false := decide_eq_false hqu
                  have hlast : lastOf (-1) (r' ++ [(p, q)]) < u := by have h := hmd.last; rw [lastOf_snoc, hu1] at h; rw [lastOf_snoc]; simp only at h ⊢; omega
                  go_wp2_with (first | (go_at_call_of 37 A; refine hin1.mono ?_; rintro e1 w2 ⟨rfl, rfl⟩) | (go_at_call 37; refine hin2.mono ?_; rintro e1 w2 ⟨rfl, rfl⟩))
                  go_quiet (fail)
                  go_wp2
                  go_region_held3 (fun w' => w'.cell? ⟨be, oe + k, none⟩ = some (.int .i64 u) ∧ w'.cell? ⟨be, oe + (k + 1), none⟩ = some (.int .i64 v))
                    (first | exact ⟨kp5, kq5⟩ | go_keep)
                    (first
                      | (refine step_apps _ (by rfl) (.tmp 88) (.tmp 99) 23 (by rfl) w1.heap.size 52 Try.underlying23 info_sp _ _ _ (by rfl) (by rfl) (l := [(u, v)]) ⟨(HGR.out.row.alloc (.cells #[.int .i64 u, .int .i64 v] 52)), HGR.out.wide⟩ (fun h => (by cases h)) ⟨rfl, wide_one HU.out HV.out, (ss_one wr HU.out HV.out 52).rd.at_⟩ (by first | omega | (simp; done) | (simp; omega)) ((below_drewN hb _).alloc hb.size (.cells #[.int .i64 u, .int .i64 v] 52)).size ?_; intro v5 w5 q5 r5; have b5 : Below w1.heap.size w1 w5 := ((below_drewN hb _).alloc hb.size (.cells #[.int .i64 u, .int .i64 v] 52)).grown r5 ((below_drewN hb _).alloc hb.size (.cells #[.int .i64 u, .int .i64 v] 52)).size (fun k hk => (HGR.out.row.lt k hk).1); have kp5 := (b5.cell (p := ⟨be, oe + k, none⟩) hbe1).trans (HZ1.out); have kq5 := (b5.cell (p := ⟨be, oe + (k + 1), none⟩) hbe1).trans (HZ2.out)))
                  all_goals go_wp2_with fail
                  go_roundw
                  case rel => exact ⟨k + 1, (r' ++ [(p, q)]) ++ [(u, v)], by omega, by go_num, by rw [List.length_append, HL.out, HJ.out]; exact q5, made_push' hbet hmd (by rw [hmlen]; exact hlt) hcond hlast hu1 hv1, b5⟩
                  case measure => simp [intOf]; omega
          | false =>
            cases y with
            | true =>
              have hcond := hcc.2 (by simp)
              clear hcc
              have HG := Lib.hid hg; clear hg
              rcases List.eq_nil_or_concat r with rfl | ⟨r', ⟨p, q⟩, rfl⟩
              · obtain ⟨Ro, co, rfl, hso⟩ := HG.out.ss
                have hlast : lastOf (-1) ([] : List Sp) < u := by rw [lastOf_nil]; omega
                go_wp2_with (first | (go_at_call_of 37 A; refine hin1.mono ?_; rintro e1 w2 ⟨rfl, rfl⟩) | (go_at_call 37; refine hin2.mono ?_; rintro e1 w2 ⟨rfl, rfl⟩))
                go_quiet (fail)
                go_wp2
                go_region_held3 (fun w' => w'.cell? ⟨be, oe + k, none⟩ = some (.int .i64 u) ∧ w'.cell? ⟨be, oe + (k + 1), none⟩ = some (.int .i64 v))
                  (first | exact ⟨kp5, kq5⟩ | go_keep)
                  (first
                    | (refine step_apps _ (by rfl) (.tmp 88) (.tmp 99) 23 (by rfl) w1.heap.size 52 Try.underlying23 info_sp _ _ _ (by rfl) (by rfl) (l := [(u, v)]) ⟨(HG.out.row.alloc (.cells #[.int .i64 u, .int .i64 v] 52)), HG.out.wide⟩ (fun h => (by cases h)) ⟨rfl, wide_one HU.out HV.out, (ss_one wr HU.out HV.out 52).rd.at_⟩ (by first | omega | (simp; done) | (simp; omega)) ((below_drewN hb _).alloc hb.size (.cells #[.int .i64 u, .int .i64 v] 52)).size ?_; intro v5 w5 q5 r5; have b5 : Below w1.heap.size w1 w5 := ((below_drewN hb _).alloc hb.size (.cells #[.int .i64 u, .int .i64 v] 52)).grown r5 ((below_drewN hb _).alloc hb.size (.cells #[.int .i64 u, .int .i64 v] 52)).size (fun k hk => (HG.out.row.lt k hk).1); have kp5 := (b5.cell (p := ⟨be, oe + k, none⟩) hbe1).trans (HZ1.out); have kq5 := (b5.cell (p := ⟨be, oe + (k + 1), none⟩) hbe1).trans (HZ2.out)))
                all_goals go_wp2_with fail
                go_roundw
                case rel => exact ⟨k + 1, [] ++ [(u, v)], by omega, by go_num, by rw [List.length_append]; exact q5, made_push' hbet hmd (by rw [hmlen]; exact hlt) hcond hlast hu1 hv1, b5⟩
                case measure => simp [intOf]; omega
              · rw [List.concat_eq_append] at *
                have hlen : (r' ++ [(p, q)]).length = r'.length + 1 := by simp
                obtain ⟨j, hj⟩ : ∃ j, r'.length = j := ⟨_, rfl⟩
                have hgr := HG.out
                rw [hlen, hj] at hgr
                obtain ⟨g, co, rfl⟩ := ownsRow_succ hgr.row
                have hcells := vals_at (r' ++ [(p, q)]) j (by rw [hlen]; omega)
                have hspj : sp (r' ++ [(p, q)]) j = (p, q) := by rw [← hj]; unfold sp; simp
                rw [hspj] at hcells
                have y1 := (hgr.row.cellAt (j * 2) (by omega)).trans hcells.1
                have y2 := (hgr.row.cellAt (j * 2 + 1) (by omega)).trans hcells.2
                have y3 := hgr.row.frozenAt (j * 2 + 1)
                simp only at y1 y2
                have hjl := hmd.len
                rw [hlen, hj] at hjl
                have hs1 : IntKind.i64.wrap ((j : Int) + 1 - 1) = (j : Int) := by rw [IntKind.wrap_i64]; omega
                have hs2 : IntKind.i64.wrap (j : Int) = (j : Int) := by rw [IntKind.wrap_i64]; omega
                have hs3 : (0 : Int) < (j : Int) + 1 := by omega
                have hs4 : (0 : Int) ≤ (j : Int) := by omega
                have hs5 : (j : Int) < (j : Int) + 1 := by omega
                have HGR := Lib.hid hgr; clear hgr hcells hspj
                have HJ := Lib.hid hj; clear hj
                have HL := Lib.hid hlen; clear hlen
                by_cases hqu : q = u
                · have hd : decide (q = u) = true := decide_eq_true hqu
                  go_wp2_with (first | (go_at_call_of 37 A; refine hin1.mono ?_; rintro e1 w2 ⟨rfl, rfl⟩) | (go_at_call 37; refine hin2.mono ?_; rintro e1 w2 ⟨rfl, rfl⟩))
                  go_quiet (fail)
                  go_wp2
                  go_roundw
                  case rel =>
                    have hmd' := hmd
                    rw [hqu, ← hu1] at hmd'
                    have hmd2 := made_merge hbet hmd' (by rw [hmlen]; exact hlt) hcond
                    rw [hv1] at hmd2
                    have hgl := gots_last (w := wr.drewN nq) ⟨HGR.out.row, HGR.out.wide⟩ HJ.out HV.out
                    exact ⟨k + 1, r' ++ [(p, v)], by omega, by go_num, by rw [List.length_append, List.length_singleton, HJ.out]; exact hgl, hmd2, (below_drewN hb _).setCell (p := ⟨g, j * 2 + 1, none⟩) (HGR.out.row.lt g rfl).1 _⟩
                  case measure => simp [intOf]; omega
                · have hd : decide (q = u) = false := decide_eq_false hqu
                  have hlast : lastOf (-1) (r' ++ [(p, q)]) < u := by have h := hmd.last; rw [lastOf_snoc, hu1] at h; rw [lastOf_snoc]; simp only at h ⊢; omega
                  go_wp2_with (first | (go_at_call_of 37 A; refine hin1.mono ?_; rintro e1 w2 ⟨rfl, rfl⟩) | (go_at_call 37; refine hin2.mono ?_; rintro e1 w2 ⟨rfl, rfl⟩))
                  go_quiet (fail)
                  go_wp2
                  go_region_held3 (fun w' => w'.cell? ⟨be, oe + k, none⟩ = some (.int .i64 u) ∧ w'.cell? ⟨be, oe + (k + 1), none⟩ = some (.int .i64 v))
                    (first | exact ⟨kp5, kq5⟩ | go_keep)
                    (first
                      | (refine step_apps _ (by rfl) (.tmp 88) (.tmp 99) 23 (by rfl) w1.heap.size 52 Try.underlying23 info_sp _ _ _ (by rfl) (by rfl) (l := [(u, v)]) ⟨(HGR.out.row.alloc (.cells #[.int .i64 u, .int .i64 v] 52)), HGR.out.wide⟩ (fun h => (by cases h)) ⟨rfl, wide_one HU.out HV.out, (ss_one wr HU.out HV.out 52).rd.at_⟩ (by first | omega | (simp; done) | (simp; omega)) ((below_drewN hb _).alloc hb.size (.cells #[.int .i64 u, .int .i64 v] 52)).size ?_; intro v5 w5 q5 r5; have b5 : Below w1.heap.size w1 w5 := ((below_drewN hb _).alloc hb.size (.cells #[.int .i64 u, .int .i64 v] 52)).grown r5 ((below_drewN hb _).alloc hb.size (.cells #[.int .i64 u, .int .i64 v] 52)).size (fun k hk => (HGR.out.row.lt k hk).1); have kp5 := (b5.cell (p := ⟨be, oe + k, none⟩) hbe1).trans (HZ1.out); have kq5 := (b5.cell (p := ⟨be, oe + (k + 1), none⟩) hbe1).trans (HZ2.out)))
                  all_goals go_wp2_with fail
                  go_roundw
                  case rel => exact ⟨k + 1, (r' ++ [(p, q)]) ++ [(u, v)], by omega, by go_num, by rw [List.length_append, HL.out, HJ.out]; exact q5, made_push' hbet hmd (by rw [hmlen]; exact hlt) hcond hlast hu1 hv1, b5⟩
                  case measure => simp [intOf]; omega
            | false =>
              have hcond : ¬ cond _ l (a, b) (it e k) := fun h => by have := hcc.1 h; simp at this
              clear hcc
              go_wp2_with (first | (go_at_call_of 37 A; refine hin1.mono ?_; rintro e1 w2 ⟨rfl, rfl⟩) | (go_at_call 37; refine hin2.mono ?_; rintro e1 w2 ⟨rfl, rfl⟩))
              go_roundw
              case rel => exact ⟨k + 1, r, by omega, by go_num, hg, made_skip hbet hmd (by rw [hmlen]; exact hlt) hcond, hb⟩
              case measure => simp [intOf]; omega
      · have hkm : k + 1 = m := by omega
        obtain ⟨R2, c2, rfl, hsl⟩ := hg.sq
        have hk0 : ¬ (k : Int) + 1 < (m : Int) := by omega
        have hk0' : (m : Int) ≤ (k : Int) + 1 := by omega
        go_wp2
        go_ret
        exact ⟨R2, _, c2, rfl, r, hsl.mono (Nat.le_trans hb0s B4.out.size), hmd.ch, made_end hbet hmd (by omega), hb0b.trans ((B4.out.trans (hb.mono B4.out.size)).mono hb0s)⟩
end Go.Proofs.Ytgiknfmagmfniaa
