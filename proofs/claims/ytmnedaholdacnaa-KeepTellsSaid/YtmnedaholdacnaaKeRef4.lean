/- The reference of package keep: Write as a contract of the call. -/
import Derived.Test.YtmnedaholdacnaaProg
import Derived.Test.YtmnedaholdacnaaKeRef3
import Derived.Test.YtmnedaholdacnaaTail
import Derived.WalkKit
import Derived.WalkSpells
import Derived.WalkSmall
import Derived.Lib.Hide
import Derived.Below
import Derived.Outline
namespace Go.Proofs.Ytmnedaholdacnaa
open Go.RowKit
set_option linter.unusedSimpArgs false

theorem Got.set_ne {w : World} {base : Nat} {R : Option Addr} {m d n : Nat} {l : List Int} (h : Got w base (.slice R m d) n l) {p : Addr} (hp : (Value.slice R m d).ownBlock ≠ some p.block) (u : Value) : Got (w.setCell p u) base (.slice R m d) n l := by
  refine ⟨⟨h.own.1, ?_⟩, h.small⟩
  rcases h.own.2 with h2 | ⟨g, cap, cur, hv, hg, hh, r⟩
  · exact Or.inl h2
  · refine Or.inr ⟨g, cap, cur, hv, hg, ?_, r⟩
    rw [Below.heap_setCell _ _ _ _ (fun e => hp (by rw [hv, e]; rfl))]
    exact hh
theorem Boxed4.grown {W W' : World} {B : Nat} {t : TypeId} {a b c d : Value} {row : Option Nat} (h : Boxed4 W B t a b c d) (hg : W.grownBy W' row) (hne : some B ≠ row) : Boxed4 W' B t a b c d := (hg.block B h.lt hne).trans h
theorem take_one {l : List Int} {k : Nat} (h : k < l.length) : l.take (k + 1) = l.take k ++ [byt l k] := take_byt h

set_option maxHeartbeats 2000000 in
theorem rwrite_any (base : Int) (A : Option Addr) (n c : Nat) (cap : Int) (sh : Bool) (l : List Int) (A2 : Option Addr) (n2 c2 : Nat) (l2 : List Int) (w : World) (hs : Sl w A n c l) (hn : n ≤ 140737488355328) (hs2 : Sl w A2 n2 c2 l2) (hn2 : n2 ≤ 140737488355328) :
    Calls Try.prog 10 #[.agg #[.int .i64 base, .slice A n c, .int .i64 cap, .bool sh], .slice A2 n2 c2] w fun e w' => Told3 w w' e (writeR ⟨base, l, cap, sh⟩ l2) := by
  unfold Told3
  obtain ⟨B, hB⟩ : ∃ B, w.heap.size = B := ⟨_, rfl⟩
  have e0 := (Boxed4.new w 24 (.int .i64 base) (.slice A n c) (.int .i64 cap) (.bool sh)).alloc (.cells #[.int .i64 0, .slice none 0 0, .int .i64 0, .bool false] 24)
  have r0 := Boxed4.new (w.alloc (.cells #[.int .i64 base, .slice A n c, .int .i64 cap, .bool sh] 24)) 24 (.int .i64 0) (.slice none 0 0) (.int .i64 0) (.bool false)
  have hb : Below w.heap.size w ((w.alloc (.cells #[.int .i64 base, .slice A n c, .int .i64 cap, .bool sh] 24)).alloc (.cells #[.int .i64 0, .slice none 0 0, .int .i64 0, .bool false] 24)) := ((Below.refl _ _).alloc (Nat.le_refl _) _).alloc (by simp) _
  rw [World.size_alloc] at r0
  rw [hB] at e0 r0 hb
  obtain ⟨w0, hw0⟩ : ∃ w0, (w.alloc (.cells #[.int .i64 base, .slice A n c, .int .i64 cap, .bool sh] 24)).alloc (.cells #[.int .i64 0, .slice none 0 0, .int .i64 0, .bool false] 24) = w0 := ⟨_, rfl⟩
  rw [hw0] at e0 r0 hb
  have g0 := e0.c0
  have g1 := e0.c1
  have g2 := e0.c2
  have g3 := e0.c3
  have hsk : ∀ {w' : World}, Below B w w' → Sl w' A n c l := fun h => hs.keep (by rw [hB]; exact h)
  have hm := rmay_any base A n c cap sh l w0 hs.rd.len hn
  have hsk2 : ∀ {w' : World}, Below B w w' → Sl w' A2 n2 c2 l2 := fun h => hs2.keep (by rw [hB]; exact h)
  cases hk : kmay ⟨base, l, cap, sh⟩ with
  | false =>
    rw [write_bad hk]
    rw [hk] at hm
    clear hk
    go_enter Try.func10, Try.ntmps10
    rw [hB]
    go_wp2_with (go_at_call 20; refine hm.mono ?_; rintro e w1 ⟨rfl, hb1⟩; have e1 := e0.kept hb1; have r1 := r0.kept hb1; have b1 := hb.trans (hb1.mono (Nat.le_of_lt e0.lt)); have x0 := e1.c0; have x1 := e1.c1; have x2 := e1.c2; have x3 := e1.c3; have f0 := r1.free 0; have f1 := r1.free 1; have f2 := r1.free 2; have f3 := r1.free 3; have t0 := r1.c0; have t1 := r1.c1; have t2 := r1.c2; have t3 := r1.c3)
    have rz := r1.set (.int .i64 0) (.slice none 0 0) (.int .i64 0) (.bool false)
    have y0 := rz.c0
    have y1 := rz.c1
    have y2 := rz.c2
    have y3 := rz.c3
    have bz := ((((b1.setCell (p := ⟨B + 1, 0, none⟩) (by simp) (.int .i64 0)).setCell (p := ⟨B + 1, 1, none⟩) (by simp) (.slice none 0 0)).setCell (p := ⟨B + 1, 2, none⟩) (by simp) (.int .i64 0)).setCell (p := ⟨B + 1, 3, none⟩) (by simp) (.bool false))
    exact bodyPost_ret (v := .tuple #[.agg #[.int .i64 0, .slice none 0 0, .int .i64 0, .bool false], .int .i64 0, .int .i64 1]) (by simp [results, Try.results10, go_sem, y0, y1, y2, y3]) rfl ⟨none, 0, 0, rfl, Sb.none _ _, bz⟩
  | true =>
    rw [hk] at hm
    have hk' := kmay_iff.1 hk
    simp only [hs.rd.len] at hk'
    obtain ⟨k2, k3, k4, k0, k1⟩ := hk'
    have hn1 : n ≤ 1000000 := by omega
    cases sh with
    | true =>
      rw [write_shut hk]
      clear hk k0 k1 k2 k3 k4
      go_enter Try.func10, Try.ntmps10
      rw [hB]
      go_wp2_with (go_at_call 20; refine hm.mono ?_; rintro e w1 ⟨rfl, hb1⟩; have e1 := e0.kept hb1; have r1 := r0.kept hb1; have b1 := hb.trans (hb1.mono (Nat.le_of_lt e0.lt)); have x0 := e1.c0; have x1 := e1.c1; have x2 := e1.c2; have x3 := e1.c3; have f0 := r1.free 0; have f1 := r1.free 1; have f2 := r1.free 2; have f3 := r1.free 3; have t0 := r1.c0; have t1 := r1.c1; have t2 := r1.c2; have t3 := r1.c3)
      have rz := r1.set (.int .i64 0) (.slice none 0 0) (.int .i64 0) (.bool false)
      have y0 := rz.c0
      have y1 := rz.c1
      have y2 := rz.c2
      have y3 := rz.c3
      have bz := ((((b1.setCell (p := ⟨B + 1, 0, none⟩) (by simp) (.int .i64 0)).setCell (p := ⟨B + 1, 1, none⟩) (by simp) (.slice none 0 0)).setCell (p := ⟨B + 1, 2, none⟩) (by simp) (.int .i64 0)).setCell (p := ⟨B + 1, 3, none⟩) (by simp) (.bool false))
      exact bodyPost_ret (v := .tuple #[.agg #[.int .i64 0, .slice none 0 0, .int .i64 0, .bool false], .int .i64 0, .int .i64 9]) (by simp [results, Try.results10, go_sem, y0, y1, y2, y3]) rfl ⟨none, 0, 0, rfl, Sb.none _ _, bz⟩
    | false =>
      obtain ⟨N, hN⟩ : ∃ N, room ⟨base, l, cap, false⟩ l2.length = N := ⟨_, rfl⟩
      have he : writeR ⟨base, l, cap, false⟩ l2 = (⟨base, l ++ l2.take N, cap, false⟩, (N : Int), 0) := by unfold writeR; rw [if_pos hk, if_neg (by simp), hN]
      rw [he]
      have hN2 : N = min n2 (min (cap - n).toNat (2305843009213693952 - (base + n)).toNat) := by rw [← hN]; unfold room; rw [hs2.rd.len, hs.rd.len]
      have hNle : N ≤ n2 := by omega
      have hNle2 : (n : Int) + N ≤ 1000000 := by omega
      have HN2 := Lib.hid hN2
      clear hk he hN hN2
      go_enter Try.func10, Try.ntmps10
      rw [hB]
      go_wp2_with (first
        | (go_at_call 20; refine hm.mono ?_; rintro e w1 ⟨rfl, hb1⟩; have e1 := e0.kept hb1; have r1 := r0.kept hb1; have b1 := hb.trans (hb1.mono (Nat.le_of_lt e0.lt)); have x0 := e1.c0; have x1 := e1.c1; have x2 := e1.c2; have x3 := e1.c3)
        | fail)
      refine (own_any base A n c cap false l _ (hsk b1) hn1).mono ?_
      rintro e w3 ⟨R, d, rfl, gt, hb3⟩
      have e3 := e1.kept hb3
      have r3 := r1.kept hb3
      have b3 := b1.trans (hb3.mono (Nat.le_of_lt e1.lt))
      have o3 := Boxed4.new w3 24 (.int .i64 base) (.slice R n d) (.int .i64 cap) (.bool false)
      have e4 := e3.alloc (.cells #[.int .i64 base, .slice R n d, .int .i64 cap, .bool false] 24)
      have r4 := r3.alloc (.cells #[.int .i64 base, .slice R n d, .int .i64 cap, .bool false] 24)
      have b4 := b3.alloc (Nat.le_of_lt e3.lt) (.cells #[.int .i64 base, .slice R n d, .int .i64 cap, .bool false] 24)
      have g4 : Got (w3.alloc (.cells #[.int .i64 base, .slice R n d, .int .i64 cap, .bool false] 24)) w1.heap.size (.slice R n d) n l := ⟨gt.own.alloc _, gt.small⟩
      have hne : (Value.slice R n d).ownBlock ≠ some w3.heap.size := by
        intro h
        rcases gt.own.2 with ⟨h1, _⟩ | ⟨g, cp, cur, h1, hg, hh, _⟩
        · rw [h1] at h; cases h
        · rw [h1] at h
          have hgl := (Array.getElem?_eq_some_iff.1 hh).1
          simp [Value.ownBlock] at h
          omega
      have hbw := (hb3.alloc hb3.size (.cells #[.int .i64 base, .slice R n d, .int .i64 cap, .bool false] 24))
      have hlt1 := r1.lt
      have hw31 := hb3.size
      have S2 := Lib.hid (hsk2 b1)
      obtain ⟨Bo, hBo⟩ : ∃ Bo, w3.heap.size = Bo := ⟨_, rfl⟩
      have hso : Bo < (w3.alloc (.cells #[.int .i64 base, .slice R n d, .int .i64 cap, .bool false] 24)).heap.size := by simp [hBo]
      rw [hBo] at o3 hne hw31
      clear g0 g1 g2 g3 x0 x1 x2 x3
      go_wp2_with fail
      go_loopw [9] (fun i wr => ∃ (k m d' : Nat) (R' : Option Addr), k ≤ N ∧ i = .int .i64 (k : Int) ∧ m = n + k ∧ Got wr w1.heap.size (.slice R' m d') m (l ++ l2.take k) ∧ (Value.slice R' m d').ownBlock ≠ some Bo ∧ Boxed4 wr Bo 24 (.int .i64 base) (.slice R' m d') (.int .i64 cap) (.bool false) ∧ Bo < wr.heap.size ∧ Below w1.heap.size w1 wr) (fun i _ => N - (intOf i).toNat)
      case atStart => exact ⟨0, n, d, R, Nat.zero_le _, rfl, rfl, by simpa using g4, hne, o3, hso, hbw⟩
      case round =>
        clear o3 g4 hne hso hbw e4 r4 b4
        obtain ⟨k, m, d', R', hkN, rfl, hmk, hg, hnb, hox, hbo, hbw⟩ := hrel
        have e5 := e1.kept hbw
        have y2 := e5.c2
        have y3 := e5.c3
        have q0 := hox.c0
        have q1 := hox.c1
        have hsz := hbw.size
        have hm0 : (m : Int) = n + k := by omega
        by_cases hlt : k < N
        · have hN := HN2.out
          have u1c : (k : Int) < (n2 : Int) := by omega
          have u2c : (m : Int) < cap := by omega
          have u3c : base + (m : Int) < 2305843009213693952 := by omega
          clear hN
          have hkl : k < l2.length := by rw [S2.out.rd.len]; omega
          obtain ⟨b, o, hA, hbl, hc⟩ := S2.out.rd.spot (by omega)
          have hcell := (hbw.cell (p := ⟨b, o + k, none⟩) hbl).trans (hc.out k (by omega))
          obtain ⟨bd0, bd1⟩ := byt_in S2.out.rd.small hkl
          have htk := take_one hkl
          obtain ⟨x, hx⟩ : ∃ x, byt l2 k = x := ⟨_, rfl⟩
          rw [hx] at hcell bd0 bd1 htk
          have HT := Lib.hid htk; clear htk
          have i0 : (0 : Int) ≤ (k : Int) := by omega
          have HM := Lib.hid hmk; clear hmk
          have HM0 := Lib.hid hm0; clear hm0
          subst hA
          have hcw := hc.out k (by omega)
          rw [hx] at hcw
          have HC := Lib.hid hcw; clear hcw
          clear hc hx
          go_wp2_with fail
          refine wp_region_tail 7 10 (fun w' : World => w'.cell? ⟨Bo, 1, none⟩ = some (.slice R' m d') ∧ w'.cell? ⟨b, o + k, none⟩ = some (.int .u8 x)) (by kernel_rfl) (by rfl) (by decide) ?_
          have HS : ((fun w' : World => w'.cell? ⟨Bo, 1, none⟩ = some (.slice R' m d') ∧ w'.cell? ⟨b, o + k, none⟩ = some (.int .u8 x))) _ := ⟨q1, hcell⟩
          refine wpAnyT_take (i := 0) (v := .pointer (some ⟨Bo, 1, none⟩)) rfl (by kernel_rfl) (fun _ _ _ h => h) (Or.inl ⟨by rfl, fun w hSw => ?_⟩) HS ?_
          · (try dsimp only at hSw); go_simp
          try simp only [Act.put, List.setIfInBounds_toArray, List.set_cons_zero, List.set_cons_succ]
          refine wpAnyT_take (i := 1) (v := .slice R' m d') rfl (by kernel_rfl) (fun _ _ _ h => h) (Or.inl ⟨by rfl, fun w hSw => ?_⟩) HS ?_
          · (try dsimp only at hSw); go_simp
          try simp only [Act.put, List.setIfInBounds_toArray, List.set_cons_zero, List.set_cons_succ]
          refine wpAnyT_take (i := 2) (v := .slice (some ⟨b, o, none⟩) n2 c2) rfl (by kernel_rfl) (fun _ _ _ h => h) (Or.inl ⟨by rfl, fun w hSw => ?_⟩) HS ?_
          · (try dsimp only at hSw); go_simp
          try simp only [Act.put, List.setIfInBounds_toArray, List.set_cons_zero, List.set_cons_succ]
          refine wpAnyT_take (i := 3) (v := .int .i64 (k : Int)) rfl (by kernel_rfl) (fun _ _ _ h => h) (Or.inl ⟨by rfl, fun w hSw => ?_⟩) HS ?_
          · (try dsimp only at hSw); go_simp
          try simp only [Act.put, List.setIfInBounds_toArray, List.set_cons_zero, List.set_cons_succ]
          refine wpAnyT_take (i := 4) (v := .pointer (some ⟨b, o + k, none⟩)) rfl (by kernel_rfl) (fun _ _ _ h => h) (Or.inl ⟨by rfl, fun w hSw => ?_⟩) HS ?_
          · (try dsimp only at hSw); go_simp
          try simp only [Act.put, List.setIfInBounds_toArray, List.set_cons_zero, List.set_cons_succ]
          refine wpAnyT_take (i := 5) (v := .int .u8 x) rfl (by kernel_rfl) (fun _ _ _ h => h) (Or.inl ⟨by rfl, fun w hSw => ?_⟩) HS ?_
          · (try dsimp only at hSw); go_simp
          try simp only [Act.put, List.setIfInBounds_toArray, List.set_cons_zero, List.set_cons_succ]
          refine wpAnyT_one (k := 6) rfl (by kernel_rfl) (by decide) (fun K hK => ?_)
          go_simp
          have oxd : Boxed4 (wr.drew.alloc (.cells #[.int .u8 x] 5)) Bo 24 (.int .i64 base) (.slice R' m d') (.int .i64 cap) (.bool false) := hox.drew.alloc _
          have hbd := (hbw.drew).alloc hsz (.cells #[.int .u8 x] 5)
          have HS : ((fun w' : World => w'.cell? ⟨Bo, 1, none⟩ = some (.slice R' m d') ∧ w'.cell? ⟨b, o + k, none⟩ = some (.int .u8 x))) _ := ⟨oxd.c1, (hbd.cell (p := ⟨b, o + k, none⟩) hbl).trans HC.out⟩
          refine hK _ _ HS ?_
          clear hK K
          try simp only [Act.put, List.setIfInBounds_toArray, List.set_cons_zero, List.set_cons_succ]
          refine ⟨by kernel_rfl, ?_⟩
          simp only [List.drop_succ_cons, List.drop_zero]
          clear HS
          go_wp2_with (at_builtin; refine wpList_app _ rfl (.tmp 42) (.tmp 47) 22 rfl w1.heap.size 5 Try.underlying22 info_u8 _ m (l ++ l2.take k) rfl (World.ownsRow.alloc (World.ownsRow.drew hg.own) _) rfl (fun e => by cases e) (rd_single wr.drew bd0 bd1) (by have := HM.out; omega) hbd.size ?_; intro v1 u1 hown1 hgrow1 hat1; have hbu := hbd.grown hgrow1 hbd.size (fun g hg' => (hg.own.lt g hg').1); have hgu : Got u1 w1.heap.size v1 (m + 1) ((l ++ l2.take k) ++ [x]) := ⟨hown1, small_app hg.small (by intro y hy; simp at hy; omega)⟩; obtain ⟨R5, d5, rfl, hsu⟩ := hgu.sl; have oxu := oxd.grown hgrow1 (fun e => hnb e.symm); have p1 := oxu.c1; have pf := oxu.free 1)
          have oxz := oxu.set1 (.slice R5 (m + 1) d5)
          have hnb2 : (Value.slice R5 (m + 1) d5).ownBlock ≠ some Bo := by
            rcases hat1 with h | h
            · rw [h]; exact hnb
            · rw [h]; intro hh; simp at hh; omega
          have hgz := hgu.set_ne (p := ⟨Bo, 1, none⟩) hnb2 (.slice R5 (m + 1) d5)
          go_roundw
          case rel =>
            refine ⟨k + 1, m + 1, d5, R5, by omega, by go_num, by have := HM.out; omega, ?_, hnb2, oxz, oxz.lt, hbu.setCell (by simp; omega) _⟩
            rw [HT.out, ← List.append_assoc]
            exact hgz
          case measure => simp [intOf]; omega
        · have hkN2 : k = N := by omega
          subst hkN2
          have hN := HN2.out
          have q2 := hox.c2
          have q3 := hox.c3
          have r5 := r1.kept hbw
          have v0 := r5.c0
          have v1 := r5.c1
          have v2 := r5.c2
          have v3 := r5.c3
          have vf0 := r5.free 0
          have vf1 := r5.free 1
          have vf2 := r5.free 2
          have vf3 := r5.free 3
          have b5 := b1.trans (hbw.mono (Nat.le_of_lt e1.lt))
          have sb := hg.sb'
          have hlen : ((l ++ l2.take k).length) = m := sb.sl.rd.len
          have rz := r5.set (.int .i64 base) (.slice R' m d') (.int .i64 cap) (.bool false)
          have w0' := rz.c0
          have w1' := rz.c1
          have w2' := rz.c2
          have w3' := rz.c3
          have bz := ((((b5.setCell (p := ⟨B + 1, 0, none⟩) (by simp) (.int .i64 base)).setCell (p := ⟨B + 1, 1, none⟩) (by simp) (.slice R' m d')).setCell (p := ⟨B + 1, 2, none⟩) (by simp) (.int .i64 cap)).setCell (p := ⟨B + 1, 3, none⟩) (by simp) (.bool false))
          have sz := ((((sb.set (p := ⟨B + 1, 0, none⟩) hlt1 (.int .i64 base)).set (p := ⟨B + 1, 1, none⟩) hlt1 (.slice R' m d')).set (p := ⟨B + 1, 2, none⟩) hlt1 (.int .i64 cap)).set (p := ⟨B + 1, 3, none⟩) hlt1 (.bool false)).mono (base' := B) (Nat.le_of_lt e1.lt)
          have WZ := Lib.hid (And.intro (And.intro w0' w1') (And.intro w2' w3'))
          have HM := Lib.hid hmk
          clear w0' w1' w2' w3'
          have fin : ∀ (P : Prop), (¬ ((k : Int) < (n2 : Int)) → P) → ((k : Int) < (n2 : Int) → ¬ ((m : Int) < cap) → P) → ((k : Int) < (n2 : Int) → (m : Int) < cap → ¬ (base + (m : Int) < 2305843009213693952) → P) → P := by
            intro P h1 h2 h3
            by_cases c1 : (k : Int) < (n2 : Int)
            · by_cases c2 : (m : Int) < cap
              · by_cases c3 : base + (m : Int) < 2305843009213693952
                · omega
                · exact h3 c1 c2 c3
              · exact h2 c1 c2
            · exact h1 c1
          clear hN hmk hm0 hlt
          refine fin _ (fun c1 => ?_) (fun c1 c2 => ?_) (fun c1 c2 c3 => ?_)
          all_goals go_wp2_with fail
          all_goals exact bodyPost_ret (v := .tuple #[.agg #[.int .i64 base, .slice R' m d', .int .i64 cap, .bool false], .int .i64 (k : Int), .int .i64 0]) (by simp [results, Try.results10, go_sem, WZ.out.1.1, WZ.out.1.2, WZ.out.2.1, WZ.out.2.2]) rfl ⟨R', m, d', rfl, sz, bz⟩
end Go.Proofs.Ytmnedaholdacnaa
