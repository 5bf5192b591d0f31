/- The reference of package keep: Shut, Ack as contracts of the calls. -/
import Derived.Test.YtmnedaholdacnaaProg
import Derived.Test.YtmnedaholdacnaaKeRef
import Derived.WalkKit
import Derived.WalkSpells
import Derived.WalkSmall
import Derived.Lib.Hide
import Derived.Below
import Derived.Outline
import Derived.Deep.LoopGhost
namespace Go.Proofs.Ytmnedaholdacnaa
open Go.RowKit

theorem Got.sb' {w : World} {base : Nat} {R : Option Addr} {n d : Nat} {l : List Int} (h : Got w base (.slice R n d) n l) : Sb w base R n d l := by
  obtain ⟨A, c, e, hs⟩ := h.sb
  cases e
  exact hs
theorem Sb.cut1 {w : World} {base : Nat} {R : Option Addr} {m d : Nat} {l : List Int} (h : Sb w base R (m + 1) (d + 1) l) : Sb w base (cutA R 1 (d + 1)) m d (l.drop 1) := by
  refine ⟨⟨by have := h.sl.le; omega, by have := h.sl.big; omega, (fun e => by
    unfold cutA at e
    split at e
    · omega
    · cases hR : R with
      | none => have := h.sl.nil hR; omega
      | some a => rw [hR] at e; cases e), h.sl.rd.cut rfl h.sl.le⟩, fun b o s e => ?_⟩
  unfold cutA at e
  split at e
  · exact h.at_ b o s e
  · cases hR : R with
    | none => rw [hR] at e; cases e
    | some a =>
      rw [hR] at e
      simp only [Option.map_some, Option.some.injEq] at e
      have hb : a.block = b := by
        have := congrArg Addr.block e
        rw [Addr.add] at this
        split at this <;> exact this
      rw [← hb]
      exact h.at_ a.block a.off a.spot hR
theorem run_cut1 (P : Program) (t e : TypeId) (ht : P.underlying t = some (.slice e)) (hinfo : (P.info? e).map (fun i => (i.zero, i.size, i.bytes)) = some (some (.int .u8 0), 1, 1)) (A : Option Addr) (m d : Nat) (w : World) :
    (Instr.slice t (.slice A (m + 1) (d + 1)) (some (.int .i64 1)) none none).run P w = .ok (.slice (cutA A 1 (d + 1)) m d) w := by
  obtain ⟨i0, hi, hz0, hz1, hz2⟩ := info_parts hinfo
  have ht' : P.underlying t = some (.slice (P.elem t)) := by simp [Program.elem, ht]
  have he : P.elem t = e := by simp [Program.elem, ht]
  have hz : ∀ w, (Go.sizeOf e).run P w = .ok 1 w := fun w => by simp [Go.sizeOf, typeInfo, hi, hz1]
  rw [run_slice_l w t _ _ _ ht' .i64 _ (by omega) (by omega), he, hz]
  simp [Result.andThen, sliced, cutA]

set_option maxHeartbeats 2000000 in
theorem rshut_any (base : Int) (A : Option Addr) (n c : Nat) (cap : Int) (sh : Bool) (l : List Int) (w : World) (hs : Sl w A n c l) (hn : n ≤ 140737488355328) :
    Calls Try.prog 15 #[.agg #[.int .i64 base, .slice A n c, .int .i64 cap, .bool sh]] w fun e w' => Told2 w w' e (shutR ⟨base, l, cap, sh⟩) := by
  unfold Told2
  obtain ⟨B, hB⟩ : ∃ B, w.heap.size = B := ⟨_, rfl⟩
  have e0 := (Boxed4.new w 24 (.int .i64 base) (.slice A n c) (.int .i64 cap) (.bool sh)).alloc (.cells #[.int .i64 0, .slice none 0 0, .int .i64 0, .bool false] 24)
  have r0 := Boxed4.new (w.alloc (.cells #[.int .i64 base, .slice A n c, .int .i64 cap, .bool sh] 24)) 24 (.int .i64 0) (.slice none 0 0) (.int .i64 0) (.bool false)
  have hb : Below w.heap.size w ((w.alloc (.cells #[.int .i64 base, .slice A n c, .int .i64 cap, .bool sh] 24)).alloc (.cells #[.int .i64 0, .slice none 0 0, .int .i64 0, .bool false] 24)) := ((Below.refl _ _).alloc (Nat.le_refl _) _).alloc (by simp) _
  rw [World.size_alloc] at r0
  rw [hB] at e0 r0 hb
  obtain ⟨w0, hw0⟩ : ∃ w0, (w.alloc (.cells #[.int .i64 base, .slice A n c, .int .i64 cap, .bool sh] 24)).alloc (.cells #[.int .i64 0, .slice none 0 0, .int .i64 0, .bool false] 24) = w0 := ⟨_, rfl⟩
  rw [hw0] at e0 r0 hb
  have g0 := e0.c0
  have g1 := e0.c1
  have g2 := e0.c2
  have g3 := e0.c3
  have hsk : ∀ {w' : World}, Below B w w' → Sl w' A n c l := fun h => hs.keep (by rw [hB]; exact h)
  have hm := rmay_any base A n c cap sh l w0 hs.rd.len hn
  cases hk : kmay ⟨base, l, cap, sh⟩ with
  | false =>
    rw [shut_bad hk]
    rw [hk] at hm
    clear hk
    go_enter Try.func15, Try.ntmps15
    rw [hB]
    go_wp2_with (go_at_call 20; refine hm.mono ?_; rintro e w1 ⟨rfl, hb1⟩; have e1 := e0.kept hb1; have r1 := r0.kept hb1; have b1 := hb.trans (hb1.mono (Nat.le_of_lt e0.lt)); have x0 := e1.c0; have x1 := e1.c1; have x2 := e1.c2; have x3 := e1.c3; have f0 := r1.free 0; have f1 := r1.free 1; have f2 := r1.free 2; have f3 := r1.free 3; have t0 := r1.c0; have t1 := r1.c1; have t2 := r1.c2; have t3 := r1.c3)
    have rz := r1.set (.int .i64 0) (.slice none 0 0) (.int .i64 0) (.bool false)
    have y0 := rz.c0
    have y1 := rz.c1
    have y2 := rz.c2
    have y3 := rz.c3
    have bz := ((((b1.setCell (p := ⟨B + 1, 0, none⟩) (by simp) (.int .i64 0)).setCell (p := ⟨B + 1, 1, none⟩) (by simp) (.slice none 0 0)).setCell (p := ⟨B + 1, 2, none⟩) (by simp) (.int .i64 0)).setCell (p := ⟨B + 1, 3, none⟩) (by simp) (.bool false))
    exact bodyPost_ret (v := .tuple #[.agg #[.int .i64 0, .slice none 0 0, .int .i64 0, .bool false], .int .i64 1]) (by simp [results, Try.results15, go_sem, y0, y1, y2, y3]) rfl ⟨none, 0, 0, rfl, Sb.none _ _, bz⟩
  | true =>
    rw [shut_ok hk]
    have hk' := kmay_iff.1 hk
    simp only [hs.rd.len] at hk'
    have hn1 : n ≤ 1000000 := by omega
    rw [hk] at hm
    clear hk hk'
    go_enter Try.func15, Try.ntmps15
    rw [hB]
    go_wp2_with (first | (go_at_call 20; refine hm.mono ?_; rintro e w1 ⟨rfl, hb1⟩; have e1 := e0.kept hb1; have r1 := r0.kept hb1; have b1 := hb.trans (hb1.mono (Nat.le_of_lt e0.lt)); have x0 := e1.c0; have x1 := e1.c1; have x2 := e1.c2; have x3 := e1.c3; clear g0 g1 g2 g3) | fail)
    refine (own_any base A n c cap sh l _ (hsk b1) hn1).mono ?_
    rintro e w2 ⟨R, d, rfl, gt, hb2⟩
    have b2 := b1.trans (hb2.mono (Nat.le_of_lt e1.lt))
    have r2 := r1.kept hb2
    have o2 := Boxed4.new w2 24 (.int .i64 base) (.slice R n d) (.int .i64 cap) (.bool sh)
    have of := o2.free 3
    have oc := o2.c3
    have o3 := Boxed4.new w2 24 (.int .i64 base) (.slice R n d) (.int .i64 cap) (.bool true)
    have u0 := o3.c0
    have u1 := o3.c1
    have u2 := o3.c2
    have u3 := o3.c3
    have r3 := r2.alloc (.cells #[.int .i64 base, .slice R n d, .int .i64 cap, .bool true] 24)
    have v0 := r3.c0
    have v1 := r3.c1
    have v2 := r3.c2
    have v3 := r3.c3
    have vf0 := r3.free 0
    have vf1 := r3.free 1
    have vf2 := r3.free 2
    have vf3 := r3.free 3
    have b3 := b2.alloc (Nat.le_of_lt (Nat.lt_of_lt_of_le e1.lt hb2.size)) (.cells #[.int .i64 base, .slice R n d, .int .i64 cap, .bool true] 24)
    have s3 := gt.sb'.keep ((Below.refl w2.heap.size w2).alloc (Nat.le_refl _) (.cells #[.int .i64 base, .slice R n d, .int .i64 cap, .bool true] 24))
    go_wp2_with fail
    have hr2 := r1.lt
    have rz := r3.set (.int .i64 base) (.slice R n d) (.int .i64 cap) (.bool true)
    have y0 := rz.c0
    have y1 := rz.c1
    have y2 := rz.c2
    have y3 := rz.c3
    have bz := ((((b3.setCell (p := ⟨B + 1, 0, none⟩) (by simp) (.int .i64 base)).setCell (p := ⟨B + 1, 1, none⟩) (by simp) (.slice R n d)).setCell (p := ⟨B + 1, 2, none⟩) (by simp) (.int .i64 cap)).setCell (p := ⟨B + 1, 3, none⟩) (by simp) (.bool true))
    exact bodyPost_ret (v := .tuple #[.agg #[.int .i64 base, .slice R n d, .int .i64 cap, .bool true], .int .i64 0]) (by simp [results, Try.results15, go_sem, y0, y1, y2, y3]) rfl ⟨R, n, d, rfl, ((((s3.set (p := ⟨B + 1, 0, none⟩) hr2 (.int .i64 base)).set (p := ⟨B + 1, 1, none⟩) hr2 (.slice R n d)).set (p := ⟨B + 1, 2, none⟩) hr2 (.int .i64 cap)).set (p := ⟨B + 1, 3, none⟩) hr2 (.bool true)).mono (Nat.le_of_lt e1.lt), bz⟩

set_option maxHeartbeats 2000000 in
theorem rack_any (base : Int) (A : Option Addr) (n c : Nat) (cap : Int) (sh : Bool) (l : List Int) (p : Int) (w : World) (hs : Sl w A n c l) (hn : n ≤ 140737488355328) (hp0 : -9223372036854775808 ≤ p) (hp1 : p ≤ 9223372036854775807) :
    Calls Try.prog 13 #[.agg #[.int .i64 base, .slice A n c, .int .i64 cap, .bool sh], .int .i64 p] w fun e w' => Told2 w w' e (ackR ⟨base, l, cap, sh⟩ p) := by
  unfold Told2
  obtain ⟨B, hB⟩ : ∃ B, w.heap.size = B := ⟨_, rfl⟩
  have e0 := (Boxed4.new w 24 (.int .i64 base) (.slice A n c) (.int .i64 cap) (.bool sh)).alloc (.cells #[.int .i64 0, .slice none 0 0, .int .i64 0, .bool false] 24)
  have r0 := Boxed4.new (w.alloc (.cells #[.int .i64 base, .slice A n c, .int .i64 cap, .bool sh] 24)) 24 (.int .i64 0) (.slice none 0 0) (.int .i64 0) (.bool false)
  have hb : Below w.heap.size w ((w.alloc (.cells #[.int .i64 base, .slice A n c, .int .i64 cap, .bool sh] 24)).alloc (.cells #[.int .i64 0, .slice none 0 0, .int .i64 0, .bool false] 24)) := ((Below.refl _ _).alloc (Nat.le_refl _) _).alloc (by simp) _
  rw [World.size_alloc] at r0
  rw [hB] at e0 r0 hb
  obtain ⟨w0, hw0⟩ : ∃ w0, (w.alloc (.cells #[.int .i64 base, .slice A n c, .int .i64 cap, .bool sh] 24)).alloc (.cells #[.int .i64 0, .slice none 0 0, .int .i64 0, .bool false] 24) = w0 := ⟨_, rfl⟩
  rw [hw0] at e0 r0 hb
  have g0 := e0.c0
  have g1 := e0.c1
  have g2 := e0.c2
  have g3 := e0.c3
  have hsk : ∀ {w' : World}, Below B w w' → Sl w' A n c l := fun h => hs.keep (by rw [hB]; exact h)
  have hm := rmay_any base A n c cap sh l w0 hs.rd.len hn
  cases hk : kmay ⟨base, l, cap, sh⟩ with
  | false =>
    rw [ack_bad hk]
    rw [hk] at hm
    clear hk
    go_enter Try.func13, Try.ntmps13
    rw [hB]
    go_wp2_with (go_at_call 20; refine hm.mono ?_; rintro e w1 ⟨rfl, hb1⟩; have e1 := e0.kept hb1; have r1 := r0.kept hb1; have b1 := hb.trans (hb1.mono (Nat.le_of_lt e0.lt)); have x0 := e1.c0; have x1 := e1.c1; have x2 := e1.c2; have x3 := e1.c3; have f0 := r1.free 0; have f1 := r1.free 1; have f2 := r1.free 2; have f3 := r1.free 3; have t0 := r1.c0; have t1 := r1.c1; have t2 := r1.c2; have t3 := r1.c3)
    have rz := r1.set (.int .i64 0) (.slice none 0 0) (.int .i64 0) (.bool false)
    have y0 := rz.c0
    have y1 := rz.c1
    have y2 := rz.c2
    have y3 := rz.c3
    have bz := ((((b1.setCell (p := ⟨B + 1, 0, none⟩) (by simp) (.int .i64 0)).setCell (p := ⟨B + 1, 1, none⟩) (by simp) (.slice none 0 0)).setCell (p := ⟨B + 1, 2, none⟩) (by simp) (.int .i64 0)).setCell (p := ⟨B + 1, 3, none⟩) (by simp) (.bool false))
    exact bodyPost_ret (v := .tuple #[.agg #[.int .i64 0, .slice none 0 0, .int .i64 0, .bool false], .int .i64 1]) (by simp [results, Try.results13, go_sem, y0, y1, y2, y3]) rfl ⟨none, 0, 0, rfl, Sb.none _ _, bz⟩
  | true =>
    rw [hk] at hm
    have hk' := kmay_iff.1 hk
    simp only [hs.rd.len] at hk'
    obtain ⟨k2, k3, k4, k0, k1⟩ := hk'
    have hn1 : n ≤ 1000000 := by omega
    have hend : kend ⟨base, l, cap, sh⟩ = base + n := by rw [end_ok sh hk, hs.rd.len]
    by_cases hpe : base + n < p
    · rw [ack_none sh hk (u := p) (by rw [hs.rd.len]; exact hpe)]
      clear hk k0 k1 k2 k3 k4
      go_enter Try.func13, Try.ntmps13
      rw [hB]
      go_wp2_with (first
        | (go_at_call 20; refine hm.mono ?_; rintro e w1 ⟨rfl, hb1⟩; have e1 := e0.kept hb1; have r1 := r0.kept hb1; have b1 := hb.trans (hb1.mono (Nat.le_of_lt e0.lt)); have x0 := e1.c0; have x1 := e1.c1; have x2 := e1.c2; have x3 := e1.c3)
        | (go_at_call 22; refine (rend_any base A n c cap sh l _ hs.rd.len hn).mono ?_; rintro e w2 ⟨he, hb2⟩; rw [hend] at he; subst he; have e2 := e1.kept hb2; have r2 := r1.kept hb2; have b2 := b1.trans (hb2.mono (Nat.le_of_lt e1.lt)); have f0 := r2.free 0; have f1 := r2.free 1; have f2 := r2.free 2; have f3 := r2.free 3; have t0 := r2.c0; have t1 := r2.c1; have t2 := r2.c2; have t3 := r2.c3))
      have rz := r2.set (.int .i64 0) (.slice none 0 0) (.int .i64 0) (.bool false)
      have y0 := rz.c0
      have y1 := rz.c1
      have y2 := rz.c2
      have y3 := rz.c3
      have bz := ((((b2.setCell (p := ⟨B + 1, 0, none⟩) (by simp) (.int .i64 0)).setCell (p := ⟨B + 1, 1, none⟩) (by simp) (.slice none 0 0)).setCell (p := ⟨B + 1, 2, none⟩) (by simp) (.int .i64 0)).setCell (p := ⟨B + 1, 3, none⟩) (by simp) (.bool false))
      exact bodyPost_ret (v := .tuple #[.agg #[.int .i64 0, .slice none 0 0, .int .i64 0, .bool false], .int .i64 3]) (by simp [results, Try.results13, go_sem, y0, y1, y2, y3]) rfl ⟨none, 0, 0, rfl, Sb.none _ _, bz⟩
    · rw [ack_ok sh hk (u := p) (by rw [hs.rd.len]; exact hpe)]
      clear hk k2 k3 k4
      go_enter Try.func13, Try.ntmps13
      rw [hB]
      go_wp2_with (first
        | (go_at_call 20; refine hm.mono ?_; rintro e w1 ⟨rfl, hb1⟩; have e1 := e0.kept hb1; have r1 := r0.kept hb1; have b1 := hb.trans (hb1.mono (Nat.le_of_lt e0.lt)); have x0 := e1.c0; have x1 := e1.c1; have x2 := e1.c2; have x3 := e1.c3)
        | (go_at_call 22; refine (rend_any base A n c cap sh l _ hs.rd.len hn).mono ?_; rintro e w2 ⟨he, hb2⟩; rw [hend] at he; subst he; have e2 := e1.kept hb2; have r2 := r1.kept hb2; have b2 := b1.trans (hb2.mono (Nat.le_of_lt e1.lt)); clear x0 x1 x2 x3; have y0 := e2.c0; have y1 := e2.c1; have y2 := e2.c2; have y3 := e2.c3))
      refine (own_any base A n c cap sh l _ (hsk b2) hn1).mono ?_
      rintro e w3 ⟨R, d, rfl, gt, hb3⟩
      have e3 := e2.kept hb3
      have r3 := r2.kept hb3
      have b3 := b2.trans (hb3.mono (Nat.le_of_lt e2.lt))
      have o3 := Boxed4.new w3 24 (.int .i64 base) (.slice R n d) (.int .i64 cap) (.bool sh)
      have s3 := gt.sb'
      have hlt := e3.lt
      clear g0 g1 g2 g3 y0 y1 y2 y3
      go_wp2_with fail
      go_loopg [] (p - base).toNat (fun g wr => ∃ (k m d' : Nat) (R' : Option Addr), k + g = (p - base).toNat ∧ m + k = n ∧ Sb w3 w2.heap.size R' m d' (l.drop k) ∧ Boxed4 wr w3.heap.size 24 (.int .i64 (base + k)) (.slice R' m d') (.int .i64 cap) (.bool sh) ∧ Below w3.heap.size w3 wr)
      case atStart => exact ⟨0, n, d, R, by omega, by omega, by simpa using s3, by simpa using o3, (Below.refl _ _).alloc (Nat.le_refl _) _⟩
      case round =>
        clear o3 s3
        obtain ⟨k, m, d', R', hkg, hmk, hsb, hox, hbw⟩ := hrel
        by_cases hg0 : 0 < gk
        · obtain ⟨m, rfl⟩ : ∃ m', m = m' + 1 := ⟨m - 1, by omega⟩
          obtain ⟨d', rfl⟩ : ∃ q, d' = q + 1 := ⟨d' - 1, by have := hsb.sl.le; omega⟩
          have hcut := fun w => run_cut1 Try.prog 22 5 Try.underlying22 info_u8 R' m d' w
          have q0 := hox.c0
          have q1 := hox.c1
          have qf := hox.free 1
          have hoy := hox.set1 (.slice (cutA R' 1 (d' + 1)) m d')
          have p0 := hoy.c0
          have pf := hoy.free 0
          have hoz := hoy.set0 (.int .i64 (base + k + 1))
          have hcond : base + (k : Int) < p := by omega
          have hsc := hsb.cut1
          rw [List.drop_drop] at hsc
          clear hs hsb
          go_wp2_with fail
          go_roundg (gk - 1)
          case rel =>
            refine ⟨k + 1, m, d', cutA R' 1 (d' + 1), by omega, by omega, hsc, ?_, (hbw.setCell (by simp) _).setCell (by simp) _⟩
            rw [show base + ((k + 1 : Nat) : Int) = base + k + 1 by omega]
            exact hoz
          case measure => omega
        · have hkD : (p - base).toNat = k := by omega
          have hmax : max base p = base + k := by omega
          have HM := Lib.hid hmax
          have hcond : ¬ (base + (k : Int) < p) := by omega
          have NH := Lib.hid hcond
          have hcond' : p ≤ base + (k : Int) := by omega
          have HD := Lib.hid hkD
          clear hkD hmax hcond hkg hg0
          have q0 := hox.c0
          have q1 := hox.c1
          have q2 := hox.c2
          have q3 := hox.c3
          have r4 := r3.below hbw (Nat.lt_of_lt_of_le r2.lt hb3.size)
          have v0 := r4.c0
          have v1 := r4.c1
          have v2 := r4.c2
          have v3 := r4.c3
          have vf0 := r4.free 0
          have vf1 := r4.free 1
          have vf2 := r4.free 2
          have vf3 := r4.free 3
          have b4 := b3.trans (hbw.mono (Nat.le_of_lt e3.lt))
          have s4 := hsb.keep hbw
          go_wp2_with fail
          have hr2 := r2.lt
          have rz := r4.set (.int .i64 (base + k)) (.slice R' m d') (.int .i64 cap) (.bool sh)
          have y0 := rz.c0
          have y1 := rz.c1
          have y2 := rz.c2
          have y3 := rz.c3
          have bz := ((((b4.setCell (p := ⟨B + 1, 0, none⟩) (by simp) (.int .i64 (base + k))).setCell (p := ⟨B + 1, 1, none⟩) (by simp) (.slice R' m d')).setCell (p := ⟨B + 1, 2, none⟩) (by simp) (.int .i64 cap)).setCell (p := ⟨B + 1, 3, none⟩) (by simp) (.bool sh))
          exact bodyPost_ret (v := .tuple #[.agg #[.int .i64 (base + k), .slice R' m d', .int .i64 cap, .bool sh], .int .i64 0]) (by simp [results, Try.results13, go_sem, y0, y1, y2, y3]) rfl ⟨R', m, d', (by show Ending.returned (.tuple #[.agg #[.int .i64 (base + k), .slice R' m d', .int .i64 cap, .bool sh], .int .i64 0]) = Ending.returned (.tuple #[.agg #[.int .i64 (max base p), .slice R' m d', .int .i64 cap, .bool sh], .int .i64 0]); rw [HM.out]), (by show Sb _ _ R' m d' (l.drop (p - base).toNat); rw [HD.out]; exact ((((s4.set (p := ⟨B + 1, 0, none⟩) hr2 (.int .i64 (base + k))).set (p := ⟨B + 1, 1, none⟩) hr2 (.slice R' m d')).set (p := ⟨B + 1, 2, none⟩) hr2 (.int .i64 cap)).set (p := ⟨B + 1, 3, none⟩) hr2 (.bool sh)).mono (Nat.le_of_lt e2.lt)), bz⟩
end Go.Proofs.Ytmnedaholdacnaa
