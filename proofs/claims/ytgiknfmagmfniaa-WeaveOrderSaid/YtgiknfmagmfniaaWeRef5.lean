/- The reference of package weave: Read as contracts of the calls. -/
import Derived.Test.YtgiknfmagmfniaaProg
import Derived.Test.YtgiknfmagmfniaaWeRef4
import Derived.Laws.OwnMore
import Derived.WalkKit
import Derived.WalkSpells
import Derived.WalkSmall
import Derived.Lib.Hide
import Derived.Below
import Derived.Outline
namespace Go.Proofs.Ytgiknfmagmfniaa
open Go.RowKit
set_option linter.unusedSimpArgs false
set_option linter.unusedVariables false

theorem Ss.grown {w w' : World} {A : Option Addr} {n c : Nat} {l : List Sp} {row : Option Nat} (h : Ss w A n c l) (hg : w.grownBy w' row) (hne : 0 < n → ∀ b o, A = some ⟨b, o, Option.none⟩ → some b ≠ row) : Ss w' A n c l := by
  refine ⟨h.le, h.max, h.nil, h.rd.len, h.rd.wide, fun h0 => ?_⟩
  obtain ⟨b, o, e, hlt, hc⟩ := h.rd.at_ h0
  have hh := hg.block b hlt (hne h0 b o e)
  refine ⟨b, o, e, Nat.lt_of_lt_of_le hlt hg.size, fun i hi => ?_⟩
  rw [← (hc i hi).1, ← (hc i hi).2]
  exact ⟨World.cell?_of_block (w := w) hh, World.cell?_of_block (w := w) hh⟩
theorem Sq.grown {w w' : World} {base : Nat} {A : Option Addr} {n c : Nat} {l : List Sp} {row : Option Nat} (h : Sq w base A n c l) (hg : w.grownBy w' row) (hne : 0 < n → ∀ b o, A = some ⟨b, o, Option.none⟩ → some b ≠ row) : Sq w' base A n c l := ⟨h.ss.grown hg hne, h.at_⟩
theorem Got.below {w w' : World} {base : Nat} {v : Value} {n : Nat} {l : List Int} (h : Got w base v n l) (hb : Below w.heap.size w w') : Got w' base v n l := by
  refine ⟨⟨h.own.1, ?_⟩, h.small⟩
  rcases h.own.2 with h2 | ⟨g, cap, cur, hv, hg, hh, r⟩
  · exact Or.inl h2
  · exact Or.inr ⟨g, cap, cur, hv, hg, (hb.block g (Array.getElem?_eq_some_iff.1 hh).1).trans hh, r⟩
/-- what Read tells -/
def TellR (w w' : World) (e : Ending) (x : Wv × List Int × Int) : Prop := ∃ R m d G k q S t u, e = .returned (.tuple #[.agg #[.int .i64 x.1.base, .slice R m d, .slice G k q, .int .i64 x.1.cap, .int .i64 x.1.en], .slice S t u, .int .i64 x.2.2]) ∧ Sb w' w.heap.size R m d x.1.b ∧ Sq w' w.heap.size G k q x.1.got ∧ Sb w' w.heap.size S t u x.2.1 ∧ Below w.heap.size w w'
theorem Sb.cut1 {w : World} {base : Nat} {R : Option Addr} {m d : Nat} {l : List Int} (h : Sb w base R (m + 1) (d + 1) l) : Sb w base (cutA R 1 (d + 1)) m d (l.drop 1) := by
  refine ⟨⟨by have := h.sl.le; omega, by have := h.sl.big; omega, (fun e => by
    unfold cutA at e
    split at e
    · omega
    · cases hR : R with
      | none => have := h.sl.nil hR; omega
      | some a => rw [hR] at e; cases e), h.sl.rd.cut rfl h.sl.le⟩, fun b o s e => ?_⟩
  unfold cutA at e
  split at e
  · exact h.at_ b o s e
  · cases hR : R with
    | none => rw [hR] at e; cases e
    | some a =>
      rw [hR] at e
      simp only [Option.map_some, Option.some.injEq] at e
      have hb : a.block = b := by
        have := congrArg Addr.block e
        rw [Addr.add] at this
        split at this <;> exact this
      rw [← hb]
      exact h.at_ a.block a.off a.spot hR
theorem run_cut1 (P : Program) (t e : TypeId) (ht : P.underlying t = some (.slice e)) (hinfo : (P.info? e).map (fun i => (i.zero, i.size, i.bytes)) = some (some (.int .u8 0), 1, 1)) (A : Option Addr) (m d : Nat) (w : World) :
    (Instr.slice t (.slice A (m + 1) (d + 1)) (some (.int .i64 1)) none none).run P w = .ok (.slice (cutA A 1 (d + 1)) m d) w := by
  obtain ⟨i0, hi, hz0, hz1, hz2⟩ := info_parts hinfo
  have ht' : P.underlying t = some (.slice (P.elem t)) := by simp [Program.elem, ht]
  have he : P.elem t = e := by simp [Program.elem, ht]
  have hz : ∀ w, (Go.sizeOf e).run P w = .ok 1 w := fun w => by simp [Go.sizeOf, typeInfo, hi, hz1]
  rw [run_slice_l w t _ _ _ ht' .i64 _ (by omega) (by omega), he, hz]
  simp [Result.andThen, sliced, cutA]
theorem rd_single (w : World) {x : Int} (h0 : 0 ≤ x) (h1 : x < 256) : Rd (w.alloc (.cells #[.int .u8 x] 5)) (some ⟨w.heap.size, 0, none⟩) 1 [x] := Rd.block w (l := [x]) (by intro y hy; simp at hy; omega) 5

set_option maxRecDepth 100000 in
set_option maxHeartbeats 4000000 in
theorem rwread_any (base : Int) (A : Option Addr) (n c : Nat) (G : Option Addr) (m d : Nat) (cap en : Int) (bl : List Int) (gl : List Sp) (z : Int) (w : World) (hb : Sl w A n c bl) (hg : Ss w G m d gl) (hn : n ≤ 140737488355328) (hz0 : -9223372036854775808 ≤ z) (hz1 : z ≤ 9223372036854775807) :
    Calls Try.prog 17 #[.agg #[.int .i64 base, .slice A n c, .slice G m d, .int .i64 cap, .int .i64 en], .int .i64 z] w fun e w' => TellR w w' e (readR ⟨base, bl, gl, cap, en⟩ z) := by
  unfold TellR
  have hbl := hb.rd.len
  have hgl := hg.rd.len
  obtain ⟨B, hB⟩ : ∃ B, w.heap.size = B := ⟨_, rfl⟩
  have e0 := (Bx.new w 25 [.int .i64 base, .slice A n c, .slice G m d, .int .i64 cap, .int .i64 en]).alloc (.cells #[.int .i64 0, .slice none 0 0, .slice none 0 0, .int .i64 0, .int .i64 0] 25)
  have r0 := Bx.new (w.alloc (.cells #[.int .i64 base, .slice A n c, .slice G m d, .int .i64 cap, .int .i64 en] 25)) 25 [.int .i64 0, .slice none 0 0, .slice none 0 0, .int .i64 0, .int .i64 0]
  have hb0 : Below w.heap.size w ((w.alloc (.cells #[.int .i64 base, .slice A n c, .slice G m d, .int .i64 cap, .int .i64 en] 25)).alloc (.cells #[.int .i64 0, .slice none 0 0, .slice none 0 0, .int .i64 0, .int .i64 0] 25)) := ((Below.refl _ _).alloc (Nat.le_refl _) _).alloc (by simp) _
  rw [World.size_alloc] at r0
  rw [hB] at e0 r0 hb0
  obtain ⟨w0, hw0⟩ : ∃ w0, (w.alloc (.cells #[.int .i64 base, .slice A n c, .slice G m d, .int .i64 cap, .int .i64 en] 25)).alloc (.cells #[.int .i64 0, .slice none 0 0, .slice none 0 0, .int .i64 0, .int .i64 0] 25) = w0 := ⟨_, rfl⟩
  have e0' : Bx w0 B 25 [.int .i64 base, .slice A n c, .slice G m d, .int .i64 cap, .int .i64 en] := by rw [← hw0]; exact e0
  have r0' : Bx w0 (B + 1) 25 [.int .i64 0, .slice none 0 0, .slice none 0 0, .int .i64 0, .int .i64 0] := by rw [← hw0]; exact r0
  have hb0' : Below B w w0 := by rw [← hw0]; exact hb0
  clear e0 r0 hb0
  have hbk : ∀ {w' : World}, Below B w w' → Sl w' A n c bl := fun h => hb.keep (by rw [hB]; exact h)
  have hgk : ∀ {w' : World}, Below B w w' → Ss w' G m d gl := fun h => hg.keep (by rw [hB]; exact h)
  have hmay := rwmay_any base A n c G m d cap en bl gl _ (hbk hb0') (hgk hb0') hn
  have x0 := e0'.cell 0 rfl
  have x1 := e0'.cell 1 rfl
  have x2 := e0'.cell 2 rfl
  have x3 := e0'.cell 3 rfl
  have x4 := e0'.cell 4 rfl
  rcases read_cases ⟨base, bl, gl, cap, en⟩ z with ⟨hx, hnv⟩ | ⟨hx, hv, hz⟩
  · rw [zw_lit] at hx
    rw [hx]
    clear hx
    have HN := Lib.hid hnv; clear hnv
    go_enter Try.func17, Try.ntmps17
    rw [hB]
    go_wp2_with fail
    refine hmay.mono ?_
    rintro e w1 ⟨he, hb1⟩
    clear x0 x1 x2 x3 x4
    have e1 := e0'.kept hb1
    have r1 := r0'.kept hb1
    have b1 := hb0'.trans (hb1.mono (Nat.le_of_lt e0'.lt))
    have x0 := e1.cell 0 rfl
    have x1 := e1.cell 1 rfl
    have x2 := e1.cell 2 rfl
    have x3 := e1.cell 3 rfl
    have x4 := e1.cell 4 rfl
    cases hk : wmay ⟨base, bl, gl, cap, en⟩ with
    | false =>
      rw [hk] at he; subst he
      have t0 := r1.cell 0 rfl
      have t1 := r1.cell 1 rfl
      have t2 := r1.cell 2 rfl
      have t3 := r1.cell 3 rfl
      have t4 := r1.cell 4 rfl
      have tf0 := r1.free 0
      have tf1 := r1.free 1
      have tf2 := r1.free 2
      have tf3 := r1.free 3
      have tf4 := r1.free 4
      go_wp2_with fail
      have OV := (((((r1.set 0 (.int .i64 0)).set 1 (.slice none 0 0)).set 2 (.slice none 0 0)).set 3 (.int .i64 0)).set 4 (.int .i64 0))
      have y0 := OV.cell 0 rfl
      have y1 := OV.cell 1 rfl
      have y2 := OV.cell 2 rfl
      have y3 := OV.cell 3 rfl
      have y4 := OV.cell 4 rfl
      have bz := (((((b1.setCell (p := ⟨B + 1, 0, none⟩) (by simp) (.int .i64 0)).setCell (p := ⟨B + 1, 1, none⟩) (by simp) (.slice none 0 0)).setCell (p := ⟨B + 1, 2, none⟩) (by simp) (.slice none 0 0)).setCell (p := ⟨B + 1, 3, none⟩) (by simp) (.int .i64 0)).setCell (p := ⟨B + 1, 4, none⟩) (by simp) (.int .i64 0))
      exact bodyPost_ret (v := .tuple #[.agg #[.int .i64 0, .slice none 0 0, .slice none 0 0, .int .i64 0, .int .i64 0], .slice none 0 0, .int .i64 1]) (by simp [results, Try.results17, go_sem, y0, y1, y2, y3, y4]) rfl ⟨none, 0, 0, none, 0, 0, none, 0, 0, rfl, Sb.none _ _, Sq.none _ _, Sb.none _ _, bz⟩
    | true =>
      rw [hk] at he; subst he
      have hzn : z < 0 := by
        rcases Int.lt_or_le z 0 with h | h
        · exact h
        · exact absurd ⟨(wmay_iff _).1 hk, h⟩ HN.out
      have HK := Lib.hid hk; clear hk
      have t0 := r1.cell 0 rfl
      have t1 := r1.cell 1 rfl
      have t2 := r1.cell 2 rfl
      have t3 := r1.cell 3 rfl
      have t4 := r1.cell 4 rfl
      have tf0 := r1.free 0
      have tf1 := r1.free 1
      have tf2 := r1.free 2
      have tf3 := r1.free 3
      have tf4 := r1.free 4
      go_wp2_with fail
      have OV := (((((r1.set 0 (.int .i64 0)).set 1 (.slice none 0 0)).set 2 (.slice none 0 0)).set 3 (.int .i64 0)).set 4 (.int .i64 0))
      have y0 := OV.cell 0 rfl
      have y1 := OV.cell 1 rfl
      have y2 := OV.cell 2 rfl
      have y3 := OV.cell 3 rfl
      have y4 := OV.cell 4 rfl
      have bz := (((((b1.setCell (p := ⟨B + 1, 0, none⟩) (by simp) (.int .i64 0)).setCell (p := ⟨B + 1, 1, none⟩) (by simp) (.slice none 0 0)).setCell (p := ⟨B + 1, 2, none⟩) (by simp) (.slice none 0 0)).setCell (p := ⟨B + 1, 3, none⟩) (by simp) (.int .i64 0)).setCell (p := ⟨B + 1, 4, none⟩) (by simp) (.int .i64 0))
      exact bodyPost_ret (v := .tuple #[.agg #[.int .i64 0, .slice none 0 0, .slice none 0 0, .int .i64 0, .int .i64 0], .slice none 0 0, .int .i64 1]) (by simp [results, Try.results17, go_sem, y0, y1, y2, y3, y4]) rfl ⟨none, 0, 0, none, 0, 0, none, 0, 0, rfl, Sb.none _ _, Sq.none _ _, Sb.none _ _, bz⟩
  · obtain ⟨K, hK⟩ : ∃ K, min (rdyW ⟨base, bl, gl, cap, en⟩) z.toNat = K := ⟨_, rfl⟩
    rw [hK] at hx
    rw [hx]
    clear hx
    have hrl := rdy_le ⟨base, bl, gl, cap, en⟩
    have hready : readyR ⟨base, bl, gl, cap, en⟩ = (rdyW ⟨base, bl, gl, cap, en⟩ : Int) := by unfold readyR; rw [if_pos ((wmay_iff _).2 hv)]
    obtain ⟨R0, hR0⟩ : ∃ R0, rdyW ⟨base, bl, gl, cap, en⟩ = R0 := ⟨_, rfl⟩
    rw [hR0] at hK hrl hready
    have hrl' : R0 ≤ n := by rw [← hbl]; exact hrl
    clear hrl
    have hns : n ≤ 65536 := by have := b_small hv; rw [show (⟨base, bl, gl, cap, en⟩ : Wv).b = bl from rfl, hbl] at this; exact this
    have hms : m ≤ 1000000 := by have := hv.len; rw [show (⟨base, bl, gl, cap, en⟩ : Wv).got = gl from rfl, hgl] at this; omega
    have v0 : 0 ≤ base := hv.base0
    have v1 : base ≤ 2305843009213693952 := hv.base1
    have hstep : ∀ k : Nat, k < K → cutR (cutW ⟨base, bl, gl, cap, en⟩ k).got (base + k, base + k + 1) = ((cutW ⟨base, bl, gl, cap, en⟩ (k + 1)).got, 0) := fun k hk => cut_step hv (by rw [hR0]; omega)
    have HST := Lib.hid hstep; clear hstep
    have hmt : wmay ⟨base, bl, gl, cap, en⟩ = true := (wmay_iff _).2 hv
    rw [hmt] at hmay
    have HV := Lib.hid hv; clear hv hmt
    have HR0 := Lib.hid hR0; clear hR0
    go_enter Try.func17, Try.ntmps17
    rw [hB]
    go_wp2_with fail
    refine hmay.mono ?_
    rintro e w1 ⟨rfl, hb1⟩
    clear x0 x1 x2 x3 x4
    have e1 := e0'.kept hb1
    have r1 := r0'.kept hb1
    have b1 := hb0'.trans (hb1.mono (Nat.le_of_lt e0'.lt))
    have x0 := e1.cell 0 rfl
    have x1 := e1.cell 1 rfl
    have x2 := e1.cell 2 rfl
    have x3 := e1.cell 3 rfl
    have x4 := e1.cell 4 rfl
    go_wp2_with fail
    refine (rwown_any base A n c G m d cap en bl gl _ (hbk b1) (hgk b1) (by omega) hms).mono ?_
    rintro e w3 ⟨R, q, H, r, rfl, gt, sq, hb3⟩
    clear x0 x1 x2 x3 x4
    have e3 := e1.kept hb3
    have r3 := r1.kept hb3
    have b3 := b1.trans (hb3.mono (Nat.le_of_lt e1.lt))
    have o4 := Bx.new w3 25 [.int .i64 base, .slice R n q, .slice H m r, .int .i64 cap, .int .i64 en]
    have e4 := e3.alloc (.cells #[.int .i64 base, .slice R n q, .slice H m r, .int .i64 cap, .int .i64 en] 25)
    have hba := (Below.refl w3.heap.size w3).alloc (Nat.le_refl _) (.cells #[.int .i64 base, .slice R n q, .slice H m r, .int .i64 cap, .int .i64 en] 25)
    have b4 := b3.alloc (Nat.le_of_lt e3.lt) (.cells #[.int .i64 base, .slice R n q, .slice H m r, .int .i64 cap, .int .i64 en] 25)
    have x0 := e4.cell 0 rfl
    have x1 := e4.cell 1 rfl
    have x2 := e4.cell 2 rfl
    have x3 := e4.cell 3 rfl
    have x4 := e4.cell 4 rfl
    go_wp2_with fail
    refine (rwready_any base A n c G m d cap en bl gl _ (hbk b4) (hgk b4) hn).mono ?_
    rintro e w5 ⟨he, hb5⟩
    rw [hready] at he
    subst he
    clear x0 x1 x2 x3 x4 hready
    have e5 := e4.kept hb5
    have o5 := o4.kept hb5
    have h35 := hba.trans (hb5.mono hba.size)
    have hBo : w3.heap.size < w5.heap.size := o5.lt
    have sR := gt.sb'.mono (base' := B + 1 + 1) r1.lt
    have sH := (sq.mono (base' := B + 1 + 1) r1.lt).keep h35
    obtain ⟨Bo, hBoe⟩ : ∃ Bo, w3.heap.size = Bo := ⟨_, rfl⟩
    have hBe : B < Bo := by rw [← hBoe]; exact e3.lt
    have hB1 : B + 1 < Bo := by rw [← hBoe]; exact r3.lt
    rw [hBoe] at o4 o5 hBo
    clear o4 gt sq
    go_wp2_with fail
    have hcut0 : (cutW ⟨base, bl, gl, cap, en⟩ 0).got = gl := by
      show cutK gl base 0 = gl
      unfold cutK; rw [if_pos rfl]
    go_loopw [9, 11] (fun v i wr => ∃ (k m' d' mh rh : Nat) (R' H' : Option Addr), k ≤ K ∧ i = .int .i64 (k : Int) ∧ m' + k = n ∧ Got wr w5.heap.size v k (bl.take k) ∧ Sb w3 (B + 1 + 1) R' m' d' (bl.drop k) ∧ Sq wr (B + 1 + 1) H' mh rh (cutW ⟨base, bl, gl, cap, en⟩ k).got ∧ (∀ g b o s, v.ownBlock = some g → H' = some ⟨b, o, s⟩ → b ≠ g) ∧ Bx wr Bo 25 [.int .i64 (base + (k : Int)), .slice R' m' d', .slice H' mh rh, .int .i64 cap, .int .i64 en] ∧ w5.heap.size ≤ wr.heap.size ∧ Below Bo w3 wr) (fun _ i _ => K - (intOf i).toNat)
    case atStart => exact ⟨0, n, q, m, r, R, H, Nat.zero_le _, rfl, rfl, ⟨World.ownsRow_nil _ _ _ _, fun x hx => by simp at hx⟩, by simpa using sR, by rw [hcut0]; exact sH, (fun g b o s e => by cases e), by simpa using o5, Nat.le_refl _, by rw [← hBoe]; exact h35⟩
    case round =>
      clear o5 sR sH
      obtain ⟨k, m', d', mh, rh, R', H', hkK, rfl, hmk, hgv, hsr, hsh, hnv, hox, hsz, hbw⟩ := hrel
      clear hcut0
      have bw : Below B w wr := b3.trans (hbw.mono (by omega))
      have e6 := e3.below hbw hBe
      have r6 := r3.below hbw hB1
      by_cases hlt : k < K
      · have u1c : (k : Int) < (R0 : Int) := by omega
        have u2c : (k : Int) < z := by omega
        have hkn : k < n := by omega
        obtain ⟨bb, bo, hA, hbb, hcb⟩ := hb.rd.at_ (by omega)
        have hcell := (bw.cell (p := ⟨bb, bo + k, none⟩) (by rw [← hB]; exact hbb)).trans (hcb k hkn)
        obtain ⟨bd0, bd1⟩ := byt_in hb.rd.small (i := k) (by omega)
        have htk := take_byt (l := bl) (k := k) (by omega)
        obtain ⟨x, hx⟩ : ∃ x, byt bl k = x := ⟨_, rfl⟩
        rw [hx] at hcell bd0 bd1 htk
        have HT := Lib.hid htk; clear htk
        have y0 := e6.cell 0 rfl
        have y1 := e6.cell 1 rfl
        have q2 := hox.cell 2 rfl
        subst hA
        clear hcb hx
        obtain ⟨m', rfl⟩ : ∃ q, m' = q + 1 := ⟨m' - 1, by omega⟩
        obtain ⟨d', rfl⟩ : ∃ q, d' = q + 1 := ⟨d' - 1, by have := hsr.sl.le; omega⟩
        have hcut := fun w => run_cut1 Try.prog 22 5 Try.underlying22 info_u8 R' m' d' w
        have HMK := Lib.hid hmk
        have hbu0 := hbw.alloc (show Bo ≤ wr.heap.size by omega) (.cells #[.int .u8 x] 5)
        have hoa := hox.alloc (.cells #[.int .u8 x] 5)
        have hsa := hsh.keep ((Below.refl _ _).alloc (Nat.le_refl _) (.cells #[.int .u8 x] 5))
        go_wp2_with (first
          | (at_builtin; go_loud (refine wpList_app _ rfl (.tmp 35) (.tmp 41) 22 rfl w5.heap.size 5 Try.underlying22 info_u8 _ k (bl.take k) rfl (hgv.own.alloc _) rfl (fun e => by cases e) (rd_single wr bd0 bd1) (by omega) (by simp; omega) ?_); intro v1 u1 hown1 hgrow1 hat1; go_loud (have hbu := hbu0.grown hgrow1 (by simp; omega) (fun g hg' => by have := (hgv.own.lt g hg').1; omega)); go_loud (have oxu := hoa.grown hgrow1 (fun e => by have := (hgv.own.lt Bo e.symm).1; omega)); go_loud (have hsu := hsa.grown hgrow1 (fun _ b o e hrow => hnv b b o none hrow.symm e rfl)); have e7 := e3.below hbu hBe; have z0 := e7.cell 0 rfl; have z2 := oxu.cell 2 rfl; have hbu' := Lib.hid (show Bo ≤ u1.heap.size from Nat.le_of_lt oxu.lt); have hgu : Got u1 w5.heap.size v1 (k + 1) (bl.take k ++ [x]) := ⟨hown1, small_app hgv.small (by intro y hy; simp at hy; omega)⟩)
          | (go_at_call 43; refine (rcut_sq H' mh rh _ (base + k) (base + k + 1) _ hsu.ss (by unfold W64; omega) (by unfold W64; omega)).mono ?_; rintro e u2 ⟨H2, mh2, rh2, rfl, sq2, hb6⟩; have oxv := oxu.kept hb6; have t2 := oxv.cell 2 rfl; have tf2 := oxv.free 2; have oxa := oxv.set 2 (.slice H2 mh2 rh2); have t1 := oxa.cell 1 rfl; have tf1 := oxa.free 1; have oxb := oxa.set 1 (.slice (cutA R' 1 (d' + 1)) m' d'); have t0 := oxb.cell 0 rfl; have tf0 := oxb.free 0; have oxc := oxb.set 0 (.int .i64 (base + (k : Int) + 1))))
        rw [HST.out k hlt] at sq2
        have hbv := hbu.trans (hb6.mono hbu'.out)
        have gw := (((hgu.below hb6).set (p := ⟨Bo, 2, none⟩) hBo (.slice H2 mh2 rh2)).set (p := ⟨Bo, 1, none⟩) hBo (.slice (cutA R' 1 (d' + 1)) m' d')).set (p := ⟨Bo, 0, none⟩) hBo (.int .i64 (base + (k : Int) + 1))
        have hBu : Bo < u1.heap.size := oxu.lt
        have sw := ((sq2.set (p := ⟨Bo, 2, none⟩) hBu (.slice H2 mh2 rh2)).set (p := ⟨Bo, 1, none⟩) hBu (.slice (cutA R' 1 (d' + 1)) m' d')).set (p := ⟨Bo, 0, none⟩) hBu (.int .i64 (base + (k : Int) + 1))
        have bwv := ((hbv.setCell (p := ⟨Bo, 2, none⟩) (Nat.le_refl _) (.slice H2 mh2 rh2)).setCell (p := ⟨Bo, 1, none⟩) (Nat.le_refl _) (.slice (cutA R' 1 (d' + 1)) m' d')).setCell (p := ⟨Bo, 0, none⟩) (Nat.le_refl _) (.int .i64 (base + (k : Int) + 1))
        have hsc := hsr.cut1
        rw [List.drop_drop] at hsc
        go_roundw
        case rel =>
          refine ⟨k + 1, m', d', mh2, rh2, cutA R' 1 (d' + 1), H2, by omega, by go_num, by omega, by rw [HT.out]; exact gw, hsc, sw.mono (by omega), ?_, ?_, ?_, bwv⟩
          · intro g b o s hg he
            have h1 := sq2.at_ b o s he
            have h2 := (hgu.own.lt g hg).2
            omega
          · rw [show base + ((k + 1 : Nat) : Int) = base + (k : Int) + 1 by omega]
            exact oxc
          · have h1 := hb6.size
            have h2 := hgrow1.size
            simp at h2 ⊢; omega
        case measure => simp [intOf]; omega
      · obtain rfl : k = K := by omega
        obtain ⟨S, u, rfl, sv⟩ := hgv.sb
        have q0 := hox.cell 0 rfl
        have q1 := hox.cell 1 rfl
        have q2 := hox.cell 2 rfl
        have q3 := hox.cell 3 rfl
        have q4 := hox.cell 4 rfl
        have t0 := r6.cell 0 rfl
        have t1 := r6.cell 1 rfl
        have t2 := r6.cell 2 rfl
        have t3 := r6.cell 3 rfl
        have t4 := r6.cell 4 rfl
        have tf0 := r6.free 0
        have tf1 := r6.free 1
        have tf2 := r6.free 2
        have tf3 := r6.free 3
        have tf4 := r6.free 4
        have sr := hsr.keep (by rw [hBoe]; exact hbw)
        have OV := (((((r6.set 0 (.int .i64 (base + (k : Int)))).set 1 (.slice R' m' d')).set 2 (.slice H' mh rh)).set 3 (.int .i64 cap)).set 4 (.int .i64 en))
        have y0 := OV.cell 0 rfl
        have y1 := OV.cell 1 rfl
        have y2 := OV.cell 2 rfl
        have y3 := OV.cell 3 rfl
        have y4 := OV.cell 4 rfl
        have bz := (((((bw.setCell (p := ⟨B + 1, 0, none⟩) (by simp) (.int .i64 (base + (k : Int)))).setCell (p := ⟨B + 1, 1, none⟩) (by simp) (.slice R' m' d')).setCell (p := ⟨B + 1, 2, none⟩) (by simp) (.slice H' mh rh)).setCell (p := ⟨B + 1, 3, none⟩) (by simp) (.int .i64 cap)).setCell (p := ⟨B + 1, 4, none⟩) (by simp) (.int .i64 en))
        have szr := (((((sr.set (p := ⟨B + 1, 0, none⟩) (by simp) (.int .i64 (base + (k : Int)))).set (p := ⟨B + 1, 1, none⟩) (by simp) (.slice R' m' d')).set (p := ⟨B + 1, 2, none⟩) (by simp) (.slice H' mh rh)).set (p := ⟨B + 1, 3, none⟩) (by simp) (.int .i64 cap)).set (p := ⟨B + 1, 4, none⟩) (by simp) (.int .i64 en))
        have szh := (((((hsh.set (p := ⟨B + 1, 0, none⟩) (by simp) (.int .i64 (base + (k : Int)))).set (p := ⟨B + 1, 1, none⟩) (by simp) (.slice R' m' d')).set (p := ⟨B + 1, 2, none⟩) (by simp) (.slice H' mh rh)).set (p := ⟨B + 1, 3, none⟩) (by simp) (.int .i64 cap)).set (p := ⟨B + 1, 4, none⟩) (by simp) (.int .i64 en))
        have szv := (((((sv.set (p := ⟨B + 1, 0, none⟩) (by simp; omega) (.int .i64 (base + (k : Int)))).set (p := ⟨B + 1, 1, none⟩) (by simp; omega) (.slice R' m' d')).set (p := ⟨B + 1, 2, none⟩) (by simp; omega) (.slice H' mh rh)).set (p := ⟨B + 1, 3, none⟩) (by simp; omega) (.int .i64 cap)).set (p := ⟨B + 1, 4, none⟩) (by simp; omega) (.int .i64 en))
        have fin : ∀ (P : Prop), (¬ ((k : Int) < (R0 : Int)) → P) → ((k : Int) < (R0 : Int) → ¬ ((k : Int) < z) → P) → P := by
          intro P h1 h2
          by_cases c1 : (k : Int) < (R0 : Int)
          · exact h2 c1 (by omega)
          · exact h1 c1
        have WZ := Lib.hid (And.intro (And.intro y0 y1) (And.intro y2 (And.intro y3 y4)))
        clear y0 y1 y2 y3 y4 hlt
        have hBw := Lib.hid hBo
        refine fin _ (fun c1 => ?_) (fun c1 c2 => ?_)
        all_goals go_wp2_with fail
        all_goals exact bodyPost_ret (v := .tuple #[.agg #[.int .i64 (base + (k : Int)), .slice R' m' d', .slice H' mh rh, .int .i64 cap, .int .i64 en], .slice S k u, .int .i64 0]) (by simp [results, Try.results17, go_sem, WZ.out.1.1, WZ.out.1.2, WZ.out.2.1, WZ.out.2.2.1, WZ.out.2.2.2]) rfl ⟨R', m', d', H', mh, rh, S, k, u, rfl, szr.mono (by omega), szh.mono (by omega), szv.mono (by omega), bz⟩
end Go.Proofs.Ytgiknfmagmfniaa
