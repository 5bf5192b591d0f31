/- StL2 StL3 Knuth Sn LeRef1 LeRef2. -/
import Derived.Test.YtbijhkhkigdddaaGreatP06
set_option linter.all false
set_option maxRecDepth 100000
set_option maxHeartbeats 32000000
namespace Go.Proofs.YtbijhkhkigdddaaGreat
open Go.RowKit
def NineB (w : World) (B : Nat) (x : Prt) : Prop := w.cell? ⟨B, 0, none⟩ = some (.int .i64 x.seq) ∧ w.cell? ⟨B, 1, none⟩ = some (.int .i64 x.len) ∧ w.cell? ⟨B, 2, none⟩ = some (.int .i64 x.dsn) ∧ w.cell? ⟨B, 3, none⟩ = some (.int .i64 x.at_) ∧ w.cell? ⟨B, 4, none⟩ = some (.int .i64 x.tries) ∧ w.cell? ⟨B, 5, none⟩ = some (.bool x.came) ∧ w.cell? ⟨B, 6, none⟩ = some (.bool x.lost) ∧ w.cell? ⟨B, 7, none⟩ = some (.int .i64 x.total) ∧ w.cell? ⟨B, 8, none⟩ = some (.int .i64 x.last)
theorem bx_nine {w : World} {B : Nat} {x : Prt} {t : TypeId} (h : Bx w B t [x.seq, x.len, x.dsn, x.at_, x.tries, x.came, x.lost, x.total, x.last]) : NineB w B x := ⟨h.cell 0 rfl, h.cell 1 rfl, h.cell 2 rfl, h.cell 3 rfl, h.cell 4 rfl, h.cell 5 rfl, h.cell 6 rfl, h.cell 7 rfl, h.cell 8 rfl⟩
theorem run_headE {α : Type} [El α] (P : Program) (t e : TypeId) (ht : P.underlying t = some (.slice e)) (z : Value) (bytes : Nat) (hinfo : (P.info? e).map (fun i => (i.zero, i.size, i.bytes)) = some (some z, El.k α, bytes)) (A : Option Addr) (k n c : Nat) (w : World) (hk : k ≤ c) :
  (Instr.slice t (.slice A n c) none (some (.int .i64 (k : Int))) none).run P w = .ok (.slice A k c) w := by
 obtain ⟨i0, hi, hz0, hz1, hz2⟩ := info_parts hinfo
 have ht' : P.underlying t = some (.slice (P.elem t)) := by simp [Program.elem, ht]
 have he : P.elem t = e := by simp [Program.elem, ht]
 have hz : ∀ w, (Go.sizeOf e).run P w = .ok (El.k α) w := fun w => by simp [Go.sizeOf, typeInfo, hi, hz1]
 rw [run_slice_h w t _ _ _ ht' .i64 _ (by omega) (by omega), he, hz]
 have h0 : ∀ a : Addr, a.add 0 = a := fun a => by simp [Addr.add]
 simp [Result.andThen, sliced, h0]
def folB (l : List Prt) (x : Prt) : Bool := oneB x && (decide (l.length = 0) || decide (endP (ge l (l.length - 1)) = x.seq))
theorem fol_iff (l : List Prt) (x : Prt) : folB l x = true ↔ oneB x = true ∧ (0 < l.length → x.seq = endP (ge l (l.length - 1))) := by
 unfold folB
 rw [Bool.and_eq_true, Bool.or_eq_true, decide_eq_true_eq, decide_eq_true_eq]
 refine and_congr_right fun _ => ⟨fun h h0 => ?_, fun h => ?_⟩
 ·rcases h with h | h
  ·omega
  ·exact h.symm
 ·by_cases h0 : l.length = 0
  ·exact .inl h0
  ·exact .inr (h (by omega)).symm
theorem stfollows_any (A : Option Addr) (n c : Nat) (l : List Prt) (x : Prt) (w : World) (hs : Se w A n c l) (hle : 0 < n → EndOk (ge l (n - 1))) :
  Calls Tryz.prog 115 #[.slice A n c, .agg #[x.seq, x.len, x.dsn, x.at_, x.tries, x.came, x.lost, x.total, x.last]] w fun e w' => e = .returned (.bool (folB l x)) ∧ Below w.heap.size w w' := by
 obtain ⟨B, hB⟩ : ∃ B, w.heap.size = B := ⟨_, rfl⟩
 have hl := hs.rd.len
 have m1 := hs.le
 have m2 := hs.max
 have m3 : n ≤ 9223372036854775807 := by unfold maxLen at m2; omega
 clear m1 m2
 have e0 := Bx.new w 57 [x.seq, x.len, x.dsn, x.at_, x.tries, x.came, x.lost, x.total, x.last]
 rw [hB] at e0 ⊢
 have b0 : Below B w (w.alloc (.cells #[x.seq, x.len, x.dsn, x.at_, x.tries, x.came, x.lost, x.total, x.last] 57)) := by rw [← hB]; exact (Zb).alloc Zr _
 have hs0 := hs.alloc (.cells #[x.seq, x.len, x.dsn, x.at_, x.tries, x.came, x.lost, x.total, x.last] 57)
 obtain ⟨q, hq⟩ : ∃ q, folB l x = q := ⟨_, rfl⟩
 rw [hq]
 have HQ := Zh hq
 have HLE := Zh hle; have HL := Zh hl
 clear hs hl hq hle
 go_enter Tryz.func115, Tryz.ntmps115
 go_upto_region 1 with fail
 change Code.wp _ _ _ _ (w.alloc (.cells #[x.seq, x.len, x.dsn, x.at_, x.tries, x.came, x.lost, x.total, x.last] 57))
 generalize w.alloc (.cells #[x.seq, x.len, x.dsn, x.at_, x.tries, x.came, x.lost, x.total, x.last] 57) = w1 at e0 b0 hs0 ⊢
 have hval := stvalid_any x
 cases hv : oneB x with
 | false =>
  have hF : q = false := by rw [← HQ.out]; unfold folB; rw [hv]; rfl
  subst hF
  rw [hv] at hval
  clear hv
  have hB1 : B ≤ w1.drew.heap.size := Zl e0.lt
  refine tB 19 20 (fun (W : World) => NineB W B x ∧ Below B w W) ⟨bx_nine e0.drew, b0.drew⟩ (fun HS => ?_)
  refine tU 0 HS ?_ (hy := by intro w hSw; (try dsimp only [NineB, Nine] at hSw); go_simp; try with_reducible rfl)
  refine tO 1 (fun K hK => ?_)
  go_simp
  refine (hval _).mono ?_
  rintro e wv ⟨rfl, hb1⟩
  refine kK hK ⟨bx_nine (e0.drew.kept hb1), b0.drew.trans (hb1.mono hB1)⟩ (fun HS => ?_)
  clear hK K
  refine tU 2 HS ?_ (hy := by intro w hSw; (try dsimp only [NineB, Nine] at hSw); go_simp; try with_reducible rfl)
  refine tF 3 HS ?_
  refine tF 4 HS ?_
  refine tF 5 HS ?_
  refine tF 6 HS ?_
  refine tF 7 HS ?_
  refine tF 8 HS ?_
  refine tF 9 HS ?_
  refine tF 10 HS ?_
  refine tF 11 HS ?_
  refine tF 12 HS ?_
  refine tF 13 HS ?_
  refine tF 14 HS ?_
  refine tF 15 HS ?_
  refine tF 16 HS ?_
  refine tF 17 HS ?_
  refine tU 18 HS ?_ (hy := by intro w hSw; (try dsimp only [NineB, Nine] at hSw); go_simp; try with_reducible rfl)
  refine ⟨by kernel_rfl, ?_⟩
  simp only [List.drop_succ_cons, List.drop_zero]
  go_wp2_with fail
  go_ret
  exact ⟨rfl, HS.2⟩
 | true =>
 rw [hv] at hval
 by_cases hn : n = 0
 ·subst hn
  have hT : q = true := by rw [← HQ.out]; unfold folB; rw [hv, HL.out]; rfl
  subst hT
  clear hv
  have hB1 : B ≤ w1.drew.heap.size := Zl e0.lt
  refine tB 19 20 (fun (W : World) => NineB W B x ∧ Below B w W) ⟨bx_nine e0.drew, b0.drew⟩ (fun HS => ?_)
  refine tU 0 HS ?_ (hy := by intro w hSw; (try dsimp only [NineB, Nine] at hSw); go_simp; try with_reducible rfl)
  refine tO 1 (fun K hK => ?_)
  go_simp
  refine (hval _).mono ?_
  rintro e wv ⟨rfl, hb1⟩
  refine kK hK ⟨bx_nine (e0.drew.kept hb1), b0.drew.trans (hb1.mono hB1)⟩ (fun HS => ?_)
  clear hK K
  refine tU 2 HS ?_ (hy := by intro w hSw; (try dsimp only [NineB, Nine] at hSw); go_simp; try with_reducible rfl)
  refine tU 3 HS ?_ (hy := by intro w hSw; (try dsimp only [NineB, Nine] at hSw); go_simp; try with_reducible rfl)
  refine tU 4 HS ?_ (hy := by intro w hSw; (try dsimp only [NineB, Nine] at hSw); go_simp; try with_reducible rfl)
  refine tU 5 HS ?_ (hy := by intro w hSw; (try dsimp only [NineB, Nine] at hSw); go_simp; try with_reducible rfl)
  refine tU 6 HS ?_ (hy := by intro w hSw; (try dsimp only [NineB, Nine] at hSw); go_simp; try with_reducible rfl)
  refine tF 7 HS ?_
  refine tF 8 HS ?_
  refine tF 9 HS ?_
  refine tF 10 HS ?_
  refine tF 11 HS ?_
  refine tF 12 HS ?_
  refine tF 13 HS ?_
  refine tF 14 HS ?_
  refine tF 15 HS ?_
  refine tF 16 HS ?_
  refine tU 17 HS ?_ (hy := by intro w hSw; (try dsimp only [NineB, Nine] at hSw); go_simp; try with_reducible rfl)
  refine tU 18 HS ?_ (hy := by intro w hSw; (try dsimp only [NineB, Nine] at hSw); go_simp; try with_reducible rfl)
  refine ⟨by kernel_rfl, ?_⟩
  simp only [List.drop_succ_cons, List.drop_zero]
  go_wp2_with fail
  go_ret
  exact ⟨rfl, HS.2⟩
 obtain ⟨j, rfl⟩ : ∃ j, n = j + 1 := ⟨n - 1, by omega⟩
 have hq2 : q = decide (endP (ge l j) = x.seq) := by rw [← HQ.out]; unfold folB; rw [hv, HL.out]; simp
 obtain ⟨b, o, rfl, hbl, hc⟩ := hs0.rd.at_ (by omega)
 have Y := prt_at hc (show j < j + 1 by omega)
 have heo := HLE.out (by omega)
 rw [show j + 1 - 1 = j by omega] at heo
 obtain ⟨p, hp⟩ : ∃ p, ge l j = p := ⟨_, rfl⟩
 rw [hp] at Y heo hq2
 have hend := fun W => stend_any p W heo
 have hj1 : (0 : Int) < (j : Int) + 1 := by omega
 have hj2 : (0 : Int) ≤ (j : Int) + 1 := by omega
 have hj4 : (j : Int) < (j : Int) + 1 := by omega
 have hj5 : ((j : Int) + 1 == 0) = false := by simp; omega
 have hs3 : IntKind.i64.wrap (j : Int) = (j : Int) := IntWalk.i64_in _ (by omega)
 have HP := Zh hp
 have HEO := Zh heo
 have hq3 : q = (endP p == x.seq) := by rw [hq2]; rfl
 subst hq3
 clear hv hn hp hc heo hq2 hs0
 have hB1 : B ≤ w1.drew.heap.size := Zl e0.lt
 refine tB 19 20 (fun (W : World) => NineB W B x ∧ Nine W b (o + j * 9) p ∧ Below B w W) ⟨bx_nine e0.drew, Y.drew.nine, b0.drew⟩ (fun HS => ?_)
 refine tU 0 HS ?_ (hy := by intro w hSw; (try dsimp only [NineB, Nine] at hSw); go_simp; try with_reducible rfl)
 refine tO 1 (fun K hK => ?_)
 go_simp
 refine (hval _).mono ?_
 rintro e wv ⟨rfl, hb1⟩
 refine kK hK ⟨bx_nine (e0.drew.kept hb1), (Y.drew.keep (w' := wv) hb1 hbl).nine, b0.drew.trans (hb1.mono hB1)⟩ (fun HS => ?_)
 clear hK K
 refine tU 2 HS ?_ (hy := by intro w hSw; (try dsimp only [NineB, Nine] at hSw); go_simp; try with_reducible rfl)
 refine tU 3 HS ?_ (hy := by intro w hSw; (try dsimp only [NineB, Nine] at hSw); go_simp; try with_reducible rfl)
 refine tU 4 HS ?_ (hy := by intro w hSw; (try dsimp only [NineB, Nine] at hSw); go_simp; try with_reducible rfl)
 refine tU 5 HS ?_ (hy := by intro w hSw; (try dsimp only [NineB, Nine] at hSw); go_simp; try with_reducible rfl)
 refine tU 6 HS ?_ (hy := by intro w hSw; (try dsimp only [NineB, Nine] at hSw); go_simp; try with_reducible rfl)
 refine tU 7 HS ?_ (hy := by intro w hSw; (try dsimp only [NineB, Nine] at hSw); go_simp; try with_reducible rfl)
 refine tU 8 HS ?_ (hy := by intro w hSw; (try dsimp only [NineB, Nine] at hSw); go_simp; try with_reducible rfl)
 refine tU 9 HS ?_ (hy := by intro w hSw; (try dsimp only [NineB, Nine] at hSw); go_simp; try with_reducible rfl)
 refine tU 10 HS ?_ (hy := by intro w hSw; (try dsimp only [NineB, Nine] at hSw); go_simp; try with_reducible rfl)
 refine tU 11 HS ?_ (hy := by intro w hSw; (try dsimp only [NineB, Nine] at hSw); go_simp; try with_reducible rfl)
 refine tU 12 HS ?_ (hy := by intro w hSw; (try dsimp only [NineB, Nine] at hSw); go_simp; try with_reducible rfl)
 refine tU 14 HS ?_ (hy := by intro w hSw; (try dsimp only [NineB, Nine] at hSw); go_simp; try with_reducible rfl)
 refine tU 15 HS ?_ (hy := by intro w hSw; (try dsimp only [NineB, Nine] at hSw); go_simp; try with_reducible rfl)
 refine tO 13 (fun K hK => ?_)
 go_simp
 refine (hend _).mono ?_
 rintro e wv2 ⟨rfl, hb2⟩
 refine kK hK ⟨bx_nine ((e0.drew.kept hb1).kept hb2), ((Y.drew.keep (w' := wv) hb1 hbl).keep (w' := wv2) hb2 (Nat.lt_of_lt_of_le hbl hb1.size)).nine, (b0.drew.trans (hb1.mono hB1)).trans (hb2.mono (Zn hB1 hb1.size))⟩ (fun HS => ?_)
 clear hK K
 refine tU 16 HS ?_ (hy := by intro w hSw; (try dsimp only [NineB, Nine] at hSw); go_simp; try with_reducible rfl)
 refine tU 17 HS ?_ (hy := by intro w hSw; (try dsimp only [NineB, Nine] at hSw); go_simp; try with_reducible rfl)
 refine tU 18 HS ?_ (hy := by intro w hSw; (try dsimp only [NineB, Nine] at hSw); go_simp; try with_reducible rfl)
 refine ⟨by kernel_rfl, ?_⟩
 simp only [List.drop_succ_cons, List.drop_zero]
 go_wp2_with fail
 go_ret
 exact ⟨rfl, HS.2.2⟩
theorem fol_link {l : List Prt} {k : Nat} (hk : k < l.length) : folB (l.take k) (ge l k) = true ↔ LinkOk l k := by
 have hlen : (l.take k).length = k := by rw [List.length_take]; omega
 rw [fol_iff, oneB_iff, hlen]
 unfold LinkOk
 refine and_congr_right fun _ => ⟨fun h h0 => ?_, fun h h0 => ?_⟩
 ·rw [h h0, ge_take (by omega)]
 ·rw [h h0, ge_take (by omega)]
theorem stmay_any (A : Option Addr) (n c : Nat) (l : List Prt) (w : World) (hs : Se w A n c l) :
  Calls Tryz.prog 97 #[.slice A n c] w fun e w' => e = .returned (.bool (smayB l)) ∧ Below w.heap.size w w' := by
 have hl := hs.rd.len
 have m1 := hs.le
 have m2 := hs.max
 have m3 : n ≤ 9223372036854775807 := by unfold maxLen at m2; omega
 clear m2
 by_cases h5 : 500 < n
 ·have hF : smayB l = false := by unfold smayB; rw [hl, Zf (by omega)]; rfl
  rw [hF]
  clear hF
  have d5 : decide ((500 : Int) < (n : Int)) = true := Zt (by omega)
  have d6 : decide (500 < n) = true := Zt h5
  go_enter Tryz.func97, Tryz.ntmps97
  go_wp2
  go_ret
  exact ⟨rfl, Below.refl _ _⟩
 have d5 : decide ((500 : Int) < (n : Int)) = false := Zf (by omega)
 have d6 : decide (500 < n) = false := Zf h5
 have hq0 : smayB l = chainB l := by unfold smayB; rw [hl, Zt (by omega)]; rfl
 obtain ⟨q, hq⟩ : ∃ q, chainB l = q := ⟨_, rfl⟩
 rw [hq0, hq]
 have HQ := Zh hq
 have HA := Zh hs; have HL := Zh hl
 clear hs hl hq hq0 h5
 go_enter Tryz.func97, Tryz.ntmps97
 go_wp2_with fail
 go_loopw [10] (fun i wr => ∃ k : Nat, k ≤ n ∧ i = .int .i64 (k : Int) ∧ Hid (ChainTo l k) ∧ Below w.heap.size w wr) (fun i _ => n - (intOf i).toNat)
 case atStart => exact ⟨0, Nat.zero_le _, rfl, Zh (fun i hi => absurd hi (by omega)), Below.refl _ _⟩
 case round =>
  obtain ⟨k, hk, rfl, HOK, hb⟩ := hrel
  by_cases hlt : k < n
  ·have dlt : decide (k < n) = true := Zt hlt
   have hsr : Se wr A n c l := HA.out.keep hb
   obtain ⟨b, o, rfl, hbl, hc⟩ := hsr.rd.at_ (by omega)
   have X := prt_at hc hlt
   have hkl : k < l.length := by rw [HL.out]; exact hlt
   have hfl := fol_link hkl
   have hsk := hsr.head (k := k) (by omega)
   have heo : 0 < k → EndOk (ge (l.take k) (k - 1)) := fun h0 => by rw [ge_take (by omega)]; exact endOk (HOK.out (k - 1) (by omega)).1
   have hhead := fun w => run_headE (α := Prt) Tryz.prog 22 57 Tryz.underlying22 (.agg #[.int .i64 0, .int .i64 0, .int .i64 0, .int .i64 0, .int .i64 0, .bool false, .bool false, .int .i64 0, .int .i64 0]) 64 info_prt (some ⟨b, o, none⟩) k n c w (by omega)
   have hq2 : folB (l.take k) (ge l k) = false → q = false := fun h => by
    rw [← HQ.out]
    refine Bool.eq_false_iff.2 (fun h2 => ?_)
    have h3 := hfl.2 (((chainB_iff l).1 h2) k hkl)
    rw [h] at h3; cases h3
   obtain ⟨p, hp⟩ : ∃ p, ge l k = p := ⟨_, rfl⟩
   rw [hp] at X hfl hq2
   obtain ⟨x0, x1, x2, x3, x4, x5, x6, x7, x8⟩ := X
   obtain ⟨P, hP⟩ : ∃ P, wr.heap.size = P := ⟨_, rfl⟩
   have eP : Bx (wr.alloc (.cells #[p.seq, p.len, p.dsn, p.at_, p.tries, p.came, p.lost, p.total, p.last] 57)) P 57 [p.seq, p.len, p.dsn, p.at_, p.tries, p.came, p.lost, p.total, p.last] := hP ▸ Bx.new wr 57 [p.seq, p.len, p.dsn, p.at_, p.tries, p.came, p.lost, p.total, p.last]
   have hwP : w.heap.size ≤ P := hP ▸ hb.size
   have bP : Below w.heap.size w (wr.alloc (.cells #[p.seq, p.len, p.dsn, p.at_, p.tries, p.came, p.lost, p.total, p.last] 57)) := hb.alloc (hP ▸ hwP) _
   have hsP := hsk.alloc (.cells #[p.seq, p.len, p.dsn, p.at_, p.tries, p.came, p.lost, p.total, p.last] 57)
   have HFL := Zh hfl; have HQ2 := Zh hq2; have HEO := Zh heo
   clear hsk hfl hq2 heo hp hc hsr hbl
   go_upto_region 6 with fail
   clear x0 x1 x2 x3 x4 x5 x6 x7 x8
   try rw [hP]
   generalize wr.alloc (.cells #[p.seq, p.len, p.dsn, p.at_, p.tries, p.came, p.lost, p.total, p.last] 57) = wA at eP bP hsP ⊢
   have hfol := fun W hW => stfollows_any (some ⟨b, o, none⟩) k c (l.take k) p W hW HEO.out
   obtain ⟨z, hz⟩ : ∃ z, folB (l.take k) p = z := ⟨_, rfl⟩
   rw [hz] at hfol
   have HZ := Zh hz
   clear hz
   refine tB 5 6 (fun (W : World) => NineB W P p ∧ Se W (some ⟨b, o, none⟩) k c (l.take k) ∧ Below w.heap.size w W) ⟨bx_nine eP.drew, hsP.drew, bP.drew⟩ (fun HS => ?_)
   refine tU 0 HS ?_ (hy := by intro w hSw; (try dsimp only [NineB] at hSw); go_simp; try with_reducible rfl)
   refine tU 1 HS ?_ (hy := by intro w hSw; (try dsimp only [NineB] at hSw); go_simp; try with_reducible rfl)
   refine tU 2 HS ?_ (hy := by intro w hSw; (try dsimp only [NineB] at hSw); go_simp; try with_reducible rfl)
   refine tU 3 HS ?_ (hy := by intro w hSw; (try dsimp only [NineB] at hSw); go_simp; try with_reducible rfl)
   refine tO 4 (fun K hK => ?_)
   go_simp
   refine (hfol _ HS.2.1).mono ?_
   rintro e wv ⟨rfl, hb1⟩
   refine kK hK ⟨bx_nine (eP.drew.kept hb1), hsP.drew.keep hb1, bP.drew.trans (hb1.mono (Zn hwP (Zl eP.drew.lt)))⟩ (fun HS => ?_)
   clear hK K
   refine ⟨by kernel_rfl, ?_⟩
   simp only [List.drop_succ_cons, List.drop_zero]
   cases z with
   | false =>
    have hF : q = false := HQ2.out HZ.out
    subst hF
    go_wp2_with fail
    go_ret
    exact ⟨rfl, HS.2.2⟩
   | true =>
    go_wp2_with fail
    go_roundw
    case rel => exact ⟨k + 1, by omega, by go_num, Zh (link_snoc HOK.out (HFL.out.1 HZ.out)), HS.2.2⟩
    case measure => simp [intOf]; omega
  ·obtain rfl : k = n := by omega
   have hT : q = true := by rw [← HQ.out, chainB_iff, HL.out]; exact HOK.out
   subst hT
   have dlt : decide (k < k) = false := Zf (by omega)
   go_wp2_with fail
   go_ret
   exact ⟨rfl, hb⟩
theorem stspan_any (A : Option Addr) (n c : Nat) (l : List Prt) (w : World) (hs : Se w A n c l) :
  Calls Tryz.prog 31 #[.slice A n c] w fun e w' => e = .returned (.agg #[.int .i64 (spanR l).1, .int .i64 (spanR l).2]) ∧ Below w.heap.size w w' := by
 obtain ⟨B, hB⟩ : ∃ B, w.heap.size = B := ⟨_, rfl⟩
 rw [hB]
 have hl := hs.rd.len
 have m1 := hs.le
 have m2 := hs.max
 have m3 : n ≤ 9223372036854775807 := by unfold maxLen at m2; omega
 clear m1 m2
 have y0 := Bx.new w 74 [.int .i64 0, .int .i64 0]
 rw [hB] at y0
 have b0 : Below B w (w.alloc (.cells #[.int .i64 0, .int .i64 0] 74)) := by rw [← hB]; exact (Zb).alloc Zr _
 have hs0 := hs.alloc (.cells #[.int .i64 0, .int .i64 0] 74)
 obtain ⟨x, hx⟩ : ∃ x, spanR l = x := ⟨_, rfl⟩
 rw [hx]
 have HX := Zh hx
 have HL := Zh hl
 clear hx hs hl
 go_enter Tryz.func31, Tryz.ntmps31
 go_upto_region 1 with fail
 generalize w.alloc (.cells #[.int .i64 0, .int .i64 0] 74) = w1 at y0 b0 hs0 ⊢
 by_cases hn : n = 0
 ·subst hn
  have hx := HX.out
  rw [show spanR l = (0, 0) by unfold spanR; rw [if_neg (by rw [HL.out]; omega)]] at hx
  subst hx
  clear HX
  have c0 := y0.cell 0 rfl; have c1 := y0.cell 1 rfl; have f0 := y0.free 0; have f1 := y0.free 1
  go_wp2_with (refine sg_store rfl (.tmp 2) (.tmp 11) rfl rfl [.int .i64 0, .int .i64 0] rfl y0 rfl rfl rfl ?_)
  refine sg_end1 (by rfl) (by rfl) (sg_put y0 [.int .i64 0, .int .i64 0]) rfl rfl ?_
  exact ⟨rfl, b0.grown (sg_grown _ B #[.int .i64 0, .int .i64 0]) (Zl y0.lt) (fun k hk => by cases hk; exact Nat.le_refl _)⟩
 have hn0 : (n == 0) = false := by simpa using hn
 have hn1 : ((n : Int) == 0) = false := by simp; omega
 have hn2 : 0 < n := by omega
 have hm := stmay_any A n c l w1 hs0
 cases hk : smayB l with
 | false =>
  have hx := HX.out
  rw [show spanR l = (0, 0) by unfold spanR; rw [if_neg (fun h => by rw [hk] at h; simp at h)]] at hx
  subst hx
  rw [hk] at hm
  clear HX hk hn
  go_wp2_with (first | (go_at_call 97; refine hm.mono ?_; rintro e w2 ⟨rfl, hb2⟩; have y2 := y0.kept hb2; have b2 := b0.trans (hb2.mono (Zl y0.lt)); have c0 := y2.cell 0 rfl; have c1 := y2.cell 1 rfl; have f0 := y2.free 0; have f1 := y2.free 1) | (refine sg_store rfl (.tmp 2) (.tmp 11) rfl rfl [.int .i64 0, .int .i64 0] rfl y2 rfl rfl rfl ?_))
  refine sg_end1 (by rfl) (by rfl) (sg_put y2 [.int .i64 0, .int .i64 0]) rfl rfl ?_
  exact ⟨rfl, b2.grown (sg_grown _ B #[.int .i64 0, .int .i64 0]) (Zl y2.lt) (fun k hk => by cases hk; exact Nat.le_refl _)⟩
 | true =>
 rw [hk] at hm
 have hch := ((smay_iff l).1 hk).2
 obtain ⟨j, rfl⟩ : ∃ j, n = j + 1 := ⟨n - 1, by omega⟩
 have hx := HX.out
 rw [show spanR l = ((ge l 0).seq, endP (ge l j)) by unfold spanR; rw [if_pos ⟨by rw [HL.out]; omega, hk⟩, HL.out, Nat.add_sub_cancel]] at hx
 subst hx
 have heo := endOk (hch j (by rw [HL.out]; omega)).1
 clear HX hk hn hch
 go_upto_region 3 with (go_at_call 97; refine hm.mono ?_; rintro e w2 ⟨rfl, hb2⟩; have y2 := y0.kept hb2; have b2 := b0.trans (hb2.mono (Zl y0.lt)); have hs2 := hs0.keep hb2)
 obtain ⟨b, o, rfl, hbl, hc⟩ := hs2.rd.at_ (by omega)
 have X := prt_at hc (show 0 < j + 1 by omega)
 have Y := prt_at hc (show j < j + 1 by omega)
 simp only [Nat.zero_mul, Nat.add_zero] at X
 obtain ⟨p, hp⟩ : ∃ p, ge l 0 = p := ⟨_, rfl⟩
 obtain ⟨p', hp'⟩ : ∃ p, ge l j = p := ⟨_, rfl⟩
 rw [hp] at X; rw [hp'] at Y heo
 have hend := fun W => stend_any p' W heo
 have hj1 : (0 : Int) < (j : Int) + 1 := by omega
 have hj2 : (0 : Int) ≤ (j : Int) + 1 := by omega
 have hj4 : (j : Int) < (j : Int) + 1 := by omega
 have hs3 : IntKind.i64.wrap (j : Int) = (j : Int) := IntWalk.i64_in _ (by omega)
 have HP := Zh hp; have HP' := Zh hp'
 have HEO := Zh heo
 clear hp hp' hc heo
 have cX0 := X.c0
 clear X hs2
 have hB2 : B < w2.heap.size := y2.lt
 refine wp_region_tail 12 13 (fun (W : World) => W.cell? ⟨b, o, none⟩ = some (.int .i64 p.seq) ∧ Nine W b (o + j * 9) p' ∧ Bx W B 74 [.int .i64 0, .int .i64 0] ∧ Below B w W) (by kernel_rfl) (by rfl) (by decide) ?_
 have HS : ((fun (W : World) => W.cell? ⟨b, o, none⟩ = some (.int .i64 p.seq) ∧ Nine W b (o + j * 9) p' ∧ Bx W B 74 [.int .i64 0, .int .i64 0] ∧ Below B w W)) w2.drew := ⟨cX0, Y.drew.nine, y2.drew, b2.drew⟩
 refine tU 0 HS ?_ (hy := by intro w hSw; (try dsimp only [Nine] at hSw); go_simp; try with_reducible rfl)
 refine tU 1 HS ?_ (hy := by intro w hSw; (try dsimp only [Nine] at hSw); go_simp; try with_reducible rfl)
 refine tU 2 HS ?_ (hy := by intro w hSw; (try dsimp only [Nine] at hSw); go_simp; try with_reducible rfl)
 refine tU 3 HS ?_ (hy := by intro w hSw; (try dsimp only [Nine] at hSw); go_simp; try with_reducible rfl)
 refine tU 4 HS ?_ (hy := by intro w hSw; (try dsimp only [Nine] at hSw); go_simp; try with_reducible rfl)
 refine tU 5 HS ?_ (hy := by intro w hSw; (try dsimp only [Nine] at hSw); go_simp; try with_reducible rfl)
 refine tU 6 HS ?_ (hy := by intro w hSw; (try dsimp only [Nine] at hSw); go_simp; try with_reducible rfl)
 refine tU 7 HS ?_ (hy := by intro w hSw; (try dsimp only [Nine] at hSw); go_simp; try with_reducible rfl)
 refine tU 8 HS ?_ (hy := by intro w hSw; (try dsimp only [Nine] at hSw); go_simp; try with_reducible rfl)
 refine tU 9 HS ?_ (hy := by intro w hSw; (try dsimp only [Nine] at hSw); go_simp; try with_reducible rfl)
 refine tO 10 (fun K hK => ?_)
 go_simp
 refine (hend _).mono ?_
 rintro e wv ⟨rfl, hb1⟩
 refine kK hK ⟨(hb1.cell (p := ⟨b, o, none⟩) hbl).trans cX0, (Y.drew.keep (w' := wv) hb1 hbl).nine, y2.drew.kept hb1, b2.drew.trans (hb1.mono (Zl hB2))⟩ (fun HS => ?_)
 clear hK K
 refine tU 11 HS ?_ (hy := by intro w hSw; (try dsimp only [Nine] at hSw); go_simp; try with_reducible rfl)
 refine ⟨by kernel_rfl, ?_⟩
 simp only [List.drop_succ_cons, List.drop_zero]
 go_wp2_with (refine sg_store rfl (.tmp 2) (.tmp 23) rfl rfl [p.seq, .int .i64 (endP p')] rfl HS.2.2.1 rfl rfl rfl ?_)
 refine sg_end1 (by rfl) (by rfl) (sg_put HS.2.2.1 [p.seq, .int .i64 (endP p')]) rfl rfl ?_
 rw [HP.out, HP'.out]
 exact ⟨rfl, HS.2.2.2.grown (sg_grown _ B #[p.seq, .int .i64 (endP p')]) (Zl HS.2.2.1.lt) (fun k hk => by cases hk; exact Nat.le_refl _)⟩
theorem stflight_any (A : Option Addr) (n c : Nat) (l : List Prt) (w : World) (hs : Se w A n c l) :
  Calls Tryz.prog 30 #[.slice A n c] w fun e w' => e = .returned (.int .i64 (flightR l)) ∧ Below w.heap.size w w' := by
 have hl := hs.rd.len
 have m1 := hs.le
 have m2 := hs.max
 have m3 : n ≤ 9223372036854775807 := by unfold maxLen at m2; omega
 clear m1 m2
 obtain ⟨x, hx⟩ : ∃ x, flightR l = x := ⟨_, rfl⟩
 rw [hx]
 have HX := Zh hx
 have HA := Zh hs; have HL := Zh hl
 have hm := stmay_any A n c l w hs
 clear hx hl hs
 go_enter Tryz.func30, Tryz.ntmps30
 cases hk : smayB l with
 | false =>
  have hx := HX.out
  rw [show flightR l = 0 by unfold flightR; rw [if_neg (by rw [hk]; simp)]] at hx
  subst hx
  rw [hk] at hm
  clear HX hk
  go_wp2_with (go_at_call 97; refine hm.mono ?_; rintro e w2 ⟨rfl, hb2⟩)
  go_ret
  exact ⟨rfl, hb2⟩
 | true =>
 rw [hk] at hm
 obtain ⟨hle, hch⟩ := (smay_iff l).1 hk
 have hx := HX.out
 rw [show flightR l = flySum l by unfold flightR; rw [if_pos hk]] at hx
 have HX2 := Zh hx
 have HCH := Zh hch
 have hn5 : n ≤ 500 := by have := HL.out; omega
 clear HX hk hx hch hle
 go_wp2_with (go_at_call 97; refine hm.mono ?_; rintro e w2 ⟨rfl, hb2⟩)
 go_loopw [3, 11] (fun s i wr => ∃ k : Nat, k ≤ n ∧ s = .int .i64 (flySum (l.take k)) ∧ i = .int .i64 (k : Int) ∧ Below w.heap.size w wr) (fun _ i _ => n - (intOf i).toNat)
 case atStart => exact ⟨0, Nat.zero_le _, rfl, rfl, hb2⟩
 case round =>
  obtain ⟨k, hkn, rfl, rfl, hb⟩ := hrel
  by_cases hlt : k < n
  ·obtain ⟨b, o, rfl, hbl, hc⟩ := HA.out.rd.at_ (by omega)
   have X := (prt_at hc hlt).keep hb hbl
   have hbd := flySum_bd HCH.out k (by rw [HL.out]; omega)
   have hfl := flyL_bd (HCH.out k (by rw [HL.out]; omega)).1
   have hsn : flySum (l.take (k + 1)) = flySum (l.take k) + flyL (ge l k) := by rw [take_ge (by rw [HL.out]; omega), flySum_snoc]
   obtain ⟨p, hp⟩ : ∃ p, ge l k = p := ⟨_, rfl⟩
   rw [hp] at X hfl hsn
   have HSN := Zh hsn
   obtain ⟨x0, x1, x2, x3, x4, x5, x6, x7, x8⟩ := X
   obtain ⟨P, hP⟩ : ∃ P, wr.heap.size = P := ⟨_, rfl⟩
   have eP : Bx (wr.alloc (.cells #[p.seq, p.len, p.dsn, p.at_, p.tries, p.came, p.lost, p.total, p.last] 57)) P 57 [p.seq, p.len, p.dsn, p.at_, p.tries, p.came, p.lost, p.total, p.last] := hP ▸ Bx.new wr 57 [p.seq, p.len, p.dsn, p.at_, p.tries, p.came, p.lost, p.total, p.last]
   have hwP : w.heap.size ≤ P := hP ▸ hb.size
   have bP : Below w.heap.size w (wr.alloc (.cells #[p.seq, p.len, p.dsn, p.at_, p.tries, p.came, p.lost, p.total, p.last] 57)) := hb.alloc (hP ▸ hwP) _
   clear hsn hp hc
   obtain ⟨s, hs⟩ : ∃ s, flySum (l.take k) = s := ⟨_, rfl⟩
   rw [hs] at hbd ⊢
   have HS := Zh hs
   clear hs
   have hk0 : (k : Int) < (n : Int) := by omega
   go_upto_region 7 with fail
   clear x0 x1 x2 x3 x4 x5 x6 x7 x8
   try rw [hP]
   clear hP
   generalize wr.alloc (.cells #[p.seq, p.len, p.dsn, p.at_, p.tries, p.came, p.lost, p.total, p.last] 57) = wA at eP bP ⊢
   have c1 := eP.cell 1 rfl; have c5 := eP.cell 5 rfl; have c6 := eP.cell 6 rfl
   cases h5 : p.came with
   | true =>
    rw [h5] at c5
    have hz : flyL p = 0 := by unfold flyL; rw [h5]; rfl
    have HZ := Zh hz; clear hz h5 hfl
    go_wp2_with fail
    go_roundw
    case rel => exact ⟨k + 1, by omega, by rw [HSN.out, HZ.out, HS.out, Int.add_zero], by go_num, bP⟩
    case measure => simp [intOf]; omega
   | false =>
   rw [h5] at c5
   cases h6 : p.lost with
   | true =>
    rw [h6] at c6
    have hz : flyL p = 0 := by unfold flyL; rw [h5, h6]; rfl
    have HZ := Zh hz; clear hz h5 h6 hfl
    go_wp2_with fail
    go_roundw
    case rel => exact ⟨k + 1, by omega, by rw [HSN.out, HZ.out, HS.out, Int.add_zero], by go_num, bP⟩
    case measure => simp [intOf]; omega
   | false =>
    rw [h6] at c6
    have hz : flyL p = p.len := by unfold flyL; rw [h5, h6]; rfl
    rw [hz] at hfl
    have HZ := Zh hz; clear hz h5 h6
    have hs1 : IntKind.i64.wrap (s + p.len) = s + p.len := IntWalk.i64_in _ (by omega)
    go_wp2_with fail
    go_roundw
    case rel => exact ⟨k + 1, by omega, by rw [HSN.out, HZ.out, HS.out], by go_num, bP⟩
    case measure => simp [intOf]; omega
  ·obtain rfl : k = n := by omega
   have hx : flySum (l.take k) = x := by rw [← HX2.out, ← HL.out, List.take_length]
   rw [hx]
   have hd : decide (k < k) = false := Zf (by omega)
   clear hx
   go_wp2_with fail
   go_ret
   exact ⟨rfl, hb⟩
end Go.Proofs.YtbijhkhkigdddaaGreat
namespace Go.Proofs.YtbijhkhkigdddaaGreat.KnuthDiv
theorem test_le {Y yn1 yn0 u u1 q r : Nat} (hY : Y = yn1 * 4294967296 + yn0) (hu : q * yn1 + r = u) (ht : q * yn0 ≤ 4294967296 * r + u1) :
  q * Y ≤ u * 4294967296 + u1 := by
 subst hY
 rw [Nat.mul_add, ← Nat.mul_assoc, ← hu, Nat.add_mul]
 omega
theorem test_gt {Y yn1 yn0 u u1 q r : Nat} (hY : Y = yn1 * 4294967296 + yn0) (hu : q * yn1 + r = u) (ht : 4294967296 * r + u1 < q * yn0) :
  u * 4294967296 + u1 < q * Y := by
 subst hY
 rw [Nat.mul_add, ← Nat.mul_assoc, ← hu, Nat.add_mul]
 omega
def Keeps (Y yn1 u u1 q r : Nat) : Prop := q * yn1 + r = u ∧ (u * 4294967296 + u1) / Y ≤ q
theorem quo_lt {Y u u1 : Nat} (hu : u < Y) (h1 : u1 < 4294967296) : (u * 4294967296 + u1) / Y < 4294967296 := by
 rw [Nat.div_lt_iff_lt_mul (by omega)]
 have : (u + 1) * 4294967296 ≤ Y * 4294967296 := Nat.mul_le_mul_right _ hu
 rw [Nat.mul_comm 4294967296 Y]
 omega
theorem start {Y yn1 yn0 u u1 : Nat} (hY : Y = yn1 * 4294967296 + yn0) (hn : 0 < yn1) (h1 : u1 < 4294967296) : Keeps Y yn1 u u1 (u / yn1) (u % yn1) := by
 refine ⟨by rw [Nat.mul_comm]; exact Nat.div_add_mod u yn1, ?_⟩
 have hYp : 0 < Y := by omega
 rw [Nat.le_div_iff_mul_le hn]
 have h : (u * 4294967296 + u1) / Y * Y ≤ u * 4294967296 + u1 := Nat.div_mul_le_self _ _
 subst hY
 generalize (u * 4294967296 + u1) / (yn1 * 4294967296 + yn0) = k at *
 rw [Nat.mul_add, ← Nat.mul_assoc] at h
 generalize k * yn1 = m at *
 omega
theorem round_big {Y yn1 u u1 q r : Nat} (hk : Keeps Y yn1 u u1 q r) (hu : u < Y) (h1 : u1 < 4294967296) (hq : 4294967296 ≤ q) :
  Keeps Y yn1 u u1 (q - 1) (r + yn1) := by
 obtain ⟨a, b⟩ := hk
 have hl := quo_lt hu h1
 obtain ⟨q', rfl⟩ : ∃ q', q = q' + 1 := ⟨q - 1, by omega⟩
 refine ⟨?_, by simp only [Nat.add_sub_cancel]; omega⟩
 rw [Nat.add_mul] at a
 simp only [Nat.add_sub_cancel]
 omega
theorem round_gt {Y yn1 yn0 u u1 q r : Nat} (hY : Y = yn1 * 4294967296 + yn0) (hk : Keeps Y yn1 u u1 q r) (hu : u < Y) (ht : 4294967296 * r + u1 < q * yn0) :
  Keeps Y yn1 u u1 (q - 1) (r + yn1) := by
 obtain ⟨a, b⟩ := hk
 have hl : (u * 4294967296 + u1) / Y < q := by
  rw [Nat.div_lt_iff_lt_mul (by omega)]
  exact test_gt hY a ht
 have hq0 : 0 < q := Nat.zero_lt_of_lt hl
 obtain ⟨q', rfl⟩ : ∃ q', q = q' + 1 := ⟨q - 1, by omega⟩
 refine ⟨?_, Nat.le_sub_one_of_lt hl⟩
 rw [Nat.add_mul] at a
 simp only [Nat.add_sub_cancel]
 omega
theorem end_test {Y yn1 yn0 u u1 q r : Nat} (hY : Y = yn1 * 4294967296 + yn0) (hk : Keeps Y yn1 u u1 q r) (hu : u < Y) (ht : q * yn0 ≤ 4294967296 * r + u1) :
  q = (u * 4294967296 + u1) / Y := by
 obtain ⟨a, b⟩ := hk
 have h : q ≤ (u * 4294967296 + u1) / Y := by
  rw [Nat.le_div_iff_mul_le (by omega)]
  exact test_le hY a ht
 omega
theorem end_rest {Y yn1 yn0 u u1 q r : Nat} (hY : Y = yn1 * 4294967296 + yn0) (h0 : yn0 < 4294967296) (hk : Keeps Y yn1 u u1 q r) (hu : u < Y) (hq : q ≤ 4294967296) (hr : 4294967296 ≤ r) :
  q = (u * 4294967296 + u1) / Y := by
 refine end_test hY hk hu ?_
 have : q * yn0 ≤ 4294967296 * yn0 := Nat.mul_le_mul_right _ hq
 omega
theorem first_le {Y yn1 yn0 u : Nat} (hY : Y = yn1 * 4294967296 + yn0) (h0 : yn0 < 4294967296) (hn : 2147483648 ≤ yn1) (hu : u < Y) : u / yn1 ≤ 4294967297 := by
 have : u / yn1 < 4294967298 := by
  rw [Nat.div_lt_iff_lt_mul (by omega)]
  omega
 omega
theorem whole {N y S Y u32 u1 u0 q1 q0 u21 B : Nat} (hy : 0 < y) (hs : 0 < S) (hY : Y = y * S) (hN : N * S = (u32 * B + u1) * B + u0)
  (h1 : q1 = (u32 * B + u1) / Y) (h21 : u21 = (u32 * B + u1) - q1 * Y) (h0 : q0 = (u21 * B + u0) / Y) :
  N / y = q1 * B + q0 ∧ (u21 * B + u0 - q0 * Y) / S = N % y := by
 have hYp : 0 < Y := by rw [hY]; exact Nat.mul_pos hy hs
 have a1 : (u32 * B + u1) = q1 * Y + u21 := by
  have : q1 * Y ≤ u32 * B + u1 := by rw [h1]; exact Nat.div_mul_le_self _ _
  omega
 have a0 : (u21 * B + u0) = q0 * Y + (u21 * B + u0) % Y := by
  have := Nat.div_add_mod (u21 * B + u0) Y
  rw [← h0, Nat.mul_comm] at this
  exact this.symm
 have hlt : (u21 * B + u0) % Y < Y := Nat.mod_lt _ hYp
 have hsub : u21 * B + u0 - q0 * Y = (u21 * B + u0) % Y := by omega
 rw [hsub]
 generalize (u21 * B + u0) % Y = r at *
 have hN2 : N * S = (q1 * B + q0) * Y + r := by
  rw [hN, a1, Nat.add_mul (q1 * B) q0 Y, Nat.mul_right_comm q1 B Y, Nat.add_mul (q1 * Y) u21 B]
  omega
 generalize q1 * B + q0 = Q at *
 rw [hY, ← Nat.mul_assoc] at hN2
 have hN3 : N = Q * y + r / S := by
  have h : N * S / S = (Q * y * S + r) / S := by rw [hN2]
  rw [Nat.mul_div_cancel _ hs, Nat.add_comm, Nat.add_mul_div_right _ _ hs] at h
  omega
 have hr : r / S < y := by
  rw [Nat.div_lt_iff_lt_mul hs, ← hY]; exact hlt
 constructor
 ·rw [hN3, Nat.add_comm, Nat.add_mul_div_right _ _ hy, Nat.div_eq_of_lt hr]; omega
 ·rw [hN3, Nat.add_comm, Nat.add_mul_mod_self_right, Nat.mod_eq_of_lt hr]
end Go.Proofs.YtbijhkhkigdddaaGreat.KnuthDiv
namespace Go.Proofs.YtbijhkhkigdddaaGreat
open Go.RowKit
theorem sn_one (w : World) {p q : Int} (hp : W64 p) (hq : W64 q) (t : TypeId) : Ss (w.alloc (.cells #[p, q] t)) (some ⟨w.heap.size, 0, none⟩) 1 1 [(p, q)] :=
 ⟨Nat.le_refl _, by unfold maxLen; omega, (fun e => by cases e), rfl, wide_one hp hq, fun _ => ⟨w.heap.size, 0, rfl, by simp, fun i hi => by
  obtain rfl : i = 0 := by omega
  have h := Bx.new w t [p, q]
  exact ⟨h.cell 0 rfl, h.cell 1 rfl⟩⟩⟩
structure Sn (w : World) (base : Nat) (G : Option Addr) (m d : Nat) (l : List Sp) : Prop where
 ss : Ss w G m d l
 at_ : ∀ b o s, G = some ⟨b, o, s⟩ → base ≤ b
theorem Sn.none (w : World) (base : Nat) : Sn w base .none 0 0 [] := ⟨Ss.none w, fun _ _ _ e => by cases e⟩
theorem Sn.mono {w : World} {base base' : Nat} {G : Option Addr} {m d : Nat} {l : List Sp} (h : Sn w base G m d l) (hb : base' ≤ base) : Sn w base' G m d l := ⟨h.ss, fun b o s e => Zn hb (h.at_ b o s e)⟩
theorem Sn.keep {w w' : World} {base : Nat} {G : Option Addr} {m d : Nat} {l : List Sp} (h : Sn w base G m d l) (hb : Below w.heap.size w w') : Sn w' base G m d l := ⟨h.ss.keep hb, h.at_⟩
theorem Sn.grown {w w' : World} {base B : Nat} {G : Option Addr} {m d : Nat} {l : List Sp} (h : Sn w base G m d l) (hg : w.grownBy w' (some B)) (hB : B < base) : Sn w' base G m d l := by
 refine ⟨⟨h.ss.le, h.ss.max, h.ss.nil, h.ss.rd.len, h.ss.rd.wide, fun h0 => ?_⟩, h.at_⟩
 obtain ⟨b, o, e, hlt, hc⟩ := h.ss.rd.at_ h0
 have hge := h.at_ b o _ e
 have hh := hg.block b hlt (by intro e; cases e; omega)
 refine ⟨b, o, e, Nat.lt_of_lt_of_le hlt hg.size, fun i hi => ?_⟩
 rw [← (hc i hi).1, ← (hc i hi).2]
 exact ⟨World.cell?_of_block (w := w) hh, World.cell?_of_block (w := w) hh⟩
theorem Gots.sn {w : World} {base e : Nat} {v : Value} {n : Nat} {l : List Sp} (h : Gots w base e v n l) : ∃ A c, v = .slice A n c ∧ Sn w base A n c l := by
 obtain ⟨A, c, ev, hs⟩ := h.ss
 subst ev
 refine ⟨A, c, rfl, hs, fun b o s ea => ?_⟩
 subst ea
 rcases h.row.2 with ⟨h1, _⟩ | ⟨g, cap, cur, h1, hg, _⟩
 ·cases h1
 ·cases h1; exact hg
theorem pts_snoc {l : List Sp} {k : Nat} (h : PtsOk l k) (hk : PtOk l k) : PtsOk l (k + 1) := fun i hi => by
 by_cases e : i = k
 ·subst e; exact hk
 ·exact h i (by omega)
theorem of_no {v : Lv} {a : Int} (h : ¬ (lmay v = true ∧ 0 ≤ a ∧ a ≤ 1152921504606846976)) : ofR v a = (0, false) := if_neg h
theorem of_yes {v : Lv} {a : Int} (h : lmay v = true ∧ 0 ≤ a ∧ a ≤ 1152921504606846976) : ofR v a = fst2 (v.l.find? (cnt v.span a)) := if_pos h
theorem info_least : (Tryz.prog.info? 27).map (·.size) = some 3 := by kernel_rfl
theorem least_struct : ∃ fs, Tryz.prog.underlying 27 = some (.struct fs) := ⟨_, Tryz.underlying27⟩
section
variable {W : World} {B : Nat} {t : TypeId} {cs : List Value}
def le_put := @g_put
def le_grown := @g_grown
def le_load := @g_load 27 3 least_struct info_least
theorem le_store {ops : Array Oper} {rest : List Oper} {o : Oper} {a : Act} {Q : Exit → Act → World → Prop} (hgd : o.guard = none) (x y : Operand) (ho : o.op = .store 27 x y) (hx : a.eval x = .pointer (some ⟨B, 0, none⟩))
  (vs : List Value) (hy : a.eval y = .agg vs.toArray) (h : Bx W B t cs) (hl : cs.length = 3) (hv : vs.length = 3) (h1 : vs.all (·.oneCell') = true) (k : wpList Tryz.prog ops Q rest (a.put o.dst undef) (W.setRow B vs.toArray)) : wpList Tryz.prog ops Q (o :: rest) a W :=
 wpList_store_row hgd _ x y ho B vs.toArray hx hy t cs.toArray h (by rw [info_least]; simp [hv]) (by simp [hl, hv]) (by simpa using h1) k
def le_var := @g_var 27 3 least_struct info_least
end
end Go.Proofs.YtbijhkhkigdddaaGreat
