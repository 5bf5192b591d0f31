/- The reference of package sent: Heard as a contract of the call. -/
import Derived.Test.YtnbamacdcggaeaaStRef6
import Derived.Test.YtnbamacdcggaeaaStH
import Derived.Test.YtnbamacdcggaeaaSpRef3
import Derived.OwnWalk
namespace Go.Proofs.Ytnbamacdcggaeaa
open Go.RowKit
set_option linter.unusedVariables false
set_option linter.unusedSimpArgs false

/-- two lists of parts beyond the base, and an error -/
def TellHd (w w' : World) (e : Ending) (x : List Prt × List Prt × Int) : Prop := ∃ G m d G' m' d', e = .returned (.tuple #[.slice G m d, .slice G' m' d', .int .i64 x.2.2]) ∧ Sne w' w.heap.size G m d x.1 ∧ Sne w' w.heap.size G' m' d' x.2.1 ∧ Below w.heap.size w w'
/-- two rows do not share a block -/
def Apart (u v : Value) : Prop := u.ownBlock = none ∨ u.ownBlock ≠ v.ownBlock
theorem Apart.symm {u v : Value} (h : Apart u v) : Apart v u := by
  unfold Apart at *
  rcases h with h | h
  · by_cases k : v.ownBlock = none
    · exact .inl k
    · exact .inr (by rw [h]; exact k)
  · exact .inr (fun e => h e.symm)
/-- what another row's append leaves -/
theorem Apart.step {w : World} {base e : Nat} {u v v' : Value} {n : Nat} {l : List Prt} (h : Apart u v) (hu : Goe w base e u n l) (hv : v'.ownBlock = v.ownBlock ∨ v'.ownBlock = some w.heap.size) : Apart u v' := by
  unfold Apart at *
  rcases hv with hv | hv
  · rw [hv]; exact h
  · rw [hv]
    cases hb : u.ownBlock with
    | none => exact .inl rfl
    | some k => exact .inr (fun e => by have := (hu.row.lt k hb).2; cases e; omega)
theorem Goe.other {w w' : World} {base e : Nat} {u v : Value} {n : Nat} {l : List Prt} (hu : Goe w base e u n l) (h : Apart u v) (hg : w.grownBy w' v.ownBlock) : Goe w' base e u n l := ⟨hu.row.kept hg h, hu.ok⟩

theorem grown_setQ (W : World) (b o : Nat) (v : Value) : W.grownBy (W.setCell ⟨b, o, none⟩ v) (some b) :=
  ⟨rfl, rfl, rfl, (KeepsWalks.setCell W _ v).size, fun k _ hk => Below.heap_setCell _ _ _ k (fun e => hk (by rw [e]))⟩
def NotIn (P : Nat) (v : Value) : Prop := ∀ k, v.ownBlock = some k → k ≠ P
theorem Goe.setBox {w : World} {base e : Nat} {v : Value} {n : Nat} {l : List Prt} (h : Goe w base e v n l) {P : Nat} (hne : NotIn P v) (i : Nat) (u : Value) : Goe (w.setCell ⟨P, i, .none⟩ u) base e v n l := by
  refine ⟨h.row.kept (grown_setQ w P i u) ?_, h.ok⟩
  cases hb : v.ownBlock with
  | none => exact .inl rfl
  | some k => exact .inr (fun e => by cases e; exact hne _ hb rfl)
theorem NotIn.step {P s : Nat} {v v' : Value} (h : NotIn P v) (hP : P < s) (hv : v'.ownBlock = v.ownBlock ∨ v'.ownBlock = some s) : NotIn P v' := fun k hk => by
  rcases hv with hv | hv
  · exact h k (by rw [← hv]; exact hk)
  · rw [hv] at hk; cases hk; omega

set_option maxRecDepth 100000 in
set_option maxHeartbeats 16000000 in
theorem rstheard_any (A : Option Addr) (n c : Nat) (l : List Prt) (got : Int) (A' : Option Addr) (n' c' : Nat) (sk : List Sp) (w : World) (hs : Se w A n c l) (hk : Ss w A' n' c' sk) :
    Calls Try.prog 16 #[.slice A n c, .int .i64 got, .slice A' n' c'] w fun e w' => TellHd w w' e (heardR l got sk) := by
  unfold TellHd
  obtain ⟨B, hB⟩ : ∃ B, w.heap.size = B := ⟨_, rfl⟩
  have hl := hs.rd.len; have hkl := hk.rd.len
  have m1 := hs.le; have m2 := hs.max
  have m3 : n ≤ 9223372036854775807 := by unfold maxLen at m2; omega
  have m4 := hk.le; have m5 := hk.max
  have m6 : n' ≤ 9223372036854775807 := by unfold maxLen at m5; omega
  clear m1 m2 m4 m5
  have hm := rstmay_any A n c l w hs
  obtain ⟨y, hy⟩ : ∃ y, heardR l got sk = y := ⟨_, rfl⟩
  rw [hy]
  have HY := Lib.hid hy
  have HL := Lib.hid hl; have HKL := Lib.hid hkl; have HA := Lib.hid hs; have HK := Lib.hid hk; have HB := Lib.hid hB
  rw [hB]
  clear hy hs hl hk hkl
  go_enter Try.func16, Try.ntmps16
  cases h1 : smayB l with
  | false =>
    have hy := HY.out
    rw [heard_no (fun h => by rw [h1] at h; exact absurd h.1 (by simp))] at hy
    subst hy
    rw [h1] at hm
    clear HY h1
    go_wp2_with (first | (go_at_call 18; refine hm.mono ?_; rintro e w2 ⟨rfl, hb2⟩; have b2 : Below B w w2 := hB ▸ hb2; have hk2 := HK.out.keep hb2) | (go_at_call 38; refine (rmay_any A' n' c' sk _ hk2).mono ?_; rintro e w3 ⟨rfl, hb3⟩; have b3 : Below B w w3 := b2.trans (hb3.mono (by have := b2.size; omega))))
    go_ret3
    exact ⟨none, 0, 0, none, 0, 0, rfl, Sne.none _ _, Sne.none _ _, b3⟩
  | true =>
  rw [h1] at hm
  cases h2 : mayB sk with
  | false =>
    have hy := HY.out
    rw [heard_no (fun h => by rw [h2] at h; exact absurd h.2 (by simp))] at hy
    subst hy
    clear HY h1
    go_wp2_with (first | (go_at_call 18; refine hm.mono ?_; rintro e w2 ⟨rfl, hb2⟩; have b2 : Below B w w2 := hB ▸ hb2; have hk2 := HK.out.keep hb2) | (go_at_call 38; refine (rmay_any A' n' c' sk _ hk2).mono ?_; rintro e w3 ⟨rfl, hb3⟩; have b3 : Below B w w3 := b2.trans (hb3.mono (by have := b2.size; omega))))
    go_ret3
    exact ⟨none, 0, 0, none, 0, 0, rfl, Sne.none _ _, Sne.none _ _, b3⟩
  | true =>
  have hok : smayB l = true ∧ mayB sk = true := ⟨h1, h2⟩
  have HOK := Lib.hid hok
  obtain ⟨hle, hch⟩ := (smay_iff l).1 h1
  have hn5 : n ≤ 500 := by have := HL.out; omega
  have HCH := Lib.hid hch
  clear hok h1 hle hch
  go_upto_region 5 with (first | (go_at_call 18; refine hm.mono ?_; rintro e w2 ⟨rfl, hb2⟩; have b2 : Below B w w2 := hB ▸ hb2; have hk2 := HK.out.keep hb2) | (go_at_call 38; refine (rmay_any A' n' c' sk _ hk2).mono ?_; rintro e w3 ⟨rfl, hb3⟩; have b3 : Below B w w3 := b2.trans (hb3.mono (by have := b2.size; omega))))
  clear hm h2
  have hs3 : Se w3 A n c l := HA.out.keep (by rw [HB.out]; exact b3)
  have hB3 : B ≤ w3.heap.size := by have := b3.size; omega
  obtain ⟨sx, hsx⟩ : ∃ s, spanR l = s := ⟨_, rfl⟩
  have hspan := rstspan_any A n c l w3 hs3
  rw [hsx] at hspan
  have HSX := Lib.hid hsx
  obtain ⟨sfrom, supto⟩ := sx
  dsimp only at hspan
  clear hsx
  go_upto_region 6 with (go_at_call 22; refine hspan.mono ?_; rintro e w4 ⟨rfl, hb4⟩; have b4 : Below B w w4 := b3.trans (hb4.mono hB3); have hB4 : B ≤ w4.heap.size := Nat.le_trans hB3 hb4.size)
  have yS := Bx.new w4 37 [.int .i64 sfrom, .int .i64 supto]
  have b5 : Below B w (w4.alloc (.cells #[.int .i64 sfrom, .int .i64 supto] 37)) := b4.alloc hB4 _
  obtain ⟨SB, hSB⟩ : ∃ S, w4.heap.size = S := ⟨_, rfl⟩
  rw [hSB] at yS hB4 ⊢
  generalize w4.alloc (.cells #[.int .i64 sfrom, .int .i64 supto] 37) = w5 at yS b5 ⊢
  have c0 := yS.cell 0 rfl; have c1 := yS.cell 1 rfl
  have hB5 : B ≤ w5.heap.size := by have := yS.lt; omega
  clear hspan hs3 b2 b3 b4 hb2 hb3 hb4 hk2 hB3
  by_cases hn0 : n = 0
  · have hy := HY.out
    rw [heard_none HOK.out (.inl (by rw [HL.out]; exact hn0))] at hy
    subst hy
    subst hn0
    clear HY
    go_wp2_with fail
    go_ret3
    exact ⟨none, 0, 0, none, 0, 0, rfl, Sne.none _ _, Sne.none _ _, b5⟩
  have d0 : ((n : Int) == 0) = false := by simp; omega
  have d0' : (n == 0) = false := by simpa using hn0
  by_cases hg1 : got < sfrom
  · have d1 : decide (got < sfrom) = true := decide_eq_true hg1
    have hy := HY.out
    rw [heard_none HOK.out (.inr (.inl (by rw [HSX.out]; exact hg1)))] at hy
    subst hy
    clear HY hn0
    go_wp2_with fail
    go_ret3
    exact ⟨none, 0, 0, none, 0, 0, rfl, Sne.none _ _, Sne.none _ _, b5⟩
  have d1 : decide (got < sfrom) = false := decide_eq_false hg1
  by_cases hg2 : supto < got
  · have d2 : decide (supto < got) = true := decide_eq_true hg2
    have hy := HY.out
    rw [heard_none HOK.out (.inr (.inr (.inl (by rw [HSX.out]; exact hg2))))] at hy
    subst hy
    clear HY hn0 hg1
    go_wp2_with fail
    go_ret3
    exact ⟨none, 0, 0, none, 0, 0, rfl, Sne.none _ _, Sne.none _ _, b5⟩
  have d2 : decide (supto < got) = false := decide_eq_false hg2
  have HN0 := Lib.hid hn0; have HG1 := Lib.hid hg1; have HG2 := Lib.hid hg2
  clear hn0 hg1 hg2
  go_wp2_with fail
  go_loopw [12] (fun i wr => ∃ k q : Nat, k ≤ n' ∧ i = .int .i64 (k : Int) ∧ (∀ i, i < k → outP (sfrom, supto) (sp sk i) = false) ∧ wr = w5.drewN q) (fun i _ => n' - (intOf i).toNat)
  case atStart => exact ⟨0, 0, Nat.zero_le _, rfl, fun i hi => absurd hi (by omega), rfl⟩
  case round =>
    obtain ⟨k, q, hkn, rfl, hin, rfl⟩ := hrel
    have HIN := Lib.hid hin; clear hin
    by_cases hlt : k < n'
    · have hk5 : Ss w5 A' n' c' sk := HK.out.keep (by rw [HB.out]; exact b5)
      obtain ⟨b, o, rfl, hbl, hc⟩ := hk5.rd.at_ (by omega)
      obtain ⟨z1, z2⟩ := hc k hlt
      obtain ⟨⟨p, m⟩, hp⟩ : ∃ p, sp sk k = p := ⟨_, rfl⟩
      rw [hp] at z1 z2
      simp only at z1 z2
      have HP := Lib.hid hp
      have hkl2 : k < sk.length := by rw [HKL.out]; exact hlt
      have HKL2 := Lib.hid hkl2
      have hk0 : (k : Int) < (n' : Int) := by omega
      clear hc hk5 hp hkl2
      go_upto_region 11 with fail
      by_cases hx1 : p < sfrom
      · have e1 : decide (p < sfrom) = true := decide_eq_true hx1
        have hy := HY.out
        rw [heard_none HOK.out (.inr (.inr (.inr (by rw [HSX.out]; exact outB_at HKL2.out (by rw [HP.out]; unfold outP; rw [e1]; rfl)))))] at hy
        subst hy
        clear HY
        go_quiet (fail)
        go_wp2_with fail
        go_ret3
        exact ⟨none, 0, 0, none, 0, 0, rfl, Sne.none _ _, Sne.none _ _, below_drewN b5 _⟩
      have e1 : decide (p < sfrom) = false := decide_eq_false hx1
      by_cases hx2 : supto < m
      · have e2 : decide (supto < m) = true := decide_eq_true hx2
        have hy := HY.out
        rw [heard_none HOK.out (.inr (.inr (.inr (by rw [HSX.out]; exact outB_at HKL2.out (by rw [HP.out]; unfold outP; rw [e2]; simp)))))] at hy
        subst hy
        clear HY hx1
        go_quiet (fail)
        go_wp2_with fail
        go_ret3
        exact ⟨none, 0, 0, none, 0, 0, rfl, Sne.none _ _, Sne.none _ _, below_drewN b5 _⟩
      have e2 : decide (supto < m) = false := decide_eq_false hx2
      have ho : outP (sfrom, supto) (sp sk k) = false := by rw [HP.out]; unfold outP; rw [e1, e2]; rfl
      have HO := Lib.hid ho
      clear hx1 hx2 ho
      go_quiet (fail)
      go_wp2_with fail
      go_roundw
      case rel => exact ⟨k + 1, _, by omega, by go_num, (fun i hi => by
        by_cases e : i = k
        · subst e; exact HO.out
        · exact HIN.out i (by omega)), rfl⟩
      case measure => simp [intOf]; omega
    · obtain rfl : k = n' := by omega
      have hd : decide (k < k) = false := decide_eq_false (by omega)
      have hno := heard_ok (l := l) (got := got) (sk := sk) HOK.out (fun h => by
        rw [HSX.out] at h
        rcases h with h | h | h | h
        · exact HN0.out (by rw [← HL.out]; exact h)
        · have := HG1.out; omega
        · have := HG2.out; omega
        · rw [outB_no (by rw [HKL.out]; exact HIN.out)] at h; cases h)
      have hy := HY.out
      rw [hno] at hy
      subst hy
      have b6 := below_drewN b5 q
      have hB6 : B ≤ (w5.drewN q).heap.size := hB5
      clear hno HY d0 d0' d1 d2 c0 c1
      go_wp2_with fail
      generalize w5.drewN q = w6 at b6 hB6 ⊢
      obtain ⟨Z, hZ⟩ : ∃ Z, w6.heap.size = Z := ⟨_, rfl⟩
      have hs6 : Se w6 A n c l := HA.out.keep (by rw [HB.out]; exact b6)
      have hk6 : Ss w6 A' k c' sk := HK.out.keep (by rw [HB.out]; exact b6)
      have HS6 := Lib.hid hs6; have HK6 := Lib.hid hk6; have HZ := Lib.hid hZ
      rw [hZ] at hB6
      clear hs6 hk6 hZ yS b5 hB5 hB4 hSB
      go_loopw [13, 14, 15] (fun s13 s14 i wr => ∃ j N M : Nat, j ≤ n ∧ N ≤ j ∧ M ≤ j ∧ i = .int .i64 (j : Int) ∧ Goe wr Z 24 s13 N (leftL got sk (l.take j)) ∧ Goe wr Z 24 s14 M (toldL got sk (l.take j)) ∧ Apart s13 s14 ∧ Below Z w6 wr) (fun _ _ i _ => n - (intOf i).toNat)
      case atStart => exact ⟨0, 0, 0, Nat.zero_le _, Nat.le_refl _, Nat.le_refl _, rfl, Goe.none _ _ _, Goe.none _ _ _, .inl rfl, Below.refl _ _⟩
      case round =>
        obtain ⟨j, N, M, hjn, hNj, hMj, rfl, hgL, hgT, hap, hb⟩ := hrel
        have hZr : Z ≤ wr.heap.size := by have := hb.size; rw [HZ.out] at this; exact this
        by_cases hlt : j < n
        · have hsr : Se wr A n c l := HS6.out.keep (by rw [HZ.out]; exact hb)
          have hkr : Ss wr A' k c' sk := HK6.out.keep (by rw [HZ.out]; exact hb)
          obtain ⟨b, o, rfl, hbl, hc⟩ := hsr.rd.at_ (by omega)
          have X := prt_at hc hlt
          have hjl : j < l.length := by rw [HL.out]; exact hlt
          have hpk := (HCH.out j hjl).1
          have hpw := HA.out.rd.ok.ge (i := j) hjl
          have htk := take_ge hjl
          have hsL := leftL_snoc got sk (l.take j) (ge l j)
          have hsT := toldL_snoc got sk (l.take j) (ge l j)
          rw [← htk] at hsL hsT
          obtain ⟨p, hp⟩ : ∃ p, ge l j = p := ⟨_, rfl⟩
          rw [hp] at X hpk hpw hsL hsT
          obtain ⟨z0, z1, z2, z3⟩ := ends_bd hpk
          have hs1 : IntKind.i64.wrap (p.seq + p.len) = p.seq + p.len := IntWalk.i64_in _ (by omega)
          have HSL := Lib.hid hsL; have HST := Lib.hid hsT; have HPW := Lib.hid hpw
          obtain ⟨x0, x1, x2, x3, x4, x5, x6, x7, x8⟩ := X
          have hj0 : (j : Int) < (n : Int) := by omega
          have hniL : NotIn wr.heap.size u13 := fun k hk => Nat.ne_of_lt (hgL.row.lt k hk).2
          have hniT : NotIn wr.heap.size u14 := fun k hk => Nat.ne_of_lt (hgT.row.lt k hk).2
          have HGL := Lib.hid hgL; have HGT := Lib.hid hgT; have HAP := Lib.hid hap; have HNL := Lib.hid hniL; have HNT := Lib.hid hniT
          have eP : Bx (wr.alloc (.cells #[.int .i64 p.seq, .int .i64 p.len, .int .i64 p.dsn, .int .i64 p.at_, .int .i64 p.tries, .bool p.came, .bool p.lost, .int .i64 p.total, .int .i64 p.last] 24)) wr.heap.size 24 [.int .i64 p.seq, .int .i64 p.len, .int .i64 p.dsn, .int .i64 p.at_, .int .i64 p.tries, .bool p.came, .bool p.lost, .int .i64 p.total, .int .i64 p.last] := Bx.new wr 24 [.int .i64 p.seq, .int .i64 p.len, .int .i64 p.dsn, .int .i64 p.at_, .int .i64 p.tries, .bool p.came, .bool p.lost, .int .i64 p.total, .int .i64 p.last]
          clear hc hpk hpw hp htk hsL hsT hgL hgT hap hniL hniT hjl
          go_upto_region 19 with fail
          clear x0 x1 x2 x3 x4 x5 x6 x7 x8
          have hgLa := Lib.hid (HGL.out.alloc (.cells #[.int .i64 p.seq, .int .i64 p.len, .int .i64 p.dsn, .int .i64 p.at_, .int .i64 p.tries, .bool p.came, .bool p.lost, .int .i64 p.total, .int .i64 p.last] 24))
          have hgTa := Lib.hid (HGT.out.alloc (.cells #[.int .i64 p.seq, .int .i64 p.len, .int .i64 p.dsn, .int .i64 p.at_, .int .i64 p.tries, .bool p.came, .bool p.lost, .int .i64 p.total, .int .i64 p.last] 24))
          have hka := Lib.hid (hkr.alloc (.cells #[.int .i64 p.seq, .int .i64 p.len, .int .i64 p.dsn, .int .i64 p.at_, .int .i64 p.tries, .bool p.came, .bool p.lost, .int .i64 p.total, .int .i64 p.last] 24))
          have ba : Below Z w6 (wr.alloc (.cells #[.int .i64 p.seq, .int .i64 p.len, .int .i64 p.dsn, .int .i64 p.at_, .int .i64 p.tries, .bool p.came, .bool p.lost, .int .i64 p.total, .int .i64 p.last] 24)) := hb.alloc hZr _
          obtain ⟨P, hP⟩ : ∃ P, wr.heap.size = P := ⟨_, rfl⟩
          have hPs : P < (wr.alloc (.cells #[.int .i64 p.seq, .int .i64 p.len, .int .i64 p.dsn, .int .i64 p.at_, .int .i64 p.tries, .bool p.came, .bool p.lost, .int .i64 p.total, .int .i64 p.last] 24)).heap.size := by rw [← hP]; simp
          rw [hP] at eP hZr HNL HNT ⊢
          generalize wr.alloc (.cells #[.int .i64 p.seq, .int .i64 p.len, .int .i64 p.dsn, .int .i64 p.at_, .int .i64 p.tries, .bool p.came, .bool p.lost, .int .i64 p.total, .int .i64 p.last] 24) = wA at eP hgLa hgTa hka ba hPs ⊢
          clear hsr hkr hbl hb HGL HGT hP
          have c0 := eP.cell 0 rfl; have c1 := eP.cell 1 rfl
          go_upto_region 20 with fail
          clear hs1
          have hhas := rhas_any A' k c' sk p.seq (p.seq + p.len) wA hka.out
          obtain ⟨hz, hhz⟩ : ∃ z, hasB sk p.seq (p.seq + p.len) = z := ⟨_, rfl⟩
          rw [hhz] at hhas
          have hhp : hasP sk p = hz := hhz
          have HHP := Lib.hid hhp
          clear hhz hhp
          go_upto_region 21 with (go_at_call 39; refine hhas.mono ?_; rintro e wB ⟨rfl, hbB⟩)
          have eB := eP.kept hbB
          have hgLb := Lib.hid (hgLa.out.below hbB); have hgTb := Lib.hid (hgTa.out.below hbB)
          have bB : Below Z w6 wB := ba.trans (hbB.mono (by omega))
          have hPB : P < wB.heap.size := Nat.lt_of_lt_of_le hPs hbB.size
          have hZB : Z ≤ wB.heap.size := by omega
          clear eP hgLa hgTa hka ba hPs hhas c0 c1 hbB
          obtain ⟨up, hup⟩ : ∃ u, p.seq + p.len = u := ⟨_, rfl⟩
          rw [hup]
          have hend : endP p = up := hup
          have HEND := Lib.hid hend
          clear hup hend
          cases hcm : p.came with
          | true =>
            have HCM := Lib.hid hcm
            have c5 := eB.cell 5 (v := .bool true) (by rw [← hcm]; rfl)
            clear hcm
            by_cases hle : up ≤ got
            case pos =>
              have dle : decide (up ≤ got) = true := decide_eq_true hle
              have DLE := Lib.hid dle
              clear hle
              cases hz with
              | true =>
                have hTC : toldC got sk p = false := by unfold toldC; rw [HHP.out, HEND.out, DLE.out, HCM.out]; rfl
                have hT2 : toldL got sk (l.take (j + 1)) = toldL got sk (l.take j) ++ [] := by rw [HST.out, hTC]; rfl
                have hL2 : leftL got sk (l.take (j + 1)) = leftL got sk (l.take j) ++ [] := by rw [HSL.out, if_pos (by rw [HEND.out]; exact of_decide_eq_true DLE.out)]
                have HT2 := Lib.hid hT2; have HL2 := Lib.hid hL2; clear hTC hT2 hL2
                go_wp2_with fail
                go_roundw
                case rel => exact ⟨j + 1, N, M, by omega, by omega, by omega, by go_num, by rw [HL2.out, List.append_nil]; exact hgLb.out, by rw [HT2.out, List.append_nil]; exact hgTb.out, HAP.out, bB⟩
                case measure => simp [intOf]; omega
              | false =>
                have hTC : toldC got sk p = false := by unfold toldC; rw [HHP.out, HEND.out, DLE.out, HCM.out]; rfl
                have hT2 : toldL got sk (l.take (j + 1)) = toldL got sk (l.take j) ++ [] := by rw [HST.out, hTC]; rfl
                have hL2 : leftL got sk (l.take (j + 1)) = leftL got sk (l.take j) ++ [] := by rw [HSL.out, if_pos (by rw [HEND.out]; exact of_decide_eq_true DLE.out)]
                have HT2 := Lib.hid hT2; have HL2 := Lib.hid hL2; clear hTC hT2 hL2
                go_wp2_with fail
                go_roundw
                case rel => exact ⟨j + 1, N, M, by omega, by omega, by omega, by go_num, by rw [HL2.out, List.append_nil]; exact hgLb.out, by rw [HT2.out, List.append_nil]; exact hgTb.out, HAP.out, bB⟩
                case measure => simp [intOf]; omega
            case neg =>
              have dle : decide (up ≤ got) = false := decide_eq_false hle
              have DLE := Lib.hid dle
              clear hle
              cases hz with
              | true =>
                have hTC : toldC got sk p = false := by unfold toldC; rw [HHP.out, HEND.out, DLE.out, HCM.out]; rfl
                have hT2 : toldL got sk (l.take (j + 1)) = toldL got sk (l.take j) ++ [] := by rw [HST.out, hTC]; rfl
                have hL2 : leftL got sk (l.take (j + 1)) = leftL got sk (l.take j) ++ [cameP p] := by rw [HSL.out, if_neg (by rw [HEND.out]; exact of_decide_eq_false DLE.out)]; unfold comeP; rw [HHP.out]; rfl
                have HT2 := Lib.hid hT2; have HL2 := Lib.hid hL2; clear hTC hT2 hL2
                have k5 := eB.cell 5 rfl; have k6 := eB.cell 6 rfl; have g5 := eB.free 5; have g6 := eB.free 6
                have eD : Bx ((wB.setCell ⟨P, 5, none⟩ (.bool true)).setCell ⟨P, 6, none⟩ (.bool false)) P 24 [.int .i64 p.seq, .int .i64 p.len, .int .i64 p.dsn, .int .i64 p.at_, .int .i64 p.tries, .bool true, .bool false, .int .i64 p.total, .int .i64 p.last] := (eB.set 5 (.bool true)).set 6 (.bool false)
                have hgLd := Lib.hid ((hgLb.out.setBox HNL.out 5 (.bool true)).setBox HNL.out 6 (.bool false))
                have hgTd := Lib.hid ((hgTb.out.setBox HNT.out 5 (.bool true)).setBox HNT.out 6 (.bool false))
                have bD : Below Z w6 ((wB.setCell ⟨P, 5, none⟩ (.bool true)).setCell ⟨P, 6, none⟩ (.bool false)) := (bB.setCell (p := ⟨P, 5, none⟩) hZr _).setCell (p := ⟨P, 6, none⟩) hZr _
                go_upto_region 27 with fail
                clear k5 k6 g5 g6
                have hPD : P < ((wB.setCell ⟨P, 5, none⟩ (.bool true)).setCell ⟨P, 6, none⟩ (.bool false)).heap.size := eD.lt
                generalize (wB.setCell ⟨P, 5, none⟩ (.bool true)).setCell ⟨P, 6, none⟩ (.bool false) = wD at eD hgLd hgTd bD hPD ⊢
                have hZD : Z ≤ wD.heap.size := by omega
                have HLIT := Lib.hid (show Se (wD.alloc (.cells #[.int .i64 p.seq, .int .i64 p.len, .int .i64 p.dsn, .int .i64 p.at_, .int .i64 p.tries, .bool true, .bool false, .int .i64 p.total, .int .i64 p.last] 24)) (some ⟨wD.heap.size, 0, none⟩) 1 1 [cameP p] from se_one wD (x := cameP p) (cameP_w HPW.out) 24)
                go_wp2_with (first | (refine st_load rfl (.tmp 16) rfl rfl eD rfl ?_) | (at_builtin; refine wpList_appe _ rfl (.tmp 112) (.tmp 114) 22 rfl Z 24 Try.underlying22 (.agg #[.int .i64 0, .int .i64 0, .int .i64 0, .int .i64 0, .int .i64 0, .bool false, .bool false, .int .i64 0, .int .i64 0]) 64 info_prt (by decide) _ N (leftL got sk (l.take j)) rfl (hgLd.out.alloc (.cells #[.int .i64 p.seq, .int .i64 p.len, .int .i64 p.dsn, .int .i64 p.at_, .int .i64 p.tries, .bool true, .bool false, .int .i64 p.total, .int .i64 p.last] 24)) rfl (fun h => by cases h) HLIT.out.rd (by unfold maxLen; omega) (by omega) (by simp; omega) ?_; intro v3 w9 hg3 hgr3 hv3))
                have hszA : (wD.alloc (.cells #[.int .i64 p.seq, .int .i64 p.len, .int .i64 p.dsn, .int .i64 p.at_, .int .i64 p.tries, .bool true, .bool false, .int .i64 p.total, .int .i64 p.last] 24)).heap.size = wD.heap.size + 1 := by simp
                have hgTe := Lib.hid ((hgTd.out.alloc (.cells #[.int .i64 p.seq, .int .i64 p.len, .int .i64 p.dsn, .int .i64 p.at_, .int .i64 p.tries, .bool true, .bool false, .int .i64 p.total, .int .i64 p.last] 24)).other (HAP.out).symm hgr3)
                have hape := Lib.hid (((HAP.out).symm.step (hgTd.out.alloc (.cells #[.int .i64 p.seq, .int .i64 p.len, .int .i64 p.dsn, .int .i64 p.at_, .int .i64 p.tries, .bool true, .bool false, .int .i64 p.total, .int .i64 p.last] 24)) hv3).symm)
                have hgLe := Lib.hid hg3
                have bE : Below Z w6 w9 := (bD.alloc hZD (.cells #[.int .i64 p.seq, .int .i64 p.len, .int .i64 p.dsn, .int .i64 p.at_, .int .i64 p.tries, .bool true, .bool false, .int .i64 p.total, .int .i64 p.last] 24)).grown hgr3 (by rw [hszA]; omega) (fun k hk => (hgLd.out.row.lt k hk).1)
                go_roundw
                case rel => exact ⟨j + 1, N + 1, M, by omega, by omega, by omega, by go_num, by rw [HL2.out]; exact hgLe.out, by rw [HT2.out, List.append_nil]; exact hgTe.out, hape.out, bE⟩
                case measure => simp [intOf]; omega
              | false =>
                have hTC : toldC got sk p = false := by unfold toldC; rw [HHP.out, HEND.out, DLE.out, HCM.out]; rfl
                have hT2 : toldL got sk (l.take (j + 1)) = toldL got sk (l.take j) ++ [] := by rw [HST.out, hTC]; rfl
                have hL2 : leftL got sk (l.take (j + 1)) = leftL got sk (l.take j) ++ [p] := by rw [HSL.out, if_neg (by rw [HEND.out]; exact of_decide_eq_false DLE.out)]; unfold comeP; rw [HHP.out]; rfl
                have HT2 := Lib.hid hT2; have HL2 := Lib.hid hL2; clear hTC hT2 hL2
                go_upto_region 27 with fail
                have HLIT := Lib.hid (show Se (wB.alloc (.cells #[.int .i64 p.seq, .int .i64 p.len, .int .i64 p.dsn, .int .i64 p.at_, .int .i64 p.tries, .bool p.came, .bool p.lost, .int .i64 p.total, .int .i64 p.last] 24)) (some ⟨wB.heap.size, 0, none⟩) 1 1 [p] from se_one wB (x := p) (HPW.out) 24)
                go_wp2_with (first | (refine st_load rfl (.tmp 16) rfl rfl eB rfl ?_) | (at_builtin; refine wpList_appe _ rfl (.tmp 112) (.tmp 114) 22 rfl Z 24 Try.underlying22 (.agg #[.int .i64 0, .int .i64 0, .int .i64 0, .int .i64 0, .int .i64 0, .bool false, .bool false, .int .i64 0, .int .i64 0]) 64 info_prt (by decide) _ N (leftL got sk (l.take j)) rfl (hgLb.out.alloc (.cells #[.int .i64 p.seq, .int .i64 p.len, .int .i64 p.dsn, .int .i64 p.at_, .int .i64 p.tries, .bool p.came, .bool p.lost, .int .i64 p.total, .int .i64 p.last] 24)) rfl (fun h => by cases h) HLIT.out.rd (by unfold maxLen; omega) (by omega) (by simp; omega) ?_; intro v3 w9 hg3 hgr3 hv3))
                have hszA : (wB.alloc (.cells #[.int .i64 p.seq, .int .i64 p.len, .int .i64 p.dsn, .int .i64 p.at_, .int .i64 p.tries, .bool p.came, .bool p.lost, .int .i64 p.total, .int .i64 p.last] 24)).heap.size = wB.heap.size + 1 := by simp
                have hgTe := Lib.hid ((hgTb.out.alloc (.cells #[.int .i64 p.seq, .int .i64 p.len, .int .i64 p.dsn, .int .i64 p.at_, .int .i64 p.tries, .bool p.came, .bool p.lost, .int .i64 p.total, .int .i64 p.last] 24)).other (HAP.out).symm hgr3)
                have hape := Lib.hid (((HAP.out).symm.step (hgTb.out.alloc (.cells #[.int .i64 p.seq, .int .i64 p.len, .int .i64 p.dsn, .int .i64 p.at_, .int .i64 p.tries, .bool p.came, .bool p.lost, .int .i64 p.total, .int .i64 p.last] 24)) hv3).symm)
                have hgLe := Lib.hid hg3
                have bE : Below Z w6 w9 := (bB.alloc hZB (.cells #[.int .i64 p.seq, .int .i64 p.len, .int .i64 p.dsn, .int .i64 p.at_, .int .i64 p.tries, .bool p.came, .bool p.lost, .int .i64 p.total, .int .i64 p.last] 24)).grown hgr3 (by rw [hszA]; omega) (fun k hk => (hgLb.out.row.lt k hk).1)
                go_roundw
                case rel => exact ⟨j + 1, N + 1, M, by omega, by omega, by omega, by go_num, by rw [HL2.out]; exact hgLe.out, by rw [HT2.out, List.append_nil]; exact hgTe.out, hape.out, bE⟩
                case measure => simp [intOf]; omega
          | false =>
            have HCM := Lib.hid hcm
            have c5 := eB.cell 5 (v := .bool false) (by rw [← hcm]; rfl)
            clear hcm
            by_cases hle : up ≤ got
            case pos =>
              have dle : decide (up ≤ got) = true := decide_eq_true hle
              have DLE := Lib.hid dle
              clear hle
              cases hz with
              | true =>
                have hTC : toldC got sk p = true := by unfold toldC; rw [HHP.out, HEND.out, DLE.out, HCM.out]; rfl
                have hT2 : toldL got sk (l.take (j + 1)) = toldL got sk (l.take j) ++ [p] := by rw [HST.out, hTC]; rfl
                have hL2 : leftL got sk (l.take (j + 1)) = leftL got sk (l.take j) ++ [] := by rw [HSL.out, if_pos (by rw [HEND.out]; exact of_decide_eq_true DLE.out)]
                have HT2 := Lib.hid hT2; have HL2 := Lib.hid hL2; clear hTC hT2 hL2
                go_upto_region 22 with fail
                have HLIT := Lib.hid (show Se (wB.alloc (.cells #[.int .i64 p.seq, .int .i64 p.len, .int .i64 p.dsn, .int .i64 p.at_, .int .i64 p.tries, .bool p.came, .bool p.lost, .int .i64 p.total, .int .i64 p.last] 24)) (some ⟨wB.heap.size, 0, none⟩) 1 1 [p] from se_one wB (x := p) HPW.out 24)
                go_upto_region 23 with (first | (refine st_load rfl (.tmp 16) rfl rfl eB rfl ?_) | (at_builtin; refine wpList_appe _ rfl (.tmp 102) (.tmp 104) 22 rfl Z 24 Try.underlying22 (.agg #[.int .i64 0, .int .i64 0, .int .i64 0, .int .i64 0, .int .i64 0, .bool false, .bool false, .int .i64 0, .int .i64 0]) 64 info_prt (by decide) _ M (toldL got sk (l.take j)) rfl (hgTb.out.alloc (.cells #[.int .i64 p.seq, .int .i64 p.len, .int .i64 p.dsn, .int .i64 p.at_, .int .i64 p.tries, .bool p.came, .bool p.lost, .int .i64 p.total, .int .i64 p.last] 24)) rfl (fun h => by cases h) HLIT.out.rd (by unfold maxLen; omega) (by omega) (by simp; omega) ?_; intro v3 w9 hg3 hgr3 hv3))
                have hszA : (wB.alloc (.cells #[.int .i64 p.seq, .int .i64 p.len, .int .i64 p.dsn, .int .i64 p.at_, .int .i64 p.tries, .bool p.came, .bool p.lost, .int .i64 p.total, .int .i64 p.last] 24)).heap.size = wB.heap.size + 1 := by simp
                have eC : Bx w9 P 24 [.int .i64 p.seq, .int .i64 p.len, .int .i64 p.dsn, .int .i64 p.at_, .int .i64 p.tries, .bool p.came, .bool p.lost, .int .i64 p.total, .int .i64 p.last] := (eB.alloc (.cells #[.int .i64 p.seq, .int .i64 p.len, .int .i64 p.dsn, .int .i64 p.at_, .int .i64 p.tries, .bool p.came, .bool p.lost, .int .i64 p.total, .int .i64 p.last] 24)).grown hgr3 (fun h => HNT.out _ h.symm rfl)
                have hgLc := Lib.hid ((hgLb.out.alloc (.cells #[.int .i64 p.seq, .int .i64 p.len, .int .i64 p.dsn, .int .i64 p.at_, .int .i64 p.tries, .bool p.came, .bool p.lost, .int .i64 p.total, .int .i64 p.last] 24)).other HAP.out hgr3)
                have hgTc := Lib.hid hg3
                have hapc := Lib.hid (HAP.out.step (hgLb.out.alloc (.cells #[.int .i64 p.seq, .int .i64 p.len, .int .i64 p.dsn, .int .i64 p.at_, .int .i64 p.tries, .bool p.came, .bool p.lost, .int .i64 p.total, .int .i64 p.last] 24)) hv3)
                have hntc := Lib.hid (HNT.out.step (by rw [hszA]; omega : P < (wB.alloc (.cells #[.int .i64 p.seq, .int .i64 p.len, .int .i64 p.dsn, .int .i64 p.at_, .int .i64 p.tries, .bool p.came, .bool p.lost, .int .i64 p.total, .int .i64 p.last] 24)).heap.size) hv3)
                have bC : Below Z w6 w9 := (bB.alloc hZB (.cells #[.int .i64 p.seq, .int .i64 p.len, .int .i64 p.dsn, .int .i64 p.at_, .int .i64 p.tries, .bool p.came, .bool p.lost, .int .i64 p.total, .int .i64 p.last] 24)).grown hgr3 (by rw [hszA]; omega) (fun k hk => (hgTb.out.row.lt k hk).1)
                have hPC : P < w9.heap.size := eC.lt
                have hZC : Z ≤ w9.heap.size := Nat.le_trans (by omega : Z ≤ (wB.alloc (.cells #[.int .i64 p.seq, .int .i64 p.len, .int .i64 p.dsn, .int .i64 p.at_, .int .i64 p.tries, .bool p.came, .bool p.lost, .int .i64 p.total, .int .i64 p.last] 24)).heap.size) hgr3.size
                clear eB hgLb hgTb HAP HNT bB hPB hZB hg3 hgr3 hv3 HLIT hszA
                go_wp2_with fail
                go_roundw
                case rel => exact ⟨j + 1, N, M + 1, by omega, by omega, by omega, by go_num, by rw [HL2.out, List.append_nil]; exact hgLc.out, by rw [HT2.out]; exact hgTc.out, hapc.out, bC⟩
                case measure => simp [intOf]; omega
              | false =>
                have hTC : toldC got sk p = true := by unfold toldC; rw [HHP.out, HEND.out, DLE.out, HCM.out]; rfl
                have hT2 : toldL got sk (l.take (j + 1)) = toldL got sk (l.take j) ++ [p] := by rw [HST.out, hTC]; rfl
                have hL2 : leftL got sk (l.take (j + 1)) = leftL got sk (l.take j) ++ [] := by rw [HSL.out, if_pos (by rw [HEND.out]; exact of_decide_eq_true DLE.out)]
                have HT2 := Lib.hid hT2; have HL2 := Lib.hid hL2; clear hTC hT2 hL2
                go_upto_region 22 with fail
                have HLIT := Lib.hid (show Se (wB.alloc (.cells #[.int .i64 p.seq, .int .i64 p.len, .int .i64 p.dsn, .int .i64 p.at_, .int .i64 p.tries, .bool p.came, .bool p.lost, .int .i64 p.total, .int .i64 p.last] 24)) (some ⟨wB.heap.size, 0, none⟩) 1 1 [p] from se_one wB (x := p) HPW.out 24)
                go_upto_region 23 with (first | (refine st_load rfl (.tmp 16) rfl rfl eB rfl ?_) | (at_builtin; refine wpList_appe _ rfl (.tmp 102) (.tmp 104) 22 rfl Z 24 Try.underlying22 (.agg #[.int .i64 0, .int .i64 0, .int .i64 0, .int .i64 0, .int .i64 0, .bool false, .bool false, .int .i64 0, .int .i64 0]) 64 info_prt (by decide) _ M (toldL got sk (l.take j)) rfl (hgTb.out.alloc (.cells #[.int .i64 p.seq, .int .i64 p.len, .int .i64 p.dsn, .int .i64 p.at_, .int .i64 p.tries, .bool p.came, .bool p.lost, .int .i64 p.total, .int .i64 p.last] 24)) rfl (fun h => by cases h) HLIT.out.rd (by unfold maxLen; omega) (by omega) (by simp; omega) ?_; intro v3 w9 hg3 hgr3 hv3))
                have hszA : (wB.alloc (.cells #[.int .i64 p.seq, .int .i64 p.len, .int .i64 p.dsn, .int .i64 p.at_, .int .i64 p.tries, .bool p.came, .bool p.lost, .int .i64 p.total, .int .i64 p.last] 24)).heap.size = wB.heap.size + 1 := by simp
                have eC : Bx w9 P 24 [.int .i64 p.seq, .int .i64 p.len, .int .i64 p.dsn, .int .i64 p.at_, .int .i64 p.tries, .bool p.came, .bool p.lost, .int .i64 p.total, .int .i64 p.last] := (eB.alloc (.cells #[.int .i64 p.seq, .int .i64 p.len, .int .i64 p.dsn, .int .i64 p.at_, .int .i64 p.tries, .bool p.came, .bool p.lost, .int .i64 p.total, .int .i64 p.last] 24)).grown hgr3 (fun h => HNT.out _ h.symm rfl)
                have hgLc := Lib.hid ((hgLb.out.alloc (.cells #[.int .i64 p.seq, .int .i64 p.len, .int .i64 p.dsn, .int .i64 p.at_, .int .i64 p.tries, .bool p.came, .bool p.lost, .int .i64 p.total, .int .i64 p.last] 24)).other HAP.out hgr3)
                have hgTc := Lib.hid hg3
                have hapc := Lib.hid (HAP.out.step (hgLb.out.alloc (.cells #[.int .i64 p.seq, .int .i64 p.len, .int .i64 p.dsn, .int .i64 p.at_, .int .i64 p.tries, .bool p.came, .bool p.lost, .int .i64 p.total, .int .i64 p.last] 24)) hv3)
                have hntc := Lib.hid (HNT.out.step (by rw [hszA]; omega : P < (wB.alloc (.cells #[.int .i64 p.seq, .int .i64 p.len, .int .i64 p.dsn, .int .i64 p.at_, .int .i64 p.tries, .bool p.came, .bool p.lost, .int .i64 p.total, .int .i64 p.last] 24)).heap.size) hv3)
                have bC : Below Z w6 w9 := (bB.alloc hZB (.cells #[.int .i64 p.seq, .int .i64 p.len, .int .i64 p.dsn, .int .i64 p.at_, .int .i64 p.tries, .bool p.came, .bool p.lost, .int .i64 p.total, .int .i64 p.last] 24)).grown hgr3 (by rw [hszA]; omega) (fun k hk => (hgTb.out.row.lt k hk).1)
                have hPC : P < w9.heap.size := eC.lt
                have hZC : Z ≤ w9.heap.size := Nat.le_trans (by omega : Z ≤ (wB.alloc (.cells #[.int .i64 p.seq, .int .i64 p.len, .int .i64 p.dsn, .int .i64 p.at_, .int .i64 p.tries, .bool p.came, .bool p.lost, .int .i64 p.total, .int .i64 p.last] 24)).heap.size) hgr3.size
                clear eB hgLb hgTb HAP HNT bB hPB hZB hg3 hgr3 hv3 HLIT hszA
                go_wp2_with fail
                go_roundw
                case rel => exact ⟨j + 1, N, M + 1, by omega, by omega, by omega, by go_num, by rw [HL2.out, List.append_nil]; exact hgLc.out, by rw [HT2.out]; exact hgTc.out, hapc.out, bC⟩
                case measure => simp [intOf]; omega
            case neg =>
              have dle : decide (up ≤ got) = false := decide_eq_false hle
              have DLE := Lib.hid dle
              clear hle
              cases hz with
              | true =>
                have hTC : toldC got sk p = true := by unfold toldC; rw [HHP.out, HEND.out, DLE.out, HCM.out]; rfl
                have hT2 : toldL got sk (l.take (j + 1)) = toldL got sk (l.take j) ++ [p] := by rw [HST.out, hTC]; rfl
                have hL2 : leftL got sk (l.take (j + 1)) = leftL got sk (l.take j) ++ [cameP p] := by rw [HSL.out, if_neg (by rw [HEND.out]; exact of_decide_eq_false DLE.out)]; unfold comeP; rw [HHP.out]; rfl
                have HT2 := Lib.hid hT2; have HL2 := Lib.hid hL2; clear hTC hT2 hL2
                go_upto_region 22 with fail
                have HLIT := Lib.hid (show Se (wB.alloc (.cells #[.int .i64 p.seq, .int .i64 p.len, .int .i64 p.dsn, .int .i64 p.at_, .int .i64 p.tries, .bool p.came, .bool p.lost, .int .i64 p.total, .int .i64 p.last] 24)) (some ⟨wB.heap.size, 0, none⟩) 1 1 [p] from se_one wB (x := p) HPW.out 24)
                go_upto_region 23 with (first | (refine st_load rfl (.tmp 16) rfl rfl eB rfl ?_) | (at_builtin; refine wpList_appe _ rfl (.tmp 102) (.tmp 104) 22 rfl Z 24 Try.underlying22 (.agg #[.int .i64 0, .int .i64 0, .int .i64 0, .int .i64 0, .int .i64 0, .bool false, .bool false, .int .i64 0, .int .i64 0]) 64 info_prt (by decide) _ M (toldL got sk (l.take j)) rfl (hgTb.out.alloc (.cells #[.int .i64 p.seq, .int .i64 p.len, .int .i64 p.dsn, .int .i64 p.at_, .int .i64 p.tries, .bool p.came, .bool p.lost, .int .i64 p.total, .int .i64 p.last] 24)) rfl (fun h => by cases h) HLIT.out.rd (by unfold maxLen; omega) (by omega) (by simp; omega) ?_; intro v3 w9 hg3 hgr3 hv3))
                have hszA : (wB.alloc (.cells #[.int .i64 p.seq, .int .i64 p.len, .int .i64 p.dsn, .int .i64 p.at_, .int .i64 p.tries, .bool p.came, .bool p.lost, .int .i64 p.total, .int .i64 p.last] 24)).heap.size = wB.heap.size + 1 := by simp
                have eC : Bx w9 P 24 [.int .i64 p.seq, .int .i64 p.len, .int .i64 p.dsn, .int .i64 p.at_, .int .i64 p.tries, .bool p.came, .bool p.lost, .int .i64 p.total, .int .i64 p.last] := (eB.alloc (.cells #[.int .i64 p.seq, .int .i64 p.len, .int .i64 p.dsn, .int .i64 p.at_, .int .i64 p.tries, .bool p.came, .bool p.lost, .int .i64 p.total, .int .i64 p.last] 24)).grown hgr3 (fun h => HNT.out _ h.symm rfl)
                have hgLc := Lib.hid ((hgLb.out.alloc (.cells #[.int .i64 p.seq, .int .i64 p.len, .int .i64 p.dsn, .int .i64 p.at_, .int .i64 p.tries, .bool p.came, .bool p.lost, .int .i64 p.total, .int .i64 p.last] 24)).other HAP.out hgr3)
                have hgTc := Lib.hid hg3
                have hapc := Lib.hid (HAP.out.step (hgLb.out.alloc (.cells #[.int .i64 p.seq, .int .i64 p.len, .int .i64 p.dsn, .int .i64 p.at_, .int .i64 p.tries, .bool p.came, .bool p.lost, .int .i64 p.total, .int .i64 p.last] 24)) hv3)
                have hntc := Lib.hid (HNT.out.step (by rw [hszA]; omega : P < (wB.alloc (.cells #[.int .i64 p.seq, .int .i64 p.len, .int .i64 p.dsn, .int .i64 p.at_, .int .i64 p.tries, .bool p.came, .bool p.lost, .int .i64 p.total, .int .i64 p.last] 24)).heap.size) hv3)
                have bC : Below Z w6 w9 := (bB.alloc hZB (.cells #[.int .i64 p.seq, .int .i64 p.len, .int .i64 p.dsn, .int .i64 p.at_, .int .i64 p.tries, .bool p.came, .bool p.lost, .int .i64 p.total, .int .i64 p.last] 24)).grown hgr3 (by rw [hszA]; omega) (fun k hk => (hgTb.out.row.lt k hk).1)
                have hPC : P < w9.heap.size := eC.lt
                have hZC : Z ≤ w9.heap.size := Nat.le_trans (by omega : Z ≤ (wB.alloc (.cells #[.int .i64 p.seq, .int .i64 p.len, .int .i64 p.dsn, .int .i64 p.at_, .int .i64 p.tries, .bool p.came, .bool p.lost, .int .i64 p.total, .int .i64 p.last] 24)).heap.size) hgr3.size
                clear eB hgLb hgTb HAP HNT bB hPB hZB hg3 hgr3 hv3 HLIT hszA
                have k5 := eC.cell 5 rfl; have k6 := eC.cell 6 rfl; have g5 := eC.free 5; have g6 := eC.free 6
                have eD : Bx ((w9.setCell ⟨P, 5, none⟩ (.bool true)).setCell ⟨P, 6, none⟩ (.bool false)) P 24 [.int .i64 p.seq, .int .i64 p.len, .int .i64 p.dsn, .int .i64 p.at_, .int .i64 p.tries, .bool true, .bool false, .int .i64 p.total, .int .i64 p.last] := (eC.set 5 (.bool true)).set 6 (.bool false)
                have hgLd := Lib.hid ((hgLc.out.setBox HNL.out 5 (.bool true)).setBox HNL.out 6 (.bool false))
                have hgTd := Lib.hid ((hgTc.out.setBox hntc.out 5 (.bool true)).setBox hntc.out 6 (.bool false))
                have bD : Below Z w6 ((w9.setCell ⟨P, 5, none⟩ (.bool true)).setCell ⟨P, 6, none⟩ (.bool false)) := (bC.setCell (p := ⟨P, 5, none⟩) hZr _).setCell (p := ⟨P, 6, none⟩) hZr _
                go_upto_region 27 with fail
                clear k5 k6 g5 g6
                have hPD : P < ((w9.setCell ⟨P, 5, none⟩ (.bool true)).setCell ⟨P, 6, none⟩ (.bool false)).heap.size := eD.lt
                generalize (w9.setCell ⟨P, 5, none⟩ (.bool true)).setCell ⟨P, 6, none⟩ (.bool false) = wD at eD hgLd hgTd bD hPD ⊢
                have hZD : Z ≤ wD.heap.size := by omega
                have HLIT := Lib.hid (show Se (wD.alloc (.cells #[.int .i64 p.seq, .int .i64 p.len, .int .i64 p.dsn, .int .i64 p.at_, .int .i64 p.tries, .bool true, .bool false, .int .i64 p.total, .int .i64 p.last] 24)) (some ⟨wD.heap.size, 0, none⟩) 1 1 [cameP p] from se_one wD (x := cameP p) (cameP_w HPW.out) 24)
                go_wp2_with (first | (refine st_load rfl (.tmp 16) rfl rfl eD rfl ?_) | (at_builtin; refine wpList_appe _ rfl (.tmp 112) (.tmp 114) 22 rfl Z 24 Try.underlying22 (.agg #[.int .i64 0, .int .i64 0, .int .i64 0, .int .i64 0, .int .i64 0, .bool false, .bool false, .int .i64 0, .int .i64 0]) 64 info_prt (by decide) _ N (leftL got sk (l.take j)) rfl (hgLd.out.alloc (.cells #[.int .i64 p.seq, .int .i64 p.len, .int .i64 p.dsn, .int .i64 p.at_, .int .i64 p.tries, .bool true, .bool false, .int .i64 p.total, .int .i64 p.last] 24)) rfl (fun h => by cases h) HLIT.out.rd (by unfold maxLen; omega) (by omega) (by simp; omega) ?_; intro v3 w9 hg3 hgr3 hv3))
                have hszA : (wD.alloc (.cells #[.int .i64 p.seq, .int .i64 p.len, .int .i64 p.dsn, .int .i64 p.at_, .int .i64 p.tries, .bool true, .bool false, .int .i64 p.total, .int .i64 p.last] 24)).heap.size = wD.heap.size + 1 := by simp
                have hgTe := Lib.hid ((hgTd.out.alloc (.cells #[.int .i64 p.seq, .int .i64 p.len, .int .i64 p.dsn, .int .i64 p.at_, .int .i64 p.tries, .bool true, .bool false, .int .i64 p.total, .int .i64 p.last] 24)).other (hapc.out).symm hgr3)
                have hape := Lib.hid (((hapc.out).symm.step (hgTd.out.alloc (.cells #[.int .i64 p.seq, .int .i64 p.len, .int .i64 p.dsn, .int .i64 p.at_, .int .i64 p.tries, .bool true, .bool false, .int .i64 p.total, .int .i64 p.last] 24)) hv3).symm)
                have hgLe := Lib.hid hg3
                have bE : Below Z w6 w9 := (bD.alloc hZD (.cells #[.int .i64 p.seq, .int .i64 p.len, .int .i64 p.dsn, .int .i64 p.at_, .int .i64 p.tries, .bool true, .bool false, .int .i64 p.total, .int .i64 p.last] 24)).grown hgr3 (by rw [hszA]; omega) (fun k hk => (hgLd.out.row.lt k hk).1)
                go_roundw
                case rel => exact ⟨j + 1, N + 1, M + 1, by omega, by omega, by omega, by go_num, by rw [HL2.out]; exact hgLe.out, by rw [HT2.out]; exact hgTe.out, hape.out, bE⟩
                case measure => simp [intOf]; omega
              | false =>
                have hTC : toldC got sk p = false := by unfold toldC; rw [HHP.out, HEND.out, DLE.out, HCM.out]; rfl
                have hT2 : toldL got sk (l.take (j + 1)) = toldL got sk (l.take j) ++ [] := by rw [HST.out, hTC]; rfl
                have hL2 : leftL got sk (l.take (j + 1)) = leftL got sk (l.take j) ++ [p] := by rw [HSL.out, if_neg (by rw [HEND.out]; exact of_decide_eq_false DLE.out)]; unfold comeP; rw [HHP.out]; rfl
                have HT2 := Lib.hid hT2; have HL2 := Lib.hid hL2; clear hTC hT2 hL2
                go_upto_region 27 with fail
                have HLIT := Lib.hid (show Se (wB.alloc (.cells #[.int .i64 p.seq, .int .i64 p.len, .int .i64 p.dsn, .int .i64 p.at_, .int .i64 p.tries, .bool p.came, .bool p.lost, .int .i64 p.total, .int .i64 p.last] 24)) (some ⟨wB.heap.size, 0, none⟩) 1 1 [p] from se_one wB (x := p) (HPW.out) 24)
                go_wp2_with (first | (refine st_load rfl (.tmp 16) rfl rfl eB rfl ?_) | (at_builtin; refine wpList_appe _ rfl (.tmp 112) (.tmp 114) 22 rfl Z 24 Try.underlying22 (.agg #[.int .i64 0, .int .i64 0, .int .i64 0, .int .i64 0, .int .i64 0, .bool false, .bool false, .int .i64 0, .int .i64 0]) 64 info_prt (by decide) _ N (leftL got sk (l.take j)) rfl (hgLb.out.alloc (.cells #[.int .i64 p.seq, .int .i64 p.len, .int .i64 p.dsn, .int .i64 p.at_, .int .i64 p.tries, .bool p.came, .bool p.lost, .int .i64 p.total, .int .i64 p.last] 24)) rfl (fun h => by cases h) HLIT.out.rd (by unfold maxLen; omega) (by omega) (by simp; omega) ?_; intro v3 w9 hg3 hgr3 hv3))
                have hszA : (wB.alloc (.cells #[.int .i64 p.seq, .int .i64 p.len, .int .i64 p.dsn, .int .i64 p.at_, .int .i64 p.tries, .bool p.came, .bool p.lost, .int .i64 p.total, .int .i64 p.last] 24)).heap.size = wB.heap.size + 1 := by simp
                have hgTe := Lib.hid ((hgTb.out.alloc (.cells #[.int .i64 p.seq, .int .i64 p.len, .int .i64 p.dsn, .int .i64 p.at_, .int .i64 p.tries, .bool p.came, .bool p.lost, .int .i64 p.total, .int .i64 p.last] 24)).other (HAP.out).symm hgr3)
                have hape := Lib.hid (((HAP.out).symm.step (hgTb.out.alloc (.cells #[.int .i64 p.seq, .int .i64 p.len, .int .i64 p.dsn, .int .i64 p.at_, .int .i64 p.tries, .bool p.came, .bool p.lost, .int .i64 p.total, .int .i64 p.last] 24)) hv3).symm)
                have hgLe := Lib.hid hg3
                have bE : Below Z w6 w9 := (bB.alloc hZB (.cells #[.int .i64 p.seq, .int .i64 p.len, .int .i64 p.dsn, .int .i64 p.at_, .int .i64 p.tries, .bool p.came, .bool p.lost, .int .i64 p.total, .int .i64 p.last] 24)).grown hgr3 (by rw [hszA]; omega) (fun k hk => (hgLb.out.row.lt k hk).1)
                go_roundw
                case rel => exact ⟨j + 1, N + 1, M, by omega, by omega, by omega, by go_num, by rw [HL2.out]; exact hgLe.out, by rw [HT2.out, List.append_nil]; exact hgTe.out, hape.out, bE⟩
                case measure => simp [intOf]; omega
        · obtain rfl : j = n := by omega
          have hfl : l.take j = l := by rw [← HL.out, List.take_length]
          rw [hfl] at hgL hgT
          have hd : decide (j < j) = false := decide_eq_false (by omega)
          obtain ⟨G, d, rfl, hsn⟩ := hgL.sne
          obtain ⟨G', d', rfl, hsn'⟩ := hgT.sne
          have HSN := Lib.hid hsn; have HSN' := Lib.hid hsn'
          clear hgL hgT hap hfl hsn hsn'
          go_wp2_with fail
          go_ret3
          exact ⟨G, N, d, G', M, d', rfl, HSN.out.mono hB6, HSN'.out.mono hB6, b6.trans (hb.mono hB6)⟩
end Go.Proofs.Ytnbamacdcggaeaa
