/- The reference of package group: Alike, Add as contracts of the calls. -/
import Derived.Test.YtbaaglgoodckmaaGrRef1
import Derived.Test.YtbaaglgoodckmaaSni
import Derived.WalkKit
import Derived.WalkSpells
import Derived.WalkSmall
import Derived.Lib.Hide
import Derived.Below
import Derived.Outline
import Derived.OrdersHeld
import Derived.Deep.QuietTactic
import Derived.BigQuiet
import Derived.IntWalk
import Derived.Deep.DeepCutAuto
import Derived.Deep.AppendLies
namespace Go.Proofs.Ytbaaglgoodckmaa
open Go.RowKit
set_option linter.unusedVariables false
set_option linter.unusedSimpArgs false

set_option maxRecDepth 100000 in
set_option maxHeartbeats 8000000 in
theorem rgalike_any (A : Option Addr) (na ca : Nat) (a : List Int) (A2 : Option Addr) (nb cb : Nat) (b : List Int) (w : World) (hs : Si w A na ca a) (ht : Si w A2 nb cb b) : Calls Try.prog 16 #[.slice A na ca, .slice A2 nb cb] w fun e w' => e = .returned (.bool (alikeG a b)) ∧ Below w.heap.size w w' := by
  have hla := hs.rd.len; have hlb := ht.rd.len
  have m1 := hs.le; have m2 := hs.max; have m3 := ht.le; have m4 := ht.max
  unfold maxLen at m2 m4
  obtain ⟨q, hq⟩ : ∃ q, alikeG a b = q := ⟨_, rfl⟩
  rw [hq]
  have HQ := Lib.hid hq; have HLA := Lib.hid hla; have HLB := Lib.hid hlb; have HS := Lib.hid hs; have HT := Lib.hid ht
  clear hq hla hlb hs ht
  obtain ⟨xa, hxa⟩ : ∃ x, mayG a = x := ⟨_, rfl⟩
  obtain ⟨xb, hxb⟩ : ∃ x, mayG b = x := ⟨_, rfl⟩
  have XA := Lib.hid hxa; have XB := Lib.hid hxb
  clear hxa hxb
  cases xa with
  | false =>
    have hF : q = false := by rw [← HQ.out]; exact Bool.eq_false_iff.2 (fun h => by have h1 := ((alike_iff a b).1 h).1; rw [XA.out] at h1; cases h1)
    subst hF
    go_enter Try.func16, Try.ntmps16
    go_wp2_with fail
    refine (rgmay_any A na ca a _ HS.out).mono ?_
    rintro e wx ⟨rfl, rfl⟩
    rw [XA.out]
    go_wp2_with fail
    refine (rgmay_any A2 nb cb b _ HT.out).mono ?_
    rintro e wx ⟨rfl, rfl⟩
    rw [XB.out]
    go_wp2_with fail
    go_ret
    exact ⟨rfl, Below.refl _ _⟩
  | true =>
  cases xb with
  | false =>
    have hF : q = false := by rw [← HQ.out]; exact Bool.eq_false_iff.2 (fun h => by have h1 := ((alike_iff a b).1 h).2.1; rw [XB.out] at h1; cases h1)
    subst hF
    go_enter Try.func16, Try.ntmps16
    go_wp2_with fail
    refine (rgmay_any A na ca a _ HS.out).mono ?_
    rintro e wx ⟨rfl, rfl⟩
    rw [XA.out]
    go_wp2_with fail
    refine (rgmay_any A2 nb cb b _ HT.out).mono ?_
    rintro e wx ⟨rfl, rfl⟩
    rw [XB.out]
    go_wp2_with fail
    go_ret
    exact ⟨rfl, Below.refl _ _⟩
  | true =>
  by_cases c0 : na < 4
  case pos =>
    have d0 : decide (na < 4) = true := decide_eq_true c0
    have d0' : decide ((na : Int) < 4) = true := decide_eq_true (by omega)
    have hF : q = false := by rw [← HQ.out]; exact Bool.eq_false_iff.2 (fun h => by have h1 := ((alike_iff a b).1 h).2.2.1; rw [HLA.out] at h1; omega)
    subst hF
    go_enter Try.func16, Try.ntmps16
    go_wp2_with fail
    refine (rgmay_any A na ca a _ HS.out).mono ?_
    rintro e wx ⟨rfl, rfl⟩
    rw [XA.out]
    go_wp2_with fail
    refine (rgmay_any A2 nb cb b _ HT.out).mono ?_
    rintro e wx ⟨rfl, rfl⟩
    rw [XB.out]
    go_wp2_with fail
    go_ret
    exact ⟨rfl, Below.refl _ _⟩
  case neg =>
  have d0 : decide (na < 4) = false := decide_eq_false c0
  have d0' : decide ((na : Int) < 4) = false := decide_eq_false (by omega)
  by_cases c1 : nb < 4
  case pos =>
    have d1 : decide (nb < 4) = true := decide_eq_true c1
    have d1' : decide ((nb : Int) < 4) = true := decide_eq_true (by omega)
    have hF : q = false := by rw [← HQ.out]; exact Bool.eq_false_iff.2 (fun h => by have h1 := ((alike_iff a b).1 h).2.2.2.1; rw [HLB.out] at h1; omega)
    subst hF
    go_enter Try.func16, Try.ntmps16
    go_wp2_with fail
    refine (rgmay_any A na ca a _ HS.out).mono ?_
    rintro e wx ⟨rfl, rfl⟩
    rw [XA.out]
    go_wp2_with fail
    refine (rgmay_any A2 nb cb b _ HT.out).mono ?_
    rintro e wx ⟨rfl, rfl⟩
    rw [XB.out]
    go_wp2_with fail
    go_ret
    exact ⟨rfl, Below.refl _ _⟩
  case neg =>
  have d1 : decide (nb < 4) = false := decide_eq_false c1
  have d1' : decide ((nb : Int) < 4) = false := decide_eq_false (by omega)
  by_cases hlt : nb < na
  case pos =>
    have hmin : min a.length b.length = nb := by rw [HLA.out, HLB.out]; omega
    have dn : decide (nb < na) = true := by simp; omega
    have dn' : decide ((nb : Int) < (na : Int)) = true := by simp; omega
    have h16 : nb ≤ 16 := by have h1 := ((mayG_iff a).1 XA.out).2; have h2 := ((mayG_iff b).1 XB.out).2; rw [HLA.out] at h1; rw [HLB.out] at h2; omega
    have hq := alike_iff a b
    rw [HQ.out, hmin] at hq
    have pb := prod_bd XA.out XB.out h16 nb
    have p1 := fun w hs ht => rgprod_any A na ca a A2 nb cb b nb w hs ht XA.out XB.out (by omega) (by omega)
    have p2 := fun w hs ht => rgprod_any A na ca a A na ca a nb w hs ht XA.out XA.out (by omega) (by omega)
    have p3 := fun w hs ht => rgprod_any A2 nb cb b A2 nb cb b nb w hs ht XB.out XB.out (by omega) (by omega)
    rw [show prodTo a b nb (sumTo a nb nb) (sumTo b nb nb) nb = prodG a b nb from rfl] at pb
    obtain ⟨P, hP⟩ : ∃ v, prodG a b nb = v := ⟨_, rfl⟩
    obtain ⟨PA, hPA⟩ : ∃ v, prodG a a nb = v := ⟨_, rfl⟩
    obtain ⟨PB, hPB⟩ : ∃ v, prodG b b nb = v := ⟨_, rfl⟩
    rw [hP] at hq pb p1
    rw [hPA] at hq p2
    rw [hPB] at hq p3
    have i1 : IntKind.i64.wrap (2 * P) = 2 * P := IntWalk.i64_in _ (by omega)
    have hq2 : q = true ↔ 0 < P ∧ PA ≤ 2 * P ∧ PB ≤ 2 * P := by
      rw [hq]
      exact ⟨fun h => h.2.2.2.2, fun h => ⟨XA.out, XB.out, by rw [HLA.out]; omega, by rw [HLB.out]; omega, h⟩⟩
    have HQ2 := Lib.hid hq2
    clear hq hq2 hP hPA hPB pb
    go_enter Try.func16, Try.ntmps16
    go_wp2_with fail
    refine (rgmay_any A na ca a _ HS.out).mono ?_
    rintro e wx ⟨rfl, rfl⟩
    rw [XA.out]
    go_wp2_with fail
    refine (rgmay_any A2 nb cb b _ HT.out).mono ?_
    rintro e wx ⟨rfl, rfl⟩
    rw [XB.out]
    go_wp2_with fail
    refine (p1 _ HS.out HT.out).mono ?_
    rintro e w3 ⟨rfl, hb3⟩
    have s3 := HS.out.keep hb3; have t3 := HT.out.keep hb3
    by_cases g0 : 0 < P
    case neg =>
      have e0 : decide (0 < P) = false := decide_eq_false g0
      have hF : q = false := Bool.eq_false_iff.2 (fun h => g0 (HQ2.out.1 h).1)
      subst hF
      go_wp2_with fail
      go_ret
      exact ⟨rfl, hb3⟩
    case pos =>
    have e0 : decide (0 < P) = true := decide_eq_true g0
    go_wp2_with fail
    refine (p2 _ s3 s3).mono ?_
    rintro e w4 ⟨rfl, hb4⟩
    have t4 := t3.keep hb4
    have b4 := hb3.trans (hb4.mono hb3.size)
    by_cases g1 : PA ≤ 2 * P
    case neg =>
      have e1 : decide (PA ≤ 2 * P) = false := decide_eq_false g1
      have hF : q = false := Bool.eq_false_iff.2 (fun h => g1 (HQ2.out.1 h).2.1)
      subst hF
      go_wp2_with fail
      go_ret
      exact ⟨rfl, b4⟩
    case pos =>
    have e1 : decide (PA ≤ 2 * P) = true := decide_eq_true g1
    go_wp2_with fail
    refine (p3 _ t4 t4).mono ?_
    rintro e w5 ⟨rfl, hb5⟩
    have b5 := b4.trans (hb5.mono b4.size)
    by_cases g2 : PB ≤ 2 * P
    case neg =>
      have e2 : decide (PB ≤ 2 * P) = false := decide_eq_false g2
      have hF : q = false := Bool.eq_false_iff.2 (fun h => g2 (HQ2.out.1 h).2.2)
      subst hF
      go_wp2_with fail
      go_ret
      exact ⟨rfl, b5⟩
    case pos =>
    have e2 : decide (PB ≤ 2 * P) = true := decide_eq_true g2
    have hT : q = true := HQ2.out.2 ⟨g0, g1, g2⟩
    subst hT
    go_wp2_with fail
    go_ret
    exact ⟨rfl, b5⟩
  case neg =>
  have hmin : min a.length b.length = na := by rw [HLA.out, HLB.out]; omega
  have dn : decide (nb < na) = false := by simp; omega
  have dn' : decide ((nb : Int) < (na : Int)) = false := by simp; omega
  have h16 : na ≤ 16 := by have h1 := ((mayG_iff a).1 XA.out).2; have h2 := ((mayG_iff b).1 XB.out).2; rw [HLA.out] at h1; rw [HLB.out] at h2; omega
  have hq := alike_iff a b
  rw [HQ.out, hmin] at hq
  have pb := prod_bd XA.out XB.out h16 na
  have p1 := fun w hs ht => rgprod_any A na ca a A2 nb cb b na w hs ht XA.out XB.out (by omega) (by omega)
  have p2 := fun w hs ht => rgprod_any A na ca a A na ca a na w hs ht XA.out XA.out (by omega) (by omega)
  have p3 := fun w hs ht => rgprod_any A2 nb cb b A2 nb cb b na w hs ht XB.out XB.out (by omega) (by omega)
  rw [show prodTo a b na (sumTo a na na) (sumTo b na na) na = prodG a b na from rfl] at pb
  obtain ⟨P, hP⟩ : ∃ v, prodG a b na = v := ⟨_, rfl⟩
  obtain ⟨PA, hPA⟩ : ∃ v, prodG a a na = v := ⟨_, rfl⟩
  obtain ⟨PB, hPB⟩ : ∃ v, prodG b b na = v := ⟨_, rfl⟩
  rw [hP] at hq pb p1
  rw [hPA] at hq p2
  rw [hPB] at hq p3
  have i1 : IntKind.i64.wrap (2 * P) = 2 * P := IntWalk.i64_in _ (by omega)
  have hq2 : q = true ↔ 0 < P ∧ PA ≤ 2 * P ∧ PB ≤ 2 * P := by
    rw [hq]
    exact ⟨fun h => h.2.2.2.2, fun h => ⟨XA.out, XB.out, by rw [HLA.out]; omega, by rw [HLB.out]; omega, h⟩⟩
  have HQ2 := Lib.hid hq2
  clear hq hq2 hP hPA hPB pb
  go_enter Try.func16, Try.ntmps16
  go_wp2_with fail
  refine (rgmay_any A na ca a _ HS.out).mono ?_
  rintro e wx ⟨rfl, rfl⟩
  rw [XA.out]
  go_wp2_with fail
  refine (rgmay_any A2 nb cb b _ HT.out).mono ?_
  rintro e wx ⟨rfl, rfl⟩
  rw [XB.out]
  go_wp2_with fail
  refine (p1 _ HS.out HT.out).mono ?_
  rintro e w3 ⟨rfl, hb3⟩
  have s3 := HS.out.keep hb3; have t3 := HT.out.keep hb3
  by_cases g0 : 0 < P
  case neg =>
    have e0 : decide (0 < P) = false := decide_eq_false g0
    have hF : q = false := Bool.eq_false_iff.2 (fun h => g0 (HQ2.out.1 h).1)
    subst hF
    go_wp2_with fail
    go_ret
    exact ⟨rfl, hb3⟩
  case pos =>
  have e0 : decide (0 < P) = true := decide_eq_true g0
  go_wp2_with fail
  refine (p2 _ s3 s3).mono ?_
  rintro e w4 ⟨rfl, hb4⟩
  have t4 := t3.keep hb4
  have b4 := hb3.trans (hb4.mono hb3.size)
  by_cases g1 : PA ≤ 2 * P
  case neg =>
    have e1 : decide (PA ≤ 2 * P) = false := decide_eq_false g1
    have hF : q = false := Bool.eq_false_iff.2 (fun h => g1 (HQ2.out.1 h).2.1)
    subst hF
    go_wp2_with fail
    go_ret
    exact ⟨rfl, b4⟩
  case pos =>
  have e1 : decide (PA ≤ 2 * P) = true := decide_eq_true g1
  go_wp2_with fail
  refine (p3 _ t4 t4).mono ?_
  rintro e w5 ⟨rfl, hb5⟩
  have b5 := b4.trans (hb5.mono b4.size)
  by_cases g2 : PB ≤ 2 * P
  case neg =>
    have e2 : decide (PB ≤ 2 * P) = false := decide_eq_false g2
    have hF : q = false := Bool.eq_false_iff.2 (fun h => g2 (HQ2.out.1 h).2.2)
    subst hF
    go_wp2_with fail
    go_ret
    exact ⟨rfl, b5⟩
  case pos =>
  have e2 : decide (PB ≤ 2 * P) = true := decide_eq_true g2
  have hT : q = true := HQ2.out.2 ⟨g0, g1, g2⟩
  subst hT
  go_wp2_with fail
  go_ret
  exact ⟨rfl, b5⟩

/-- a list of the call's own and an error -/
def TellA (w w' : World) (e : Ending) (x : List Int × Int) : Prop := ∃ R m d, e = .returned (.tuple #[.slice R m d, .int .i64 x.2]) ∧ Sni w' w.heap.size R m d x.1 ∧ Below w.heap.size w w'

set_option maxRecDepth 100000 in
set_option maxHeartbeats 8000000 in
theorem rgadd_any (A : Option Addr) (n c : Nat) (l : List Int) (d : Int) (w : World) (hs : Si w A n c l) : Calls Try.prog 11 #[.slice A n c, .int .i64 d] w fun e w' => TellA w w' e (addG l d) := by
  unfold TellA
  obtain ⟨B, hB⟩ : ∃ B, w.heap.size = B := ⟨_, rfl⟩
  rw [hB]
  have HB := Lib.hid hB
  have hl := hs.rd.len
  have m1 := hs.le; have m2 := hs.max
  unfold maxLen at m2
  obtain ⟨x, hx⟩ : ∃ x, addG l d = x := ⟨_, rfl⟩
  rw [hx]
  have HX := Lib.hid hx; have HL := Lib.hid hl; have HS := Lib.hid hs; have HN := Lib.hid hs.nil
  clear hx hl hs hB
  go_enter Try.func11, Try.ntmps11
  go_wp2_with fail
  refine (rgmay_any A n c l _ HS.out).mono ?_
  rintro e wx ⟨rfl, rfl⟩
  cases hk : mayG l with
  | false =>
    have hx := HX.out
    rw [add_no (fun h => by have h1 := h.1; rw [hk] at h1; cases h1)] at hx
    subst hx
    clear HX
    go_wp2_with fail
    go_ret2
    exact ⟨none, 0, 0, rfl, Sni.none _ _, Below.refl _ _⟩
  | true =>
  have HK := Lib.hid hk; clear hk
  by_cases c0 : d < 0
  case pos =>
    have d0 : decide (d < 0) = true := decide_eq_true c0
    have hx := HX.out
    rw [add_no (fun h => by have h1 := h.2; omega)] at hx
    subst hx
    clear HX
    go_wp2_with fail
    go_ret2
    exact ⟨none, 0, 0, rfl, Sni.none _ _, Below.refl _ _⟩
  case neg =>
  have d0 : decide (d < 0) = false := decide_eq_false c0
  by_cases c1 : 262144 < d
  case pos =>
    have d1 : decide (262144 < d) = true := decide_eq_true c1
    have hx := HX.out
    rw [add_no (fun h => by have h1 := h.2; omega)] at hx
    subst hx
    clear HX
    go_wp2_with fail
    go_ret2
    exact ⟨none, 0, 0, rfl, Sni.none _ _, Below.refl _ _⟩
  case neg =>
  have d1 : decide (262144 < d) = false := decide_eq_false c1
  have hok : AddOk l d := ⟨HK.out, by omega, by omega⟩
  have hx := HX.out
  rw [add_ok hok] at hx
  subst hx
  have hn : n ≤ 16 := by have := ((mayG_iff l).1 HK.out).2; rw [HL.out] at this; exact this
  have WD : Hid (W64 d) := Lib.hid (by unfold W64; omega)
  clear HX hok m1 m2
  have hBs : B ≤ w.heap.size := by have := HB.out; omega
  go_upto_region 4 with fail
  go_upto_region 5 with (first
    | (at_builtin; go_loud (refine wpList_appi w rfl (.const (.slice none 0 0)) (.tmp 20) 25 rfl B 3 Try.underlying25 info_int _ 0 [] rfl (Goti.nil _ _ _) rfl HN.out HS.out.rd (by omega) hBs ?_; intro v1 w1 hg1 hgr1 _; have hb1 : Below B w w1 := (Below.refl _ _).grown hgr1 hBs (fun k hk => by cases hk); have g1 : Goti w1 B 3 v1 n l := (by have := hg1; simpa using this); have hz1 : B ≤ w1.heap.size := Nat.le_trans hBs hgr1.size; clear hg1 hgr1))
    | (at_builtin; go_loud (refine wpList_appi _ rfl (.tmp 21) (.tmp 23) 25 rfl B 3 Try.underlying25 info_int _ _ _ rfl (g1.alloc (.cells #[.int .i64 d] 3)) rfl (fun h => by cases h) (ri_one w1 WD.out 3) (by omega) (by simp; omega) ?_; intro v2 w2 hg2 hgr2 _)))
  have b2 : Below B w w2 := (hb1.alloc hz1 (.cells #[.int .i64 d] 3)).grown hgr2 (by simp; omega) (fun k h => by have := (g1.row.lt k h).1; omega)
  obtain ⟨R, c2, hv, hsn⟩ := hg2.sni
  subst hv
  have hle := hsn.si.le
  clear hg2 hgr2 g1 hb1
  by_cases h16 : n = 16
  case pos =>
    have dl : decide ((16 : Int) < (n : Int) + 1) = true := decide_eq_true (by omega)
    have dl' : decide (16 < n + 1) = true := decide_eq_true (by omega)
    obtain ⟨d2, rfl⟩ : ∃ d2, c2 = d2 + 1 := ⟨c2 - 1, by omega⟩
    have hcut : ∀ w, (Instr.slice 25 (.slice R (n + 1) (d2 + 1)) (some (.int .i64 1)) none none).run Try.prog w = .ok (.slice (cutI R 1 (d2 + 1)) n d2) w := fun w => run_cutI Try.prog 25 3 Try.underlying25 info_int R 1 n d2 w (by omega) (by omega)
    have hs2 := hsn.cut (k := 1) (m := n) (d := d2) rfl rfl
    have hp : pushG l d = (l ++ [d]).drop 1 := if_pos (by rw [HL.out]; omega)
    rw [← hp] at hs2
    have H2 := Lib.hid hs2
    clear hsn hp hs2 h16
    go_wp2_with fail
    go_ret2
    exact ⟨_, n, d2, rfl, H2.out, b2⟩
  case neg =>
  have dl : decide ((16 : Int) < (n : Int) + 1) = false := decide_eq_false (by omega)
  have dl' : decide (16 < n + 1) = false := decide_eq_false (by omega)
  have hp : pushG l d = l ++ [d] := if_neg (by rw [HL.out]; omega)
  rw [← hp] at hsn
  have H2 := Lib.hid hsn
  clear hsn hp h16
  go_wp2_with fail
  go_ret2
  exact ⟨_, n + 1, c2, rfl, H2.out, b2⟩
end Go.Proofs.Ytbaaglgoodckmaa
