/- Package ecf as it landed: Pick; all contracts as contracts of the calls. -/
import Derived.Test.YtmclffbjdkoneaaEcL3
import Derived.Laws.EntriesVeiled
import Derived.Lib.MinMax
import Derived.Shelf.Abstract
namespace Go.Proofs.Ytmclffbjdkoneaa
open Go.RowKit
set_option linter.unusedVariables false
set_option linter.unusedSimpArgs false


theorem ec_same (l : List Chv) (n : Nat) (mss : Int) (h : 0 ≤ bestI (fun x => roomB x mss) l n) : 0 ≤ bestI chB l n ∧ (roomB (ge l (bestI chB l n).toNat) mss = true → bestI chB l n = bestI (fun x => roomB x mss) l n) ∧ (roomB (ge l (bestI chB l n).toNat) mss = false → bestI chB l n ≠ bestI (fun x => roomB x mss) l n) := by
  have hF := best_ok chB l n
  have hS := best_ok (fun x => roomB x mss) l n
  have rs := hS.holds h
  have cs := (chB_iff _).2 ((roomB_iff _ _).1 rs).1
  generalize bestI (fun x => roomB x mss) l n = s at *
  have h1 := hS.hi
  have hF0 : 0 ≤ bestI chB l n := Int.not_lt.1 (fun hn => by rw [hF.none hn s.toNat (by omega)] at cs; cases cs)
  generalize bestI chB l n = f at *
  have h2 := hF.hi
  refine ⟨hF0, fun hr => ?_, fun hr e => by rw [e, rs] at hr; cases hr⟩
  have l1 := hS.least h f.toNat (by omega) hr
  have l2 := hF.least hF0 s.toNat (by omega) cs
  rcases Int.lt_trichotomy f s with g | g | g
  · have := hS.first h f.toNat (by omega) hr; omega
  · exact g
  · have := hF.first hF0 s.toNat (by omega) cs; omega
theorem pick_none (l : List Chv) (bytes mss : Int) (waits : Bool) (h : bestI (fun x => roomB x mss) l l.length < 0) : pickR l bytes mss waits = (-1, false) := by
  unfold pickR; rw [if_pos h]; split <;> rfl
theorem pick_far (l : List Chv) (bytes mss : Int) (waits : Bool) (h : ¬ (l.length ≤ 4 ∧ 1 ≤ bytes ∧ bytes ≤ 1099511627776)) : pickR l bytes mss waits = (-1, false) := by
  unfold pickR; rw [if_neg (fun q => h ⟨q.1, q.2.1, q.2.2.1⟩)]
theorem pick_some (l : List Chv) (bytes mss : Int) (waits : Bool) (h : l.length ≤ 4 ∧ 1 ≤ bytes ∧ bytes ≤ 1099511627776) (hs : 0 ≤ bestI (fun x => roomB x mss) l l.length) : pickR l bytes mss waits =
    if roomB (ge l (bestI chB l l.length).toNat) mss = true then (bestI (fun x => roomB x mss) l l.length, false)
     else if waitB (ge l (bestI chB l l.length).toNat) (ge l (bestI (fun x => roomB x mss) l l.length).toNat) bytes waits = true then (-1, true)
     else (bestI (fun x => roomB x mss) l l.length, false) := by
  have hr := (roomB_iff _ _).1 ((best_ok (fun x => roomB x mss) l l.length).holds hs)
  unfold pickR
  rw [if_pos ⟨h.1, h.2.1, h.2.2, hr.2.1, hr.2.2.1⟩, if_neg (by omega)]

set_option maxRecDepth 100000 in
set_option maxHeartbeats 16000000 in
theorem ecpick_any (A : Option Addr) (n c : Nat) (l : List Chv) (bytes mss : Int) (waits : Bool) (w : World) (hs : Se w A n c l) : Calls Try.prog 9 #[.slice A n c, .int .i64 bytes, .int .i64 mss, .bool waits] w fun e w' => e = .returned (.tuple #[.int .i64 (pickR l bytes mss waits).1, .bool (pickR l bytes mss waits).2]) ∧ Below w.heap.size w w' := by
  obtain ⟨B, hB⟩ : ∃ B, w.heap.size = B := ⟨_, rfl⟩
  have hl := hs.rd.len
  have m1 := hs.le; have m2 := hs.max
  have m3 : n ≤ 9223372036854775807 := by unfold maxLen at m2; omega
  have e0 := (Bx.new w 22 [.slice A n c]).alloc (.cells #[.int .i64 mss] 3)
  have y0 := Bx.new (w.alloc (.cells #[.slice A n c] 22)) 3 [.int .i64 mss]
  rw [World.size_alloc] at y0
  rw [hB] at e0 y0 ⊢
  have b0 : Below B w ((w.alloc (.cells #[.slice A n c] 22)).alloc (.cells #[.int .i64 mss] 3)) := by rw [← hB]; exact ((Below.refl _ _).alloc (Nat.le_refl _) _).alloc (by simp) _
  obtain ⟨q, hq⟩ : ∃ q, pickR l bytes mss waits = q := ⟨_, rfl⟩
  rw [hq]
  have HQ := Lib.hid hq; have HL := Lib.hid hl; have HSE := Lib.hid hs; have HB := Lib.hid hB
  clear hq hl hs m1 m2
  go_enter Try.func9, Try.ntmps9
  go_upto_region 1 with fail
  try rw [hB]
  generalize (w.alloc (.cells #[.slice A n c] 22)).alloc (.cells #[.int .i64 mss] 3) = w1 at e0 y0 b0 ⊢
  have c0 := e0.cell 0 rfl
  clear hB
  by_cases c4 : 4 < n
  case pos =>
    have d4 : decide (4 < n) = true := decide_eq_true c4
    have x4 : decide ((4 : Int) < (n : Int)) = true := decide_eq_true (by omega)
    have hF : q = (-1, false) := by rw [← HQ.out]; exact pick_far _ _ _ _ (fun h => by have := HL.out; omega)
    subst hF
    go_wp2_with (go_at_call 15; refine (ein_any _ _ _ _).mono ?_; rintro e wx ⟨rfl, rfl⟩)
    go_ret2
    exact ⟨rfl, b0⟩
  case neg =>
  have d4 : decide (4 < n) = false := decide_eq_false c4
  have x4 : decide ((4 : Int) < (n : Int)) = false := decide_eq_false (by omega)
  cases hb : einB bytes 1 1099511627776 with
  | false =>
    have hF : q = (-1, false) := by rw [← HQ.out]; exact pick_far _ _ _ _ (fun h => by rw [(ein_iff _ _ _).2 h.2] at hb; cases hb)
    subst hF
    go_wp2_with (go_at_call 15; refine (ein_any _ _ _ _).mono ?_; rintro e wx ⟨rfl, rfl⟩)
    go_ret2
    exact ⟨rfl, b0⟩
  | true =>
  have hbb := (ein_iff _ _ _).1 hb
  have hok : l.length ≤ 4 ∧ 1 ≤ bytes ∧ bytes ≤ 1099511627776 := ⟨by have := HL.out; omega, hbb⟩
  have HOK := Lib.hid hok
  have hs1 : Se w1 A n c l := HSE.out.keep (by rw [HB.out]; exact b0)
  have HS1 := Lib.hid hs1
  go_upto_region 4 with (go_at_call 15; refine (ein_any _ _ _ _).mono ?_; rintro e wx ⟨rfl, rfl⟩)
  clear hok c4 d4 x4 c0 hbb hs1
  go_wp2_with fail
  refine (ecfast_any 17 ent_room #[.pointer (some ⟨B + 1, 0, none⟩)] (fun x => roomB x mss) A n c l B w1 HS1.out e0 (Lib.hid (fun W hW x => roomc_any x mss (B + 1) W (y0.kept hW)))).mono ?_
  rintro e w2 ⟨rfl, hb2⟩
  have e2 := e0.kept hb2; have b2 := b0.trans (hb2.mono (Nat.le_of_lt e0.lt)); have hs2 := HS1.out.keep hb2
  have HS2 := Lib.hid hs2
  have hS := HL.out
  obtain ⟨si, hsi⟩ : ∃ s, bestI (fun x => roomB x mss) l n = s := ⟨_, rfl⟩
  rw [hsi]
  have HSI := Lib.hid hsi
  clear hsi hb2 y0 e0 b0 HS1 hs2 hS
  go_upto_region 5 with fail
  by_cases cs0 : si < 0
  case pos =>
    have ds0 : decide (si < 0) = true := decide_eq_true cs0
    have hF : q = (-1, false) := by rw [← HQ.out]; exact pick_none _ _ _ _ (by rw [HL.out, HSI.out]; exact cs0)
    subst hF
    go_wp2_with fail
    go_ret2
    exact ⟨rfl, b2⟩
  case neg =>
  have ds0 : decide (si < 0) = false := decide_eq_false cs0
  have hms := ec_same l n mss (by rw [HSI.out]; omega)
  have hpk := pick_some l bytes mss waits HOK.out (by rw [HL.out, HSI.out]; omega)
  rw [HL.out, HSI.out, HQ.out] at hpk
  rw [HSI.out] at hms
  go_upto_region 7 with fail
  go_wp2_with fail
  refine (ecfast_any 11 ent_may #[] chB A n c l B w2 HS2.out e2 (Lib.hid (fun W hW x => by simpa using ecmay_any x W))).mono ?_
  rintro e w3 ⟨rfl, hb3⟩
  have e3 := e2.kept hb3; have b3 := b2.trans (hb3.mono (Nat.le_of_lt e2.lt)); have hs3 := HS2.out.keep hb3
  have hbF := best_ok chB l n; have hbS := best_ok (fun x => roomB x mss) l n
  obtain ⟨fi, hfi⟩ : ∃ s, bestI chB l n = s := ⟨_, rfl⟩
  rw [hfi] at hms hpk hbF ⊢
  rw [HSI.out] at hbS
  obtain ⟨f, rfl⟩ : ∃ f : Nat, fi = (f : Int) := ⟨fi.toNat, by have := hms.1; omega⟩
  obtain ⟨s, rfl⟩ : ∃ s : Nat, si = (s : Int) := ⟨si.toNat, by omega⟩
  rw [Int.toNat_natCast] at hms hpk
  rw [Int.toNat_natCast] at hpk
  have hfn : f < n := by have := hbF.hi; omega
  have hsn : s < n := by have := hbS.hi; omega
  obtain ⟨bb, o, hA, hbl, hc0⟩ := hs3.rd.at_ (by omega)
  subst hA
  obtain ⟨x, hx⟩ : ∃ x, ge l f = x := ⟨_, rfl⟩
  obtain ⟨y, hy⟩ : ∃ y, ge l s = y := ⟨_, rfl⟩
  have hchx := hbF.holds (by omega); have hchy := hbS.holds (by omega)
  rw [Int.toNat_natCast, hx] at hchx
  simp only [Int.toNat_natCast, hy] at hchy
  rw [hx] at hms hpk
  rw [hy] at hpk
  have hco : ∀ W, Below B w W → ∀ i, i < n → ∀ j u, (El.cells (ge l i))[j]? = some u → W.cell? ⟨bb, o + i * 5 + j, none⟩ = some u := fun W hW i hi j u hu => by
    obtain ⟨bb', o', hA', _, hc'⟩ := (HSE.out.keep (show Below w.heap.size w W by rw [HB.out]; exact hW)).rd.at_ (by omega)
    cases hA'
    exact hc' i hi j u hu
  have HC := Lib.hid hco; have HXE := Lib.hid hx; have HYE := Lib.hid hy; have HPK := Lib.hid hpk; have HMS := Lib.hid hms
  have okx := (chB_iff x).1 hchx; have oky := ((roomB_iff y mss).1 hchy).1
  have OX := Lib.hid okx; have OY := Lib.hid oky
  have hw := fun W => ecworth_any x y bytes waits W OX.out OY.out HOK.out.2
  obtain ⟨wb, hwb⟩ : ∃ wb, waitB x y bytes waits = wb := ⟨_, rfl⟩
  rw [hwb] at hw
  have HWB := Lib.hid hwb
  have HW := Lib.hid hw
  have hse : ∀ W, Below B w W → True := fun _ _ => trivial
  clear hw hwb hse okx oky hco hx hy hchx hchy hbF hbS hpk hms hc0 hbl hs3 hfi hb3 e2 b2 HS2 cs0 ds0
  go_upto_region 8 with fail
  cases hr : roomB x mss with
  | true =>
    have hfs := HMS.out.2.1 hr
    have dn : ((f : Int) != (s : Int)) = false := by rw [hfs]; simp
    have hF : q = ((s : Int), false) := by rw [HPK.out, if_pos hr]
    subst hF
    clear hfs hr
    have br1 : Below B w w3.drew := b3.drew
    have er1 := e3.drew
    refine wp_region_tail 15 16 (fun (W : World) => Below B w W ∧ W.cell? ⟨B, 0, none⟩ = some (.slice (some ⟨bb, o, none⟩) n c)) (by kernel_rfl) (by rfl) (by decide) ?_
    have HS : ((fun (W : World) => Below B w W ∧ W.cell? ⟨B, 0, none⟩ = some (.slice (some ⟨bb, o, none⟩) n c))) _ := ⟨br1, er1.cell 0 rfl⟩
    refine wpAnyT_take (i := 0) (v := ?vv1) rfl (by kernel_rfl) (fun _ _ _ h => h) (Or.inl ⟨by rfl, fun w hSw => ?yy1⟩) HS ?rr1
    case yy1 =>
      (try dsimp only at hSw); go_simp
      try with_reducible rfl
    try simp only [Act.put, List.setIfInBounds_toArray, List.set_cons_zero, List.set_cons_succ]
    refine wpAnyT_take (i := 1) (v := ?vv2) rfl (by kernel_rfl) (fun _ _ _ h => h) (Or.inl ⟨by rfl, fun w hSw => ?yy2⟩) HS ?rr2
    case yy2 =>
      (try dsimp only at hSw); go_simp
      try with_reducible rfl
    try simp only [Act.put, List.setIfInBounds_toArray, List.set_cons_zero, List.set_cons_succ]
    refine wpAnyT_take (i := 2) (v := ?vv3) rfl (by kernel_rfl) (fun _ _ _ h => h) (Or.inl ⟨by rfl, fun w hSw => ?yy3⟩) HS ?rr3
    case yy3 =>
      (try dsimp only at hSw); go_simp
      try with_reducible rfl
    try simp only [Act.put, List.setIfInBounds_toArray, List.set_cons_zero, List.set_cons_succ]
    refine wpAnyT_take (i := 3) (v := ?vv4) rfl (by kernel_rfl) (fun _ _ _ h => h) (Or.inl ⟨by rfl, fun w hSw => ?yy4⟩) HS ?rr4
    case yy4 =>
      (try dsimp only at hSw); go_simp
      try with_reducible rfl
    try simp only [Act.put, List.setIfInBounds_toArray, List.set_cons_zero, List.set_cons_succ]
    refine wpAnyT_take (i := 4) (v := undef) rfl (by kernel_rfl) (fun _ _ _ h => h) (Or.inr ⟨by kernel_rfl, rfl⟩) HS ?_
    try simp only [Act.put, List.setIfInBounds_toArray, List.set_cons_zero, List.set_cons_succ]
    refine wpAnyT_take (i := 5) (v := undef) rfl (by kernel_rfl) (fun _ _ _ h => h) (Or.inr ⟨by kernel_rfl, rfl⟩) HS ?_
    try simp only [Act.put, List.setIfInBounds_toArray, List.set_cons_zero, List.set_cons_succ]
    refine wpAnyT_take (i := 6) (v := undef) rfl (by kernel_rfl) (fun _ _ _ h => h) (Or.inr ⟨by kernel_rfl, rfl⟩) HS ?_
    try simp only [Act.put, List.setIfInBounds_toArray, List.set_cons_zero, List.set_cons_succ]
    refine wpAnyT_take (i := 7) (v := undef) rfl (by kernel_rfl) (fun _ _ _ h => h) (Or.inr ⟨by kernel_rfl, rfl⟩) HS ?_
    try simp only [Act.put, List.setIfInBounds_toArray, List.set_cons_zero, List.set_cons_succ]
    refine wpAnyT_take (i := 8) (v := undef) rfl (by kernel_rfl) (fun _ _ _ h => h) (Or.inr ⟨by kernel_rfl, rfl⟩) HS ?_
    try simp only [Act.put, List.setIfInBounds_toArray, List.set_cons_zero, List.set_cons_succ]
    refine wpAnyT_take (i := 9) (v := undef) rfl (by kernel_rfl) (fun _ _ _ h => h) (Or.inr ⟨by kernel_rfl, rfl⟩) HS ?_
    try simp only [Act.put, List.setIfInBounds_toArray, List.set_cons_zero, List.set_cons_succ]
    refine wpAnyT_take (i := 10) (v := undef) rfl (by kernel_rfl) (fun _ _ _ h => h) (Or.inr ⟨by kernel_rfl, rfl⟩) HS ?_
    try simp only [Act.put, List.setIfInBounds_toArray, List.set_cons_zero, List.set_cons_succ]
    refine wpAnyT_take (i := 11) (v := undef) rfl (by kernel_rfl) (fun _ _ _ h => h) (Or.inr ⟨by kernel_rfl, rfl⟩) HS ?_
    try simp only [Act.put, List.setIfInBounds_toArray, List.set_cons_zero, List.set_cons_succ]
    refine wpAnyT_take (i := 12) (v := undef) rfl (by kernel_rfl) (fun _ _ _ h => h) (Or.inr ⟨by kernel_rfl, rfl⟩) HS ?_
    try simp only [Act.put, List.setIfInBounds_toArray, List.set_cons_zero, List.set_cons_succ]
    refine wpAnyT_take (i := 13) (v := undef) rfl (by kernel_rfl) (fun _ _ _ h => h) (Or.inr ⟨by kernel_rfl, rfl⟩) HS ?_
    try simp only [Act.put, List.setIfInBounds_toArray, List.set_cons_zero, List.set_cons_succ]
    refine wpAnyT_take (i := 14) (v := undef) rfl (by kernel_rfl) (fun _ _ _ h => h) (Or.inr ⟨by kernel_rfl, rfl⟩) HS ?_
    try simp only [Act.put, List.setIfInBounds_toArray, List.set_cons_zero, List.set_cons_succ]
    refine ⟨by kernel_rfl, ?_⟩
    simp only [List.drop_succ_cons, List.drop_zero]
    go_wp2_with fail
    go_ret2
    exact ⟨rfl, HS.1⟩
  | false =>
  have hfs := HMS.out.2.2 hr
  have dn : ((f : Int) != (s : Int)) = true := by simpa using hfs
  have hp := HPK.out
  rw [hr, if_neg (by simp), HWB.out] at hp
  have HP := Lib.hid hp
  clear hfs hr hp
  have br1 : Below B w w3.drew := b3.drew
  have er1 := e3.drew
  refine wp_region_tail 15 16 (fun (W : World) => Below B w W ∧ W.cell? ⟨B, 0, none⟩ = some (.slice (some ⟨bb, o, none⟩) n c) ∧ W.cell? ⟨bb, o + f * 5, none⟩ = some (.bool x.up) ∧ W.cell? ⟨bb, o + f * 5 + 1, none⟩ = some (.int .i64 x.cwnd) ∧ W.cell? ⟨bb, o + f * 5 + 2, none⟩ = some (.int .i64 x.flight) ∧ W.cell? ⟨bb, o + f * 5 + 3, none⟩ = some (.int .i64 x.srtt) ∧ W.cell? ⟨bb, o + f * 5 + 4, none⟩ = some (.int .i64 x.vr) ∧ W.cell? ⟨bb, o + s * 5, none⟩ = some (.bool y.up) ∧ W.cell? ⟨bb, o + s * 5 + 1, none⟩ = some (.int .i64 y.cwnd) ∧ W.cell? ⟨bb, o + s * 5 + 2, none⟩ = some (.int .i64 y.flight) ∧ W.cell? ⟨bb, o + s * 5 + 3, none⟩ = some (.int .i64 y.srtt) ∧ W.cell? ⟨bb, o + s * 5 + 4, none⟩ = some (.int .i64 y.vr)) (by kernel_rfl) (by rfl) (by decide) ?_
  have HS : ((fun (W : World) => Below B w W ∧ W.cell? ⟨B, 0, none⟩ = some (.slice (some ⟨bb, o, none⟩) n c) ∧ W.cell? ⟨bb, o + f * 5, none⟩ = some (.bool x.up) ∧ W.cell? ⟨bb, o + f * 5 + 1, none⟩ = some (.int .i64 x.cwnd) ∧ W.cell? ⟨bb, o + f * 5 + 2, none⟩ = some (.int .i64 x.flight) ∧ W.cell? ⟨bb, o + f * 5 + 3, none⟩ = some (.int .i64 x.srtt) ∧ W.cell? ⟨bb, o + f * 5 + 4, none⟩ = some (.int .i64 x.vr) ∧ W.cell? ⟨bb, o + s * 5, none⟩ = some (.bool y.up) ∧ W.cell? ⟨bb, o + s * 5 + 1, none⟩ = some (.int .i64 y.cwnd) ∧ W.cell? ⟨bb, o + s * 5 + 2, none⟩ = some (.int .i64 y.flight) ∧ W.cell? ⟨bb, o + s * 5 + 3, none⟩ = some (.int .i64 y.srtt) ∧ W.cell? ⟨bb, o + s * 5 + 4, none⟩ = some (.int .i64 y.vr))) _ := ⟨br1, er1.cell 0 rfl, HC.out _ br1 f hfn 0 _ (by rw [HXE.out]; rfl), HC.out _ br1 f hfn 1 _ (by rw [HXE.out]; rfl), HC.out _ br1 f hfn 2 _ (by rw [HXE.out]; rfl), HC.out _ br1 f hfn 3 _ (by rw [HXE.out]; rfl), HC.out _ br1 f hfn 4 _ (by rw [HXE.out]; rfl), HC.out _ br1 s hsn 0 _ (by rw [HYE.out]; rfl), HC.out _ br1 s hsn 1 _ (by rw [HYE.out]; rfl), HC.out _ br1 s hsn 2 _ (by rw [HYE.out]; rfl), HC.out _ br1 s hsn 3 _ (by rw [HYE.out]; rfl), HC.out _ br1 s hsn 4 _ (by rw [HYE.out]; rfl)⟩
  refine wpAnyT_take (i := 0) (v := ?vv5) rfl (by kernel_rfl) (fun _ _ _ h => h) (Or.inl ⟨by rfl, fun w hSw => ?yy5⟩) HS ?rr5
  case yy5 =>
    (try dsimp only at hSw); go_simp
    try with_reducible rfl
  try simp only [Act.put, List.setIfInBounds_toArray, List.set_cons_zero, List.set_cons_succ]
  refine wpAnyT_take (i := 1) (v := ?vv6) rfl (by kernel_rfl) (fun _ _ _ h => h) (Or.inl ⟨by rfl, fun w hSw => ?yy6⟩) HS ?rr6
  case yy6 =>
    (try dsimp only at hSw); go_simp
    try with_reducible rfl
  try simp only [Act.put, List.setIfInBounds_toArray, List.set_cons_zero, List.set_cons_succ]
  refine wpAnyT_take (i := 2) (v := ?vv7) rfl (by kernel_rfl) (fun _ _ _ h => h) (Or.inl ⟨by rfl, fun w hSw => ?yy7⟩) HS ?rr7
  case yy7 =>
    (try dsimp only at hSw); go_simp
    try with_reducible rfl
  try simp only [Act.put, List.setIfInBounds_toArray, List.set_cons_zero, List.set_cons_succ]
  refine wpAnyT_take (i := 3) (v := ?vv8) rfl (by kernel_rfl) (fun _ _ _ h => h) (Or.inl ⟨by rfl, fun w hSw => ?yy8⟩) HS ?rr8
  case yy8 =>
    (try dsimp only at hSw); go_simp
    try with_reducible rfl
  try simp only [Act.put, List.setIfInBounds_toArray, List.set_cons_zero, List.set_cons_succ]
  refine wpAnyT_take (i := 4) (v := ?vv9) rfl (by kernel_rfl) (fun _ _ _ h => h) (Or.inl ⟨by rfl, fun w hSw => ?yy9⟩) HS ?rr9
  case yy9 =>
    (try dsimp only at hSw); go_simp
    try with_reducible rfl
  try simp only [Act.put, List.setIfInBounds_toArray, List.set_cons_zero, List.set_cons_succ]
  refine wpAnyT_take (i := 5) (v := ?vv10) rfl (by kernel_rfl) (fun _ _ _ h => h) (Or.inl ⟨by rfl, fun w hSw => ?yy10⟩) HS ?rr10
  case yy10 =>
    (try dsimp only at hSw); go_simp
    try with_reducible rfl
  try simp only [Act.put, List.setIfInBounds_toArray, List.set_cons_zero, List.set_cons_succ]
  refine wpAnyT_take (i := 6) (v := ?vv11) rfl (by kernel_rfl) (fun _ _ _ h => h) (Or.inl ⟨by rfl, fun w hSw => ?yy11⟩) HS ?rr11
  case yy11 =>
    (try dsimp only at hSw); go_simp
    try with_reducible rfl
  try simp only [Act.put, List.setIfInBounds_toArray, List.set_cons_zero, List.set_cons_succ]
  refine wpAnyT_take (i := 7) (v := ?vv12) rfl (by kernel_rfl) (fun _ _ _ h => h) (Or.inl ⟨by rfl, fun w hSw => ?yy12⟩) HS ?rr12
  case yy12 =>
    (try dsimp only at hSw); go_simp
    try with_reducible rfl
  try simp only [Act.put, List.setIfInBounds_toArray, List.set_cons_zero, List.set_cons_succ]
  refine wpAnyT_take (i := 8) (v := ?vv13) rfl (by kernel_rfl) (fun _ _ _ h => h) (Or.inl ⟨by rfl, fun w hSw => ?yy13⟩) HS ?rr13
  case yy13 =>
    (try dsimp only at hSw); go_simp
    try with_reducible rfl
  try simp only [Act.put, List.setIfInBounds_toArray, List.set_cons_zero, List.set_cons_succ]
  refine wpAnyT_take (i := 9) (v := ?vv14) rfl (by kernel_rfl) (fun _ _ _ h => h) (Or.inl ⟨by rfl, fun w hSw => ?yy14⟩) HS ?rr14
  case yy14 =>
    (try dsimp only at hSw); go_simp
    try with_reducible rfl
  try simp only [Act.put, List.setIfInBounds_toArray, List.set_cons_zero, List.set_cons_succ]
  refine wpAnyT_take (i := 10) (v := ?vv15) rfl (by kernel_rfl) (fun _ _ _ h => h) (Or.inl ⟨by rfl, fun w hSw => ?yy15⟩) HS ?rr15
  case yy15 =>
    (try dsimp only at hSw); go_simp
    try with_reducible rfl
  try simp only [Act.put, List.setIfInBounds_toArray, List.set_cons_zero, List.set_cons_succ]
  refine wpAnyT_take (i := 11) (v := ?vv16) rfl (by kernel_rfl) (fun _ _ _ h => h) (Or.inl ⟨by rfl, fun w hSw => ?yy16⟩) HS ?rr16
  case yy16 =>
    (try dsimp only at hSw); go_simp
    try with_reducible rfl
  try simp only [Act.put, List.setIfInBounds_toArray, List.set_cons_zero, List.set_cons_succ]
  refine wpAnyT_take (i := 12) (v := ?vv17) rfl (by kernel_rfl) (fun _ _ _ h => h) (Or.inl ⟨by rfl, fun w hSw => ?yy17⟩) HS ?rr17
  case yy17 =>
    (try dsimp only at hSw); go_simp
    try with_reducible rfl
  try simp only [Act.put, List.setIfInBounds_toArray, List.set_cons_zero, List.set_cons_succ]
  refine wpAnyT_take (i := 13) (v := ?vv18) rfl (by kernel_rfl) (fun _ _ _ h => h) (Or.inl ⟨by rfl, fun w hSw => ?yy18⟩) HS ?rr18
  case yy18 =>
    (try dsimp only at hSw); go_simp
    try with_reducible rfl
  try simp only [Act.put, List.setIfInBounds_toArray, List.set_cons_zero, List.set_cons_succ]
  refine wpAnyT_one (k := 14) rfl (by kernel_rfl) (by decide) (fun K hK => ?_)
  go_simp
  refine ((HW.out _).mono ?_)
  rintro e wv ⟨rfl, hbv⟩
  have bv : Below B w wv := br1.trans (hbv.mono (Nat.le_of_lt er1.lt))
  have ev := er1.kept hbv
  have HS : ((fun (W : World) => Below B w W ∧ W.cell? ⟨B, 0, none⟩ = some (.slice (some ⟨bb, o, none⟩) n c) ∧ W.cell? ⟨bb, o + f * 5, none⟩ = some (.bool x.up) ∧ W.cell? ⟨bb, o + f * 5 + 1, none⟩ = some (.int .i64 x.cwnd) ∧ W.cell? ⟨bb, o + f * 5 + 2, none⟩ = some (.int .i64 x.flight) ∧ W.cell? ⟨bb, o + f * 5 + 3, none⟩ = some (.int .i64 x.srtt) ∧ W.cell? ⟨bb, o + f * 5 + 4, none⟩ = some (.int .i64 x.vr) ∧ W.cell? ⟨bb, o + s * 5, none⟩ = some (.bool y.up) ∧ W.cell? ⟨bb, o + s * 5 + 1, none⟩ = some (.int .i64 y.cwnd) ∧ W.cell? ⟨bb, o + s * 5 + 2, none⟩ = some (.int .i64 y.flight) ∧ W.cell? ⟨bb, o + s * 5 + 3, none⟩ = some (.int .i64 y.srtt) ∧ W.cell? ⟨bb, o + s * 5 + 4, none⟩ = some (.int .i64 y.vr))) _ := ⟨bv, ev.cell 0 rfl, HC.out _ bv f hfn 0 _ (by rw [HXE.out]; rfl), HC.out _ bv f hfn 1 _ (by rw [HXE.out]; rfl), HC.out _ bv f hfn 2 _ (by rw [HXE.out]; rfl), HC.out _ bv f hfn 3 _ (by rw [HXE.out]; rfl), HC.out _ bv f hfn 4 _ (by rw [HXE.out]; rfl), HC.out _ bv s hsn 0 _ (by rw [HYE.out]; rfl), HC.out _ bv s hsn 1 _ (by rw [HYE.out]; rfl), HC.out _ bv s hsn 2 _ (by rw [HYE.out]; rfl), HC.out _ bv s hsn 3 _ (by rw [HYE.out]; rfl), HC.out _ bv s hsn 4 _ (by rw [HYE.out]; rfl)⟩
  refine hK _ _ HS ?_
  clear hK K
  try simp only [Act.put, List.setIfInBounds_toArray, List.set_cons_zero, List.set_cons_succ]
  refine ⟨by kernel_rfl, ?_⟩
  simp only [List.drop_succ_cons, List.drop_zero]
  cases wb with
  | true =>
    have hF : q = (-1, true) := by rw [HP.out, if_pos rfl]
    subst hF
    go_wp2_with fail
    go_ret2
    exact ⟨rfl, bv⟩
  | false =>
    have hF : q = ((s : Int), false) := by rw [HP.out, if_neg (by simp)]
    subst hF
    go_wp2_with fail
    go_ret2
    exact ⟨rfl, bv⟩
end Go.Proofs.Ytmclffbjdkoneaa
